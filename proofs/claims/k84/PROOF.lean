import PyProof.Rows.All
import Wide.All
import OpenK.AllK
import Wide.FinOn
import Lean
import PyProof.EqAt
import PyProof.EqKinds
import PyProof.TupleCall
import PyProof.ZipIter
import PyProof.Rows.Range3
import PyProof.EnumFor
import PyProof.SumWalk
import PyProof.EnumMake
import PyProof.EnumStmt
import OpenK.KOwn
import KE.KIsAll
import PyProof.NsDelKeeps
import KE.KSortTup
import KE.KSortAsk
import PySem.Challenge.RW_fractionroads_k84_walks_written
set_option Elab.async false
set_option linter.all false
set_option maxRecDepth 100000
/-! THE HAND LAYER, for ints, bools, texts, own classes, LISTS and tuples (index, slices, in, append, pop ..), calls, loops. Paste it whole ahead of your own text; what your proof does not reach may be deleted. -/
namespace L2
open PySem PySem.Spec PyProof.Rows

/-- a key: an int or a str -/
abbrev Key := Sum Int Str
def keyIs : Key → Value → Bool
  | .inl k, v => Value.isInt k v
  | .inr x, v => Value.isStrOf x v
def keyH (w : World) : Key → Int
  | .inl k => hashInt k
  | .inr x => hashStr w x
theorem keyIs_shape : ∀ {k : Key} {v : Value}, keyIs k v = true → (∃ i t, k = Sum.inl i ∧ v = Value.int i t) ∨ (∃ x t, k = Sum.inr x ∧ v = Value.str x t)
  | .inl i, v, h => by
    obtain ⟨t, e⟩ := Value.isInt_shape (k := i) (v := v) h
    exact .inl ⟨i, t, rfl, e⟩
  | .inr x, v, h => by
    obtain ⟨t, e⟩ := Value.isStrOf_shape (x := x) (v := v) h
    exact .inr ⟨x, t, rfl, e⟩
theorem key_ll (a b : Int) : decide ((Sum.inl a : Key) = Sum.inl b) = (a == b) := by
  by_cases e : a = b
  · subst e; simp
  · have h : ¬ (Sum.inl a : Key) = Sum.inl b := fun q => e (Sum.inl.inj q)
    rw [decide_eq_false h]
    exact (beq_eq_false_iff_ne.mpr e).symm
theorem key_rr (a b : Str) : decide ((Sum.inr a : Key) = Sum.inr b) = decide (a = b) := by
  by_cases e : a = b
  · subst e; simp
  · have h : ¬ (Sum.inr a : Key) = Sum.inr b := fun q => e (Sum.inr.inj q)
    rw [decide_eq_false h, decide_eq_false e]
theorem key_lr (a : Int) (b : Str) : decide ((Sum.inl a : Key) = Sum.inr b) = false := decide_eq_false (fun q => nomatch q)
theorem key_rl (a : Str) (b : Int) : decide ((Sum.inr a : Key) = Sum.inl b) = false := decide_eq_false (fun q => nomatch q)

def mixKind (prog : Program) (w : World) : PySem.KeyKind prog w Key where
  is := keyIs
  hash := keyH w
  inj := fun v a b ha hb => by
    rcases keyIs_shape ha with ⟨i, t, rfl, rfl⟩ | ⟨x, t, rfl, rfl⟩
    · rcases keyIs_shape hb with ⟨j, u, rfl, e⟩ | ⟨y, u, rfl, e⟩
      · injection e with e1 _; rw [e1]
      · exact nomatch e
    · rcases keyIs_shape hb with ⟨j, u, rfl, e⟩ | ⟨y, u, rfl, e⟩
      · exact nomatch e
      · injection e with e1 _; rw [e1]
  byValue := fun k v h => by
    rcases keyIs_shape h with ⟨i, t, rfl, rfl⟩ | ⟨x, t, rfl, rfl⟩ <;> rfl
  pyHash := fun hv h => by
    rcases keyIs_shape hv with ⟨i, t, rfl, rfl⟩ | ⟨x, t, rfl, rfl⟩
    · exact wpAny_pyHash_int h
    · exact wpAny_pyHash_str h
  eqBool := fun hu hv h => by
    rcases keyIs_shape hu with ⟨i, t, rfl, rfl⟩ | ⟨x, t, rfl, rfl⟩
    · rcases keyIs_shape hv with ⟨j, u, rfl, rfl⟩ | ⟨y, u, rfl, rfl⟩
      · rw [key_ll] at h; exact wpAny_eqBool_int h
      · rw [key_lr] at h; exact SeqAt.EqAt.int_str i t y u _ _ _ _ h
    · rcases keyIs_shape hv with ⟨j, u, rfl, rfl⟩ | ⟨y, u, rfl, rfl⟩
      · rw [key_rl] at h; exact SeqAt.EqAt.str_int x t j u _ _ _ _ h
      · rw [key_rr] at h; exact wpAny_eqBool_str h
  «strs» := fun k x t v h => by
    rcases keyIs_shape h with ⟨i, u, rfl, e⟩ | ⟨y, u, rfl, e⟩
    · exact nomatch e
    · injection e with e1 _
      subst e1
      cases v <;> rfl

end L2

namespace L2
open PySem PySem.Spec PyProof.Rows

/-- a value, without the heap -/
inductive V where
  | non | bl (b : Bool) | int (i : Int) | str (x : Str) | byt (b : Array UInt8) | flt (b : UInt64) | ref (a : Addr) | ty (n : String)
  deriving DecidableEq

def RelV : V → Value → Prop
  | .non, u => u = Value.none
  | .bl b, u => u = Value.bool b
  | .int i, u => ∃ t, u = Value.int i t
  | .str x, u => ∃ t, u = Value.str x t
  | .byt b, u => ∃ t, u = Value.bytes b t
  | .flt b, u => ∃ t, u = Value.float b t
  | .ref a, u => u = Value.ref a
  | .ty n, u => u = Value.type n

abbrev Vals : List V → List Value → Prop := Paired RelV
theorem Vals.length {xs : List V} {us : List Value} (r : Vals xs us) : xs.length = us.length := Paired.length r
theorem Vals.get : ∀ {xs : List V} {us : List Value} {i : Nat} {x : V}, Vals xs us → xs[i]? = some x → ∃ u, us[i]? = some u ∧ RelV x u
  | _, _, _, _, .nil, e => by simp at e
  | _, _, 0, _, .cons r _, e => by simp at e; subst e; exact ⟨_, rfl, r⟩
  | _, _, i + 1, x, .cons _ t, e => by
    obtain ⟨u, h1, h2⟩ := Vals.get (i := i) (x := x) t (by simpa using e)
    exact ⟨u, by simpa using h1, h2⟩
theorem Vals.set {x : V} {u : Value} (r : RelV x u) : ∀ {xs : List V} {us : List Value} (i : Nat), Vals xs us → Vals (xs.set i x) (us.set i u)
  | _, _, _, .nil => .nil
  | _, _, 0, .cons _ t => .cons r t
  | _, _, i + 1, .cons q t => .cons q (Vals.set r i t)
theorem Vals.append : ∀ {xs ys : List V} {us ws : List Value}, Vals xs us → Vals ys ws → Vals (xs ++ ys) (us ++ ws)
  | _, _, _, _, .nil, s => s
  | _, _, _, _, .cons r t, s => .cons r (Vals.append t s)
theorem Vals.take : ∀ {xs : List V} {us : List Value} (n : Nat), Vals xs us → Vals (xs.take n) (us.take n)
  | _, _, 0, _ => .nil
  | _, _, _ + 1, .nil => .nil
  | _, _, n + 1, .cons r t => .cons r (Vals.take n t)
theorem Vals.drop : ∀ {xs : List V} {us : List Value} (n : Nat), Vals xs us → Vals (xs.drop n) (us.drop n)
  | _, _, 0, r => r
  | _, _, _ + 1, .nil => .nil
  | _, _, n + 1, .cons _ t => Vals.drop n t
def RelO : Option V → Option Value → Prop
  | some v, some u => RelV v u
  | none, none => True
  | _, _ => False
def KV {κ : Type} : List (κ × V) → List (κ × Value) → Prop := Paired fun (p : κ × V) (q : κ × Value) => p.1 = q.1 ∧ RelV p.2 q.2

/-- a key of a dict (00_mix): an int or a text -/
def kV : Key → V
  | .inl i => .int i
  | .inr x => .str x

/-- what stands at a tracked address -/
inductive HO where
  /-- a list -/
  | lst (xs : List V)
  /-- a tuple (never changes) -/
  | tup (xs : List V)
  /-- a dict whose keys are ints and texts; one whose keys are tuples of ints and texts (the empty one is both) -/
  | dK (kvs : List (Key × V)) | dT (kvs : List (List Key × V))
  /-- a set of ints: its members, its size -/
  | set (S : Int → Bool) (n : Nat)
  /-- an instance of the class at C, its dict at dx, its attributes -/
  | ins (C dx : Addr) (fs : List (Str × V))
  /-- the dict of the instance at x -/
  | own (x : Addr)
  /-- the dict of an exception -/
  | xd (fs : List (Str × V))
  /-- a bound method, f of x -/
  | met (f x : Addr)
  /-- a range object lo, lo + 1, .. below hi -/
  | rng (lo hi : Int)
  /-- a thing that is known to the object (the script; a dict while a loop walks it): read, never written while it is so -/
  | frz (o : Obj) (u : HO)
  /-- a code object's table -/
  | tbl (ps : Array Value)
  /-- any other thing, by what is true of its one object (a def of one's own: SetO a S n := HO.ext fun h => ..) -/
  | ext (φ : Heap → Prop)

abbrev Hp := Addr → Option HO
def upd (H : Hp) (a : Addr) (o : HO) : Hp := fun b => if b = a then some o else H b
theorem upd_same {H : Hp} {a : Addr} {o : HO} : upd H a o a = some o := by unfold upd; rw [if_pos rfl]
theorem upd_ne {H : Hp} {a b : Addr} {o : HO} (h : b ≠ a) : upd H a o b = H b := by unfold upd; rw [if_neg h]
theorem upd_upd {H : Hp} {a : Addr} {o u : HO} : upd (upd H a o) a u = upd H a u := by
  funext b; unfold upd; split <;> rfl
/-- two objects of different content stand apart -/
theorem ne_of {H : Hp} {a b : Addr} {o u : HO} (h : H a = some o) (h' : H b = some u) (d : o ≠ u) : a ≠ b := by
  intro e; subst e; rw [h] at h'; exact d (Option.some.inj h')
theorem ne_of_none {H : Hp} {a b : Addr} {o : HO} (h : H a = some o) (h' : H b = none) : a ≠ b := by
  intro e; subst e; rw [h] at h'; cases h'

section
variable (P : Program) (w : World)
def ObjOk (H : Hp) (h : Heap) (a : Addr) : HO → Prop
  | .lst xs => xs.length ≤ sizeLine ∧ ∃ (its : List Value) (n : Nat), Vals xs its ∧ h.get? a = some { cls := .type "list", data := .seq its.toArray n }
  | .tup xs => xs.length ≤ sizeLine ∧ ∃ its : List Value, Vals xs its ∧ IsTup h a its.toArray
  | .dK kvs => kvs.length ≤ sizeLine ∧ (a == sysModules) = false ∧ ∃ vs, KV kvs vs ∧ h.DictOf (mixKind P w) a vs
  | .dT kvs => kvs.length ≤ sizeLine ∧ (a == sysModules) = false ∧ ∃ xs : List (List Key × Addr × Value),
      Paired (fun (p : List Key × V) (q : List Key × Addr × Value) => p.1 = q.1 ∧ H q.2.1 = some (.tup (p.1.map kV)) ∧ RelV p.2 q.2.2) kvs xs ∧
      ∃ o es ep, h.get? a = some o ∧ o.ExactDict ∧ o.data = .dict es ep ∧ es.toList = xs.map (entryOfKey (tupleKind (mixKind P w))) ∧ (xs.map (·.1)).Nodup
  | .set S n => h.SetOf (intKind P w) a S n
  | .ins C dx fs => H dx = some (.own a) ∧ fs.length ≤ 1000 ∧ dx ≠ a ∧ h.get? a = some (PySem.W.instObj C dx) ∧
      ∃ mA, h.Ns1 dx mA ∧ (∀ f, RelO (fs.lookup f) (mA f)) ∧ PySem.Within mA (fs.map (·.1))
  | .own _ => ∃ o, h.get? a = some o
  | .xd fs => ∃ mA, h.Ns1 a mA ∧ ∀ f, RelO (fs.lookup f) (mA f)
  | .rng lo hi => ∃ t u v, h.get? a = some { cls := .type "range", data := .fields #[.int lo t, .int hi u, .int 1 v] }
  | .frz o u => h.get? a = some o ∧ ObjOk H h a u
  | .tbl ps => h.get? a = some { cls := .none, data := .fields ps }
  | .met f x => h.get? a = some (PySem.W.methodObj (.ref f) (.ref x))
  | .ext φ => φ h ∧ (∃ o, h.get? a = some o) ∧ ∀ h1 h2 : Heap, φ h1 → (∀ o, h1.get? a = some o → h2.get? a = some o) → φ h2
/-- the abstract heap is held -/
def HOk (H : Hp) (h : Heap) : Prop := ∀ a o, H a = some o → ObjOk P w H h a o
end

section
variable {P : Program} {w : World} {H H' : Hp} {h h' : Heap} {a : Addr} {o : HO}
theorem ObjOk.lt (x : ObjOk P w H h a o) : a < h.objs.size := by
  cases o with
  | lst xs => obtain ⟨_, _, _, _, e⟩ := x; exact Heap.lt_size e
  | tup xs => obtain ⟨_, _, _, p⟩ := x; exact p.lt
  | dK kvs => obtain ⟨_, _, _, _, o, _, _, e, _⟩ := x; exact Heap.lt_size e
  | dT kvs => obtain ⟨_, _, _, _, o, _, _, e, _⟩ := x; exact Heap.lt_size e
  | set S n => obtain ⟨o, _, _, _, e, _⟩ := x; exact Heap.lt_size e
  | ins C dx fs => obtain ⟨_, _, _, e, _⟩ := x; exact Heap.lt_size e
  | own y => obtain ⟨_, e⟩ := x; exact Heap.lt_size e
  | xd fs => obtain ⟨_, ⟨_, _, _, e, _⟩, _⟩ := x; exact Heap.lt_size e
  | rng lo hi => obtain ⟨_, _, _, e⟩ := x; exact Heap.lt_size e
  | frz ob u => obtain ⟨e, _⟩ := x; exact Heap.lt_size e
  | tbl ps => exact Heap.lt_size (show h.get? a = some _ from x)
  | met f y => exact Heap.lt_size (show h.get? a = some _ from x)
  | ext φ => obtain ⟨_, ⟨_, e⟩, _⟩ := x; exact Heap.lt_size e
theorem Paired.mapP {α β : Type} {F G : α → β → Prop} : ∀ {l₁ : List α} {l₂ : List β}, Paired F l₁ l₂ → (∀ a b, F a b → G a b) → Paired G l₁ l₂
  | _, _, .nil, _ => .nil
  | _, _, .cons r t, f => .cons (f _ _ r) (Paired.mapP t f)
/-- what an object's description leans on: its own object, its own dict, the tuples -/
theorem ObjOk.stay (x : ObjOk P w H h a o) (k : ∀ b u, (b = a ∨ H b = some (.own a)) → h.get? b = some u → h'.get? b = some u)
    (ho : ∀ b, H b = some (.own a) → H' b = some (.own a)) (ht : ∀ b xs, H b = some (.tup xs) → H' b = some (.tup xs)) : ObjOk P w H' h' a o := by
  induction o with
  | lst xs => obtain ⟨z, its, n, r, e⟩ := x; exact ⟨z, its, n, r, k _ _ (.inl rfl) e⟩
  | tup xs => obtain ⟨z, its, r, ob, e, c⟩ := x; exact ⟨z, its, r, ob, k _ _ (.inl rfl) e, c⟩
  | dK kvs => obtain ⟨z, y, vs, r, ob, es, ep, e, c⟩ := x; exact ⟨z, y, vs, r, ob, es, ep, k _ _ (.inl rfl) e, c⟩
  | dT kvs =>
    obtain ⟨z, y, xs, r, ob, es, ep, e, c⟩ := x
    exact ⟨z, y, xs, Paired.mapP r fun p q z => ⟨z.1, ht _ _ z.2.1, z.2.2⟩, ob, es, ep, k _ _ (.inl rfl) e, c⟩
  | set S n => obtain ⟨ob, es, ep, t, e, c⟩ := x; exact ⟨ob, es, ep, t, k _ _ (.inl rfl) e, c⟩
  | ins C dx fs =>
    obtain ⟨d, z, ne, e, mA, ⟨od, es, ep, e2, c⟩, r⟩ := x
    exact ⟨ho _ d, z, ne, k _ _ (.inl rfl) e, mA, ⟨od, es, ep, k _ _ (.inr d) e2, c⟩, r⟩
  | own y => obtain ⟨ob, e⟩ := x; exact ⟨ob, k _ _ (.inl rfl) e⟩
  | xd fs => obtain ⟨mA, ⟨od, es, ep, e, c⟩, r⟩ := x; exact ⟨mA, ⟨od, es, ep, k _ _ (.inl rfl) e, c⟩, r⟩
  | rng lo hi => obtain ⟨t, u, v, e⟩ := x; exact ⟨t, u, v, k _ _ (.inl rfl) e⟩
  | frz ob u ih => obtain ⟨e, q⟩ := x; exact ⟨k _ _ (.inl rfl) e, ih q⟩
  | tbl ps =>
    have e : h.get? a = some { cls := .none, data := .fields ps } := x
    show h'.get? a = some { cls := .none, data := .fields ps }
    exact k a _ (.inl rfl) e
  | met f y =>
    have e : h.get? a = some (PySem.W.methodObj (.ref f) (.ref y)) := x
    show h'.get? a = some (PySem.W.methodObj (.ref f) (.ref y))
    exact k a _ (.inl rfl) e
  | ext φ => obtain ⟨p, ⟨o, e⟩, st⟩ := x; exact ⟨st _ _ p fun o q => k _ _ (.inl rfl) q, ⟨o, k _ _ (.inl rfl) e⟩, st⟩
theorem HOk.lt (x : HOk P w H h) (e : H a = some o) : a < h.objs.size := (x a o e).lt
theorem HOk.fresh (x : HOk P w H h) (e : h.objs.size ≤ a) : H a = none := by
  cases q : H a with
  | none => rfl
  | some u => exact absurd (Nat.lt_of_lt_of_le (x.lt q) e) (Nat.lt_irrefl _)
/-- every object of the heap is kept -/
theorem HOk.kept (x : HOk P w H h) (k : ∀ b u, h.get? b = some u → h'.get? b = some u) : HOk P w H h' := fun a o e =>
  (x a o e).stay (fun b u _ q => k b u q) (fun _ q => q) fun _ _ q => q
/-- a new object is laid and tracked -/
theorem HOk.laid (x : HOk P w H h) (k : ∀ b u, h.get? b = some u → h'.get? b = some u) (hp : h.objs.size ≤ a) (new : ObjOk P w (upd H a o) h' a o) : HOk P w (upd H a o) h' := fun b u e => by
  have hn := x.fresh hp
  by_cases hb : b = a
  · subst hb; rw [upd_same] at e; cases e; exact new
  · rw [upd_ne hb] at e
    exact (x b u e).stay (fun c v _ q => k c v q) (fun c q => by rw [upd_ne (ne_of_none q hn)]; exact q) fun c xs q => by rw [upd_ne (ne_of_none q hn)]; exact q
end

/-- what may be read as u: it is u, or a known u -/
def Rd (H : Hp) (a : Addr) (u : HO) : Prop := H a = some u ∨ ∃ o, H a = some (.frz o u)
theorem Rd.of {H : Hp} {a : Addr} {u : HO} (h : H a = some u) : Rd H a u := .inl h
theorem Rd.ok {P : Program} {w : World} {H : Hp} {h : Heap} {a : Addr} {u : HO} (r : Rd H a u) (x : HOk P w H h) : ObjOk P w H h a u := by
  rcases r with r | ⟨o, r⟩
  · exact x a u r
  · obtain ⟨_, q⟩ := x a _ r
    exact q
/-- what may be written -/
def Mut : Option HO → Prop
  | some (.lst _) => True
  | some (.dK _) => True
  | some (.dT _) => True
  | some (.set _ _) => True
  | some (.ins _ _ _) => True
  | some (.ext _) => True
  | _ => False
section
variable {P : Program} {w : World} {H : Hp} {h h' : Heap} {x e : Addr} {o' : HO}
/-- the object at e is changed: x itself, or the dict of the instance x -/
theorem HOk.write (ok : HOk P w H h) (mu : Mut (H x)) (he : e = x ∨ H e = some (.own x)) (k : ∀ b u, b ≠ e → h.get? b = some u → h'.get? b = some u) (heo : ∃ u, h'.get? e = some u)
    (new : ObjOk P w (upd H x o') h' x o') : HOk P w (upd H x o') h' := fun b u q => by
  have nown : ∀ c y, H c = some (.own y) → c ≠ x := fun c y r z => by subst z; rw [r] at mu; exact mu
  have ntup : ∀ c xs, H c = some (.tup xs) → c ≠ x := fun c xs r z => by subst z; rw [r] at mu; exact mu
  by_cases hb : b = x
  · subst hb; rw [upd_same] at q; cases q; exact new
  · rw [upd_ne hb] at q
    by_cases hbe : b = e
    · have q' : H b = some (.own x) := by
        rcases he with z | z
        · exact absurd (hbe.trans z) hb
        · rw [hbe]; exact z
      rw [q] at q'; cases q'
      obtain ⟨v, hv⟩ := heo
      exact ⟨v, by rw [hbe]; exact hv⟩
    · refine (ok b u q).stay (fun c v hc r => k c v ?_ r) (fun c r => by rw [upd_ne (nown c b r)]; exact r) fun c xs r => by rw [upd_ne (ntup c xs r)]; exact r
      rcases hc with rfl | hc
      · exact hbe
      · rintro rfl
        rcases he with z | z
        · exact nown c b hc z
        · rw [hc] at z; cases z; exact hb rfl
end

/-! ### kept unless tracked; of the frames at fs (the callers') the slots may change (an exception that passes writes there); of the records at ex (iterators) nothing is said -/
structure Un (fs ex : List Addr) (H H' : Hp) (h h' : Heap) : Prop where
  keep : ∀ b o, h.get? b = some o → H b = none → b ∉ fs → b ∉ ex → h'.get? b = some o
  slot : ∀ b o, h.get? b = some o → H b = none → b ∈ fs → b ∉ ex → ∃ sl, h'.get? b = some { o with slots := sl }
  free : ∀ b o, h.get? b = some o → H b = none → b ∉ ex → H' b = none
  there : ∀ b o, h.get? b = some o → b ∉ ex → ∃ o', h'.get? b = some o'
  tups : ∀ b xs, H b = some (.tup xs) → H' b = some (.tup xs)
  frzs : ∀ b o u, H b = some (.frz o u) → H' b = some (.frz o u)
  tbls : ∀ b ps, H b = some (.tbl ps) → ∃ more, H' b = some (.tbl (ps ++ more))
section
variable {fs fs' ex ex' : List Addr} {H H1 H2 : Hp} {h h1 h2 h' : Heap} {a x e : Addr} {o : HO}
theorem Un.any (u : Un fs ex H H1 h h1) {b : Addr} {ob : Obj} (q : h.get? b = some ob) (n : H b = none) (hx : b ∉ ex) : ∃ sl, h1.get? b = some { ob with slots := sl } := by
  by_cases hb : b ∈ fs
  · exact u.slot b ob q n hb hx
  · exact ⟨ob.slots, u.keep b ob q n hb hx⟩
theorem Un.trans (a : Un fs ex H H1 h h1) (b : Un fs ex H1 H2 h1 h2) : Un fs ex H H2 h h2 where
  keep := fun c ob q n hc hx => b.keep c ob (a.keep c ob q n hc hx) (a.free c ob q n hx) hc hx
  slot := fun c ob q n hc hx => by
    obtain ⟨sl, e1⟩ := a.slot c ob q n hc hx
    obtain ⟨sl', e2⟩ := b.slot c _ e1 (a.free c ob q n hx) hc hx
    exact ⟨sl', e2⟩
  free := fun c ob q n hx => by
    obtain ⟨o', e1⟩ := a.there c ob q hx
    exact b.free c o' e1 (a.free c ob q n hx) hx
  there := fun c ob q hx => by
    obtain ⟨o', e1⟩ := a.there c ob q hx
    exact b.there c o' e1 hx
  tups := fun c xs q => b.tups c xs (a.tups c xs q)
  frzs := fun c ob xs q => b.frzs c ob xs (a.frzs c ob xs q)
  tbls := fun c ps q => by
    obtain ⟨m1, e1⟩ := a.tbls c ps q
    obtain ⟨m2, e2⟩ := b.tbls c _ e1
    exact ⟨m1 ++ m2, by rw [e2, Array.append_assoc]⟩
theorem Un.kept (k : ∀ b u, h.get? b = some u → h'.get? b = some u) : Un fs ex H H h h' :=
  ⟨fun b ob q _ _ _ => k b ob q, fun b ob q _ _ _ => ⟨ob.slots, k b ob q⟩, fun _ _ _ n _ => n, fun b ob q _ => ⟨ob, k b ob q⟩, fun _ _ q => q, fun _ _ _ q => q, fun _ ps q => ⟨#[], by rw [q]; simp⟩⟩
theorem Un.refl : Un fs ex H H h h := Un.kept fun _ _ q => q
theorem Un.laid (k : ∀ b u, h.get? b = some u → h'.get? b = some u) (hp : h.objs.size ≤ a) (hn : H a = none) : Un fs ex H (upd H a o) h h' where
  keep := fun b u q _ _ _ => k b u q
  slot := fun b u q _ _ _ => ⟨u.slots, k b u q⟩
  free := fun b u q n _ => by rw [upd_ne (Nat.ne_of_lt (Nat.lt_of_lt_of_le (Heap.lt_size q) hp))]; exact n
  there := fun b u q _ => ⟨u, k b u q⟩
  tups := fun b xs q => by rw [upd_ne (ne_of_none q hn)]; exact q
  frzs := fun b u xs q => by rw [upd_ne (ne_of_none q hn)]; exact q
  tbls := fun b ps q => ⟨#[], by rw [upd_ne (ne_of_none q hn), q]; simp⟩
theorem Un.write (mu : Mut (H x)) (he : e = x ∨ H e = some (.own x)) (k : ∀ b u, b ≠ e → h.get? b = some u → h'.get? b = some u) (heo : ∃ u, h'.get? e = some u) : Un fs ex H (upd H x o) h h' := by
  have hx : ∀ b, H b = none → b ≠ x := fun b n z => by subst z; rw [n] at mu; exact mu
  have hb : ∀ b, H b = none → b ≠ e := fun b n z => by
    subst z
    rcases he with r | r
    · exact hx b n r
    · rw [n] at r; cases r
  have hm : ∀ b u, H b = some u → ¬ Mut (some u) → b ≠ x := fun b u q nm z => by subst z; rw [q] at mu; exact nm mu
  refine ⟨fun b u q n _ _ => k b u (hb b n) q, fun b u q n _ _ => ⟨u.slots, k b u (hb b n) q⟩, fun b u q n _ => by rw [upd_ne (hx b n)]; exact n, fun b u q _ => ?_,
    fun b xs q => by rw [upd_ne (hm b _ q fun z => z)]; exact q, fun b u xs q => by rw [upd_ne (hm b _ q fun z => z)]; exact q, fun b ps q => ⟨#[], by rw [upd_ne (hm b _ q fun z => z), q]; simp⟩⟩
  by_cases hbe : b = e
  · subst hbe; exact heo
  · exact ⟨u, k b u hbe q⟩
theorem Un.mono (u : Un fs ex H H1 h h1) (hs : ∀ b ∈ fs, b ∈ fs') (hx : ∀ b ∈ ex, b ∈ ex') : Un fs' ex' H H1 h h1 :=
  ⟨fun b ob q n hb he => u.keep b ob q n (fun z => hb (hs b z)) fun z => he (hx b z), fun _ _ q n _ he => u.any q n fun z => he (hx _ z), fun b ob q n he => u.free b ob q n fun z => he (hx b z), fun b ob q he => u.there b ob q fun z => he (hx b z), u.tups, u.frzs, u.tbls⟩
end

/-! ### the heap without what is tracked -/
def trk (h : Heap) (H : Hp) : List Addr := (List.range h.objs.size).filter fun a => (H a).isSome
def hidT (h : Heap) (H : Hp) : Heap := PySem.W.hideAll h (trk h H)
theorem hidT_size (h : Heap) (H : Hp) : (hidT h H).objs.size = h.objs.size := PySem.W.hideAll_size _ _
theorem hidT_get {h : Heap} {H : Hp} {b : Addr} {o : Obj} (e : h.get? b = some o) (n : H b = none) : (hidT h H).get? b = some o :=
  PySem.W.hideAll_get _ e fun hm => by
    have q : (H b).isSome = true := (List.mem_filter.mp hm).2
    rw [n] at q; simp at q
theorem of_hidT {h : Heap} {H : Hp} {b : Addr} {o : Obj} (e : (hidT h H).get? b = some o) : h.get? b = some o ∧ H b = none := by
  have e' : h.get? b = some o := PySem.W.of_hideAll (trk h H) e
  refine ⟨e', ?_⟩
  cases q : H b with
  | none => rfl
  | some x =>
    have hm : b ∈ trk h H := List.mem_filter.mpr ⟨List.mem_range.mpr (Heap.lt_size e'), by simp [q]⟩
    have z : (hidT h H).get? b = none := PySem.W.hideAll_none (trk h H) hm
    rw [z] at e; cases e

/-! ### OpenK's ledger, filled with every new object but one -/
def allNews (g h : Heap) (L : Addr) : List (Addr × Obj) := (List.range h.objs.size).filterMap fun a => if a = L ∨ (g.get? a).isSome = true then none else (h.get? a).map fun o => (a, o)
def rest (g h : Heap) (L d : Addr) : List (Addr × Obj) := (allNews g h L).filter fun p => decide (p.1 ≠ d)
end L2

namespace L2
open PySem PySem.Spec PyProof.Rows

/-- the module's facts, over the base: the heap at the law's entry without what is tracked there -/
structure Mod (K : PySem.W.Frag) (mg : Str → Option Value) (base : Heap) : Prop where
  kin : K.In base
  glob : base.Ns mainGlobals mg
  blt : ∃ mb, base.Ns builtinsNs mb ∧ ∀ x : Str, x ≠ "__name__" → mb x = bootBuiltins x
  nolimit : base.NoLimit

/-- the context: a def's body (or a comprehension's block) running. base: fixed through the whole law; s₀, H₀: the entry; outer: the frames whose slots others may change (a def's callers); stack: all frames that run;
   ex: iterators that were made ahead of the entry and are walked here (a comprehension's); fn: the names whose cells were made at the entry (a def: all; a comprehension's block: its own); calm: not within an except suite; pn: pins that every state bears; xe: what is wanted of an exception that leaves the code -/
structure Cx where
  prog : Program
  w : World
  K : PySem.W.Frag
  mg : Str → Option Value
  base : Heap
  A : Around
  N : List Str
  s₀ : Shared
  H₀ : Hp
  env : Env
  outer : List Env
  stack : List Env
  ex : List Addr
  fn : Str → Bool
  calm : Bool
  pn : List (Addr × Obj)
  xe : Value → Shared → Prop
/-- the callers' frames -/
def frs (l : List Env) : List Addr := l.filterMap (·.frame)
abbrev Cx.fs (X : Cx) : List Addr := frs X.outer

def Vis (sc : Scope) (x : Str) : Prop := sc.names.lookup x = some .local ∨ sc.names.lookup x = some .cell ∨ sc.names.lookup x = some .free
def Loc (sc : Scope) (x : Str) : Prop := sc.names.lookup x = some .local ∨ sc.names.lookup x = some .cell
def Look (env : Env) (h : Heap) (m : Str → Option Value) (x : Str) (u : Value) : Prop :=
  (env.kindOf x = some .local ∧ m x = some u) ∨ ((env.kindOf x = some .cell ∨ env.kindOf x = some .free) ∧ ∃ c, env.cells.lookup x = some c ∧ h.IsCell c (some u))

structure Cx.Ok (X : Cx) : Prop where
  mod : Mod X.K X.mg X.base
  kind : X.env.scope.kind = .function
  glob : X.env.globals = mainGlobals
  blt : X.env.builtins = builtinsNs
  above : X.s₀.heap.objs.size ≤ X.env.locals
  inj : ∀ x y c, X.env.cells.lookup x = some c → X.env.cells.lookup y = some c → x = y
  has : ∀ x, (X.env.kindOf x = some .cell ∨ X.env.kindOf x = some .free) → ∃ c, X.env.cells.lookup x = some c
  cab : ∀ x c, X.fn x = true → X.env.cells.lookup x = some c → X.s₀.heap.objs.size ≤ c
  hd : X.calm = true → X.A.handled = none
  frames : X.A.frames = some X.stack
  stk : X.stack = X.outer ∨ (X.stack = X.env :: X.outer ∧ X.env.frame = some X.env.locals)
  exf : ∀ b ∈ X.ex, b ≠ X.env.locals ∧ ∀ x c, X.env.cells.lookup x = some c → c ≠ b
  bs : ∀ b o, X.base.get? b = some o → X.s₀.heap.get? b = some o ∧ X.H₀ b = none
  bsz : X.base.objs.size ≤ X.s₀.heap.objs.size
  noex : ∀ b o, X.base.get? b = some o → b ∉ X.ex
  exfs : ∀ b ∈ X.ex, b ∉ X.fs
  funs : X.s₀.heap.FunFrames X.base X.outer
  frf : ∀ b ∈ X.fs, X.H₀ b = none

structure Inv (X : Cx) (pins : List (Addr × Obj)) (σ : List (Option V)) (H : Hp) (s : Shared) : Prop where
  ok : X.Ok
  os : s.os = X.s₀.os
  bare : AllBare s.gens
  base : Un X.fs X.ex X.H₀ H X.s₀.heap s.heap
  loc : ∃ m, s.heap.Ns X.env.locals m ∧ ∀ (i : Nat) (x : Str) (v : V), X.N[i]? = some x → σ[i]? = some (some v) → Vis X.env.scope x → ∃ u, RelV v u ∧ Look X.env s.heap m x u
  cell : ∀ x c, X.env.cells.lookup x = some c → ∃ v, s.heap.IsCell c v
  free : H X.env.locals = none
  freeC : ∀ x c, X.env.cells.lookup x = some c → H c = none
  pin : ∀ p ∈ X.pn ++ pins, s.heap.get? p.1 = some p.2 ∧ H p.1 = none ∧ p.1 ≠ X.env.locals ∧ p.1 ∉ X.fs ∧ ∀ v, p.2.data ≠ .cell v
  hok : HOk X.prog X.w H s.heap
  len : σ.length = X.N.length

section
variable {X : Cx} {pins : List (Addr × Obj)} {σ : List (Option V)} {H H' : Hp} {s : Shared} {h' : Heap}

theorem Cx.Ok.nofr (ok : X.Ok) {b : Addr} {o : Obj} (e : X.base.get? b = some o) : b ∉ X.fs := fun hb => by
  have := (ok.funs.mem hb).1
  rw [e] at this; cases this
theorem Inv.bs (I : Inv X pins σ H s) : ∀ b o, X.base.get? b = some o → s.heap.get? b = some o ∧ H b = none := fun b o e =>
  ⟨I.base.keep b o (I.ok.bs b o e).1 (I.ok.bs b o e).2 (I.ok.nofr e) (I.ok.noex b o e), I.base.free b o (I.ok.bs b o e).1 (I.ok.bs b o e).2 (I.ok.noex b o e)⟩
theorem Inv.bk (I : Inv X pins σ H s) : ∀ b o, X.base.get? b = some o → s.heap.get? b = some o := fun b o e => (I.bs b o e).1
theorem Inv.mod (I : Inv X pins σ H s) : Mod X.K X.mg X.base := I.ok.mod
theorem Inv.kIn (I : Inv X pins σ H s) : X.K.In s.heap := I.ok.mod.kin.keeps I.bk
theorem Inv.nolimit (I : Inv X pins σ H s) : s.heap.NoLimit := I.ok.mod.nolimit.keeps I.bk
/-- the frame over the base: for OpenK's rules (K.In X.base is I.mod.kin) -/
theorem Inv.fr (I : Inv X pins σ H s) : ∃ m, Fr X.base X.env.locals s.heap m :=
  let ⟨m, hn, _⟩ := I.loc
  ⟨m, hn, I.bk, Nat.le_trans I.ok.bsz I.ok.above⟩
theorem Inv.lt (I : Inv X pins σ H s) : X.env.locals < s.heap.objs.size := let ⟨_, hn, _⟩ := I.loc; hn.lt
theorem Inv.sz (I : Inv X pins σ H s) : X.s₀.heap.objs.size ≤ s.heap.objs.size := Nat.le_trans I.ok.above (Nat.le_of_lt I.lt)
theorem Inv.nofs (I : Inv X pins σ H s) {a : Addr} (h : s.heap.objs.size ≤ a) : a ∉ X.fs := fun hb => by
  obtain ⟨_, o, ho, _⟩ := I.ok.funs.mem hb
  exact absurd (Nat.lt_of_lt_of_le (Heap.lt_size ho) (Nat.le_trans I.sz h)) (Nat.lt_irrefl _)
theorem Inv.cne (I : Inv X pins σ H s) : ∀ x c, X.env.cells.lookup x = some c → c ≠ X.env.locals := fun x c e z => by
  obtain ⟨v, o, ho, hd⟩ := I.cell x c e
  obtain ⟨m, ⟨o', es, ep, ho', hd', _⟩, _⟩ := I.loc
  rw [z, ho'] at ho; cases ho; rw [hd'] at hd; cases hd
theorem Inv.funs (I : Inv X pins σ H s) : s.heap.FunFrames X.base X.outer := by
  have all : ∀ (l : List Env), (∀ b ∈ frs l, b ∈ X.fs) → X.s₀.heap.FunFrames X.base l → s.heap.FunFrames X.base l := by
    intro l
    induction l with
    | nil => intro _ _; trivial
    | cons env r ih =>
      intro hs hl
      obtain ⟨hk, ⟨L, o, hf, hn, ho, hd⟩, hr⟩ := hl
      have hL : L ∈ X.fs := hs L (by unfold frs; rw [List.filterMap_cons, hf]; exact List.mem_cons_self)
      obtain ⟨sl, e⟩ := I.base.slot L o ho (I.ok.frf L hL) hL fun z => I.ok.exfs L z hL
      exact ⟨hk, ⟨L, _, hf, hn, e, hd⟩, ih (fun b hb => hs b (by unfold frs; rw [List.filterMap_cons, hf]; exact List.mem_cons_of_mem _ hb)) hr⟩
  exact all X.outer (fun _ hb => hb) I.ok.funs

/-- the frames that run, for a call -/
theorem Inv.stack (I : Inv X pins σ H s) : s.heap.FunFrames X.base X.stack := by
  rcases I.ok.stk with e | ⟨e, hf⟩
  · rw [e]; exact I.funs
  · rw [e]
    obtain ⟨m, hn, _⟩ := I.loc
    refine .cons (by rw [I.ok.kind]; decide) hf hn ?_ I.funs
    exact Heap.get?_none_of_le (Nat.le_trans I.ok.bsz I.ok.above)
theorem Inv.stkSub (I : Inv X pins σ H s) : ∀ b ∈ frs X.stack, b ∈ X.env.locals :: X.fs := fun b hb => by
  rcases I.ok.stk with e | ⟨e, hf⟩
  · rw [e] at hb; exact List.mem_cons_of_mem _ hb
  · rw [e] at hb
    unfold frs at hb
    rw [List.filterMap_cons, hf] at hb
    exact hb
theorem Inv.stkFree (I : Inv X pins σ H s) : ∀ b ∈ frs X.stack, H b = none := fun b hb => by
  rcases List.mem_cons.mp (I.stkSub b hb) with e | hb
  · rw [e]; exact I.free
  · obtain ⟨_, o, ho, _⟩ := I.ok.funs.mem hb
    exact I.base.free b o ho (I.ok.frf b hb) fun z => I.ok.exfs b z hb

/-- THE STEP: the untracked objects but the frame and the records at ch are kept (the callers' frames up to slots), the frame's map is kept, the new abstract heap is held -/
theorem Inv.step {g' : Array GenState} {t' : Nat} {d' : Drawn} {ch : List Addr} (I : Inv X pins σ H s)
    (hch : ∀ b ∈ ch, (b ∈ X.ex ∨ X.s₀.heap.objs.size ≤ b) ∧ b ≠ X.env.locals ∧ (∀ x c, X.env.cells.lookup x = some c → c ≠ b) ∧ ∀ p ∈ X.pn ++ pins, p.1 ≠ b)
    (keep : ∀ b o, b ≠ X.env.locals → b ∉ X.fs → b ∉ ch → s.heap.get? b = some o → H b = none → h'.get? b = some o)
    (slot : ∀ b o, b ≠ X.env.locals → b ∈ X.fs → b ∉ ch → s.heap.get? b = some o → H b = none → ∃ sl, h'.get? b = some { o with slots := sl }) (free : ∀ b o, b ∉ ch → s.heap.get? b = some o → H b = none → H' b = none)
    (there : ∀ b o, b ∉ ch → s.heap.get? b = some o → ∃ o', h'.get? b = some o')
    (tups : ∀ b xs, H b = some (.tup xs) → H' b = some (.tup xs)) (frzs : ∀ b o u, H b = some (.frz o u) → H' b = some (.frz o u)) (tbls : ∀ b ps, H b = some (.tbl ps) → ∃ more, H' b = some (.tbl (ps ++ more)))
    (ns : ∀ m, s.heap.Ns X.env.locals m → h'.Ns X.env.locals m) (hok : HOk X.prog X.w H' h') (hg : AllBare g') :
    Inv X pins σ H' { s with heap := h', gens := g', drawn := d', toks := t' } := by
  have neL : ∀ b o, X.s₀.heap.get? b = some o → b ≠ X.env.locals := fun b o e => Nat.ne_of_lt (Nat.lt_of_lt_of_le (Heap.lt_size e) I.ok.above)
  have neC : ∀ b o, X.s₀.heap.get? b = some o → b ∉ X.ex → b ∉ ch := fun b o e hx hb => by
    rcases (hch b hb).1 with z | z
    · exact hx z
    · exact absurd (Nat.lt_of_lt_of_le (Heap.lt_size e) z) (Nat.lt_irrefl _)
  have cellK : ∀ x c, X.env.cells.lookup x = some c → ∀ v, s.heap.IsCell c v → h'.IsCell c v := fun x c e v ⟨o, ho, hd⟩ => by
    have nch : c ∉ ch := fun z => (hch c z).2.2.1 x c e rfl
    by_cases hc : c ∈ X.fs
    · obtain ⟨sl, q⟩ := slot c o (I.cne x c e) hc nch ho (I.freeC x c e)
      exact ⟨_, q, hd⟩
    · exact ⟨o, keep c o (I.cne x c e) hc nch ho (I.freeC x c e), hd⟩
  refine ⟨I.ok, I.os, hg, ⟨fun b o e n hb hx => ?_, fun b o e n hb hx => ?_, fun b o e n hx => ?_, fun b o e hx => ?_, fun b xs e => tups b xs (I.base.tups b xs e), fun b o xs e => frzs b o xs (I.base.frzs b o xs e), fun b ps e => ?_⟩, ?_, fun x c e => ?_, ?_, fun x c e => ?_, fun p hp => ?_, hok, I.len⟩
  · exact keep b o (neL b o e) hb (neC b o e hx) (I.base.keep b o e n hb hx) (I.base.free b o e n hx)
  · obtain ⟨sl, e1⟩ := I.base.slot b o e n hb hx
    obtain ⟨sl', e2⟩ := slot b _ (neL b o e) hb (neC b o e hx) e1 (I.base.free b o e n hx)
    exact ⟨sl', e2⟩
  · obtain ⟨o', e1⟩ := I.base.there b o e hx
    exact free b o' (neC b o e hx) e1 (I.base.free b o e n hx)
  · obtain ⟨o', e1⟩ := I.base.there b o e hx
    exact there b o' (neC b o e hx) e1
  · obtain ⟨m1, e1⟩ := I.base.tbls b ps e
    obtain ⟨m2, e2⟩ := tbls b _ e1
    exact ⟨m1 ++ m2, by rw [e2, Array.append_assoc]⟩
  · obtain ⟨m, hn, hl⟩ := I.loc
    refine ⟨m, ns m hn, fun i x v e1 e2 e3 => ?_⟩
    obtain ⟨u, r, l⟩ := hl i x v e1 e2 e3
    refine ⟨u, r, ?_⟩
    rcases l with l | ⟨k, c, e, z⟩
    · exact .inl l
    · exact .inr ⟨k, c, e, cellK x c e _ z⟩
  · obtain ⟨v, z⟩ := I.cell x c e
    exact ⟨v, cellK x c e v z⟩
  · obtain ⟨m, ⟨o, _, _, ho, _⟩, _⟩ := I.loc
    exact free _ o (fun z => (hch _ z).2.1 rfl) ho I.free
  · obtain ⟨v, o, ho, hd⟩ := I.cell x c e
    exact free c o (fun z => (hch c z).2.2.1 x c e rfl) ho (I.freeC x c e)
  · obtain ⟨e, n, ne, nf, d⟩ := I.pin p hp
    have nch : p.1 ∉ ch := fun z => (hch p.1 z).2.2.2 p hp rfl
    exact ⟨keep p.1 p.2 ne nf nch e n, free p.1 p.2 nch e n, ne, nf, d⟩
/-- .. where the frame's own object is kept too -/
theorem Inv.un {t' : Nat} (I : Inv X pins σ H s) (u : Un X.fs [] H H' s.heap h') (hok : HOk X.prog X.w H' h') : Inv X pins σ H' { s with heap := h', toks := t' } := by
  obtain ⟨m, ⟨o, es, ep, ho, r⟩, _⟩ := id I.loc
  obtain ⟨sl, hL⟩ := u.any ho I.free (by simp)
  exact I.step (g' := s.gens) (d' := s.drawn) (ch := []) (fun _ z => nomatch z) (fun b o _ hb _ e n => u.keep b o e n hb (by simp)) (fun b o _ hb _ e n => u.slot b o e n hb (by simp)) (fun b o _ e n => u.free b o e n (by simp)) (fun b o _ e => u.there b o e (by simp)) u.tups u.frzs u.tbls (fun m' hm => by
    obtain ⟨o', es', ep', ho', r'⟩ := hm
    rw [ho] at ho'; cases ho'
    exact ⟨_, es', ep', hL, r'⟩) hok I.bare
/-- behind a call (or a comprehension's block): the slots of this frame may have changed too, the records at ch may have turned -/
theorem Inv.call {g' : Array GenState} {t' : Nat} {d' : Drawn} {ch : List Addr} (I : Inv X pins σ H s) (u : Un (frs X.stack) ch H H' s.heap h') (hok : HOk X.prog X.w H' h') (hg : AllBare g')
    (hch : ∀ b ∈ ch, (b ∈ X.ex ∨ X.s₀.heap.objs.size ≤ b) ∧ b ≠ X.env.locals ∧ (∀ x c, X.env.cells.lookup x = some c → c ≠ b) ∧ ∀ p ∈ X.pn ++ pins, p.1 ≠ b) :
    Inv X pins σ H' { s with heap := h', gens := g', drawn := d', toks := t' } := by
  obtain ⟨m, ⟨o, es, ep, ho, r⟩, _⟩ := id I.loc
  obtain ⟨sl, hL⟩ := u.any ho I.free fun z => (hch _ z).2.1 rfl
  exact I.step (ch := ch) hch (fun b o hL hb hc e n => u.keep b o e n (fun z => (List.mem_cons.mp (I.stkSub b z)).elim hL hb) hc) (fun b o _ _ hc e n => u.any e n hc) (fun b o hc e n => u.free b o e n hc) (fun b o hc e => u.there b o e hc) u.tups u.frzs u.tbls (fun m' hm => by
    obtain ⟨o', es', ep', ho', r'⟩ := hm
    rw [ho] at ho'; cases ho'
    exact ⟨_, es', ep', hL, r'⟩) hok hg
/-- an untracked record of ours (an iterator) has turned -/
theorem Inv.turned {t' : Nat} {it : Addr} (I : Inv X pins σ H s) (k : ∀ b o, b ≠ it → s.heap.get? b = some o → h'.get? b = some o) (hn : H it = none) (hL : it ≠ X.env.locals)
    (h1 : it ∈ X.ex ∨ X.s₀.heap.objs.size ≤ it) (h2 : ∀ x c, X.env.cells.lookup x = some c → c ≠ it) (h3 : ∀ p ∈ X.pn ++ pins, p.1 ≠ it) : Inv X pins σ H { s with heap := h', toks := t' } := by
  have nit : ∀ b u, H b = some u → b ≠ it := fun b u e z => by rw [z, hn] at e; cases e
  refine I.step (g' := s.gens) (d' := s.drawn) (ch := [it]) (fun b hb => ?_) (fun b o _ _ hc e _ => k b o (fun z => hc (by simp [z])) e) (fun b o _ _ hc e _ => ⟨o.slots, k b o (fun z => hc (by simp [z])) e⟩) (fun _ _ _ _ n => n)
    (fun b o hc e => ⟨o, k b o (fun z => hc (by simp [z])) e⟩) (fun _ _ e => e) (fun _ _ _ e => e) (fun b ps e => ⟨#[], by rw [e]; simp⟩) (fun m hm => ?_) (fun b u e => ?_) I.bare
  · have e : b = it := by simpa using hb
    subst e
    exact ⟨h1, hL, h2, h3⟩
  · obtain ⟨o, es, ep, ho, r⟩ := hm
    exact ⟨o, es, ep, k _ o (Ne.symm hL) ho, r⟩
  · refine (I.hok b u e).stay (fun c v hc q => k c v ?_ q) (fun _ q => q) fun _ _ q => q
    rcases hc with z | z
    · rw [z]; exact nit b u e
    · exact nit c _ z
theorem Inv.tok (I : Inv X pins σ H s) (t : Nat) : Inv X pins σ H { s with toks := t } := I.un (h' := s.heap) (t' := t) Un.refl I.hok
/-- all objects kept -/
theorem Inv.kept {t' : Nat} (I : Inv X pins σ H s) (k : ∀ b u, s.heap.get? b = some u → h'.get? b = some u) : Inv X pins σ H { s with heap := h', toks := t' } := I.un (Un.kept k) (I.hok.kept k)
/-- a new object laid and tracked -/
theorem Inv.laid {a : Addr} {o : HO} {t' : Nat} (I : Inv X pins σ H s) (k : ∀ b u, s.heap.get? b = some u → h'.get? b = some u) (hp : s.heap.objs.size ≤ a) (new : ObjOk X.prog X.w (upd H a o) h' a o) :
    Inv X pins σ (upd H a o) { s with heap := h', toks := t' } := I.un (Un.laid k hp (I.hok.fresh hp)) (I.hok.laid k hp new)
/-- an object written -/
theorem Inv.write {x e : Addr} {o : HO} {t' : Nat} (I : Inv X pins σ H s) (mu : Mut (H x)) (he : e = x ∨ H e = some (.own x)) (k : ∀ b u, b ≠ e → s.heap.get? b = some u → h'.get? b = some u) (heo : ∃ u, h'.get? e = some u)
    (new : ObjOk X.prog X.w (upd H x o) h' x o) : Inv X pins σ (upd H x o) { s with heap := h', toks := t' } := I.un (Un.write mu he k heo) (I.hok.write mu he k heo new)
theorem Inv.pins_of {pins' : List (Addr × Obj)} (I : Inv X pins σ H s) (h : ∀ p ∈ pins', s.heap.get? p.1 = some p.2 ∧ H p.1 = none ∧ p.1 ≠ X.env.locals ∧ p.1 ∉ X.fs ∧ ∀ v, p.2.data ≠ .cell v) : Inv X pins' σ H s :=
  ⟨I.ok, I.os, I.bare, I.base, I.loc, I.cell, I.free, I.freeC, fun p hp => (List.mem_append.mp hp).elim (fun z => I.pin p (List.mem_append_left _ z)) (h p), I.hok, I.len⟩

theorem nodup_ix {N : List Str} (hN : N.Nodup) {i j : Nat} {x : Str} (a : N[i]? = some x) (b : N[j]? = some x) : i = j := by
  obtain ⟨h1, e1⟩ := List.getElem?_eq_some_iff.mp a
  obtain ⟨h2, e2⟩ := List.getElem?_eq_some_iff.mp b
  exact (List.getElem_inj hN).mp (e1.trans e2.symm)

/-- a name is stored; what changed -/
theorem store_ok2 {M : Model} {A : Around} {E : Value → Shared → Prop} {i : Nat} {x : Str} {v : V} {u : Value} {Q : Unit → Shared → Prop} (I : Inv X pins σ H s) (hN : X.N.Nodup) (hi : X.N[i]? = some x) (hx : Loc X.env.scope x) (r : RelV v u)
    (h : ∀ s', Inv X pins (σ.set i (some v)) H s' → (∃ a, Heap.SameBut a s.heap s'.heap ∧ (a = X.env.locals ∨ X.env.cells.lookup x = some a)) → Q () s') (hf : X.fn x = true ∨ X.env.scope.names.lookup x = some .local := by first | exact .inl rfl | exact .inr rfl | assumption) : wpAny M A (storeName X.env x u) Q E s := by
  obtain ⟨m, hn, hl⟩ := id I.loc
  have hcls : (X.env.scope.kind == .class || (X.env.scope.kind == .module && X.env.locals != X.env.globals)) = false := by rw [I.ok.kind]; rfl
  have hiσ : i < σ.length := by rw [I.len]; exact (List.getElem?_eq_some_iff.mp hi).1
  have cne := I.cne
  have tracked : ∀ {a : Addr} {h' : Heap}, (∃ o, s.heap.get? a = some o ∧ H a = none) → Heap.SameBut a s.heap h' → HOk X.prog X.w H h' := fun {a h'} ha hs b ob e => by
    obtain ⟨_, _, hfree⟩ := ha
    refine (I.hok b ob e).stay (fun c w' hc q => (hs.2 c ?_).trans q) (fun _ q => q) fun _ _ q => q
    rintro rfl
    rcases hc with rfl | hc
    · rw [hfree] at e; cases e
    · rw [hfree] at hc; cases hc
  rcases hx with hk | hk
  · refine wpAny_storeName_local hk hn (fun h' hn' hs => ?_) hcls
    obtain ⟨oL, _, _, hoL, _⟩ := id hn
    refine h _ ⟨I.ok, I.os, I.bare, ⟨fun b o e n hb hx => ?_, fun b o e n hb hx => ?_, I.base.free, fun b o e hx => ?_, I.base.tups, I.base.frzs, I.base.tbls⟩, ⟨_, hn', fun j y v' e1 e2 e3 => ?_⟩, fun y c e => ?_, I.free, I.freeC, fun p hp => ?_, tracked ⟨oL, hoL, I.free⟩ hs, by simpa using I.len⟩ ⟨_, hs, .inl rfl⟩
    · exact (hs.2 b (Nat.ne_of_lt (Nat.lt_of_lt_of_le (Heap.lt_size e) I.ok.above))).trans (I.base.keep b o e n hb hx)
    · obtain ⟨sl, e1⟩ := I.base.slot b o e n hb hx
      exact ⟨sl, (hs.2 b (Nat.ne_of_lt (Nat.lt_of_lt_of_le (Heap.lt_size e) I.ok.above))).trans e1⟩
    · obtain ⟨o', e1⟩ := I.base.there b o e hx
      exact ⟨o', (hs.2 b (Nat.ne_of_lt (Nat.lt_of_lt_of_le (Heap.lt_size e) I.ok.above))).trans e1⟩
    · by_cases hj : j = i
      · subst hj
        rw [hi] at e1; cases e1
        rw [List.getElem?_set_self hiσ] at e2
        cases e2
        exact ⟨u, r, .inl ⟨hk, by simp⟩⟩
      · rw [List.getElem?_set_ne (Ne.symm hj)] at e2
        obtain ⟨u', r', q⟩ := hl j y v' e1 e2 e3
        refine ⟨u', r', ?_⟩
        rcases q with ⟨k, e⟩ | ⟨k, c, e, z⟩
        · refine .inl ⟨k, ?_⟩
          have : y ≠ x := fun e => hj (nodup_ix hN e1 (e ▸ hi))
          simp [this, e]
        · exact .inr ⟨k, c, e, z.sameBut hs (cne y c e)⟩
    · obtain ⟨w', z⟩ := I.cell y c e
      exact ⟨w', z.sameBut hs (cne y c e)⟩
    · obtain ⟨e, n, ne, nf, d⟩ := I.pin p hp
      exact ⟨(hs.2 p.1 ne).trans e, n, ne, nf, d⟩
  · have hfn : X.fn x = true := by
      rcases hf with z | z
      · exact z
      · rw [z] at hk; cases hk
    obtain ⟨c, hc⟩ := I.ok.has x (.inl hk)
    obtain ⟨w', z⟩ := I.cell x c hc
    refine wpAny_storeName_cell I.ok.kind hk hc z (fun h' hc' hs => ?_)
    obtain ⟨oc, hoc, hocd⟩ := id z
    refine h { s with heap := h' } ⟨I.ok, I.os, I.bare, ⟨fun b o e n hb hx => ?_, fun b o e n hb hx => ?_, I.base.free, fun b o e hx => ?_, I.base.tups, I.base.frzs, I.base.tbls⟩, ⟨m, hn.sameBut hs (Ne.symm (cne x c hc)), fun j y v' e1 e2 e3 => ?_⟩, fun y c' e => ?_, I.free, I.freeC, fun p hp => ?_, tracked ⟨oc, hoc, I.freeC x c hc⟩ hs, by simpa using I.len⟩ ⟨c, hs, .inr hc⟩
    · exact (hs.2 b (Nat.ne_of_lt (Nat.lt_of_lt_of_le (Heap.lt_size e) (I.ok.cab x c hfn hc)))).trans (I.base.keep b o e n hb hx)
    · obtain ⟨sl, e1⟩ := I.base.slot b o e n hb hx
      exact ⟨sl, (hs.2 b (Nat.ne_of_lt (Nat.lt_of_lt_of_le (Heap.lt_size e) (I.ok.cab x c hfn hc)))).trans e1⟩
    · obtain ⟨o', e1⟩ := I.base.there b o e hx
      exact ⟨o', (hs.2 b (Nat.ne_of_lt (Nat.lt_of_lt_of_le (Heap.lt_size e) (I.ok.cab x c hfn hc)))).trans e1⟩
    · by_cases hj : j = i
      · subst hj
        rw [hi] at e1; cases e1
        rw [List.getElem?_set_self hiσ] at e2
        cases e2
        exact ⟨u, r, .inr ⟨.inl hk, c, hc, hc'⟩⟩
      · rw [List.getElem?_set_ne (Ne.symm hj)] at e2
        obtain ⟨u', r', q⟩ := hl j y v' e1 e2 e3
        refine ⟨u', r', ?_⟩
        rcases q with q | ⟨k, c', e, z'⟩
        · exact .inl q
        · refine .inr ⟨k, c', e, z'.sameBut hs ?_⟩
          rintro rfl
          exact hj (nodup_ix hN e1 (I.ok.inj _ _ _ e hc ▸ hi))
    · by_cases hcc : c' = c
      · subst hcc; exact ⟨_, hc'⟩
      · obtain ⟨w2, z2⟩ := I.cell y c' e
        exact ⟨w2, z2.sameBut hs hcc⟩
    · obtain ⟨e, n, ne, nf, d⟩ := I.pin p hp
      refine ⟨(hs.2 p.1 ?_).trans e, n, ne, nf, d⟩
      intro q
      rw [q, hoc] at e
      have q' : oc = p.2 := Option.some.inj e
      exact d w' (by rw [← q']; exact hocd)
theorem store_ok {M : Model} {A : Around} {E : Value → Shared → Prop} {i : Nat} {x : Str} {v : V} {u : Value} {Q : Unit → Shared → Prop} (I : Inv X pins σ H s) (hN : X.N.Nodup) (hi : X.N[i]? = some x) (hx : Loc X.env.scope x) (r : RelV v u)
    (h : ∀ s', Inv X pins (σ.set i (some v)) H s' → Q () s') (hf : X.fn x = true ∨ X.env.scope.names.lookup x = some .local := by first | exact .inl rfl | exact .inr rfl | assumption) : wpAny M A (storeName X.env x u) Q E s :=
  store_ok2 I hN hi hx r (fun s' I' _ => h s' I') hf
/-- behind a call or a block, the state as it is -/
theorem Inv.call' {s' : Shared} {ch : List Addr} (I : Inv X pins σ H s) (ho : s'.os = s.os) (u : Un (frs X.stack) ch H H' s.heap s'.heap) (hok : HOk X.prog X.w H' s'.heap) (hg : AllBare s'.gens)
    (hch : ∀ b ∈ ch, (b ∈ X.ex ∨ X.s₀.heap.objs.size ≤ b) ∧ b ≠ X.env.locals ∧ (∀ x c, X.env.cells.lookup x = some c → c ≠ b) ∧ ∀ p ∈ X.pn ++ pins, p.1 ≠ b) : Inv X pins σ H' s' := by
  obtain ⟨h', g', d', t', o'⟩ := s'
  have e : o' = s.os := ho
  subst e
  exact I.call (g' := g') (t' := t') (d' := d') u hok hg hch
end

/-! ### the judgements -/
/-- an exception: its class, its own dict's address (where it has one), the abstract heap behind it -/
abbrev XK := Value → Option Addr → Hp → Prop
abbrev St := List (Option V)
abbrev VK := V → Hp → Prop
/-- an expression's reading; a test's; an argument list's -/
abbrev TE := St → Hp → VK → Prop
abbrev TT := St → Hp → (Bool → Hp → Prop) → Prop
abbrev TA := St → Hp → (List V → Hp → Prop) → Prop
/-- what is wanted behind a statement -/
structure Ends where
  nx : St → Hp → Prop
  rt : VK
  bk : St → Hp → Prop := fun _ _ => False
  ct : St → Hp → Prop := fun _ _ => False
abbrev TS := Ends → St → Hp → Prop

def EP (X : Cx) (pins : List (Addr × Obj)) (σ : St) (Q : VK) (u : Value) (s' : Shared) : Prop := ∃ v H', Inv X pins σ H' s' ∧ RelV v u ∧ Q v H'
def TP (X : Cx) (pins : List (Addr × Obj)) (σ : St) (Q : Bool → Hp → Prop) (b : Bool) (s' : Shared) : Prop := ∃ H', Inv X pins σ H' s' ∧ Q b H'
def AP (X : Cx) (pins : List (Addr × Obj)) (σ : St) (Q : List V → Hp → Prop) (us : List Value) (s' : Shared) : Prop := ∃ vs H', Inv X pins σ H' s' ∧ Vals vs us ∧ Q vs H'
def SP (X : Cx) (pins : List (Addr × Obj)) (D : Ends) (f : Flow) (s' : Shared) : Prop :=
  match f with
  | .next => ∃ σ' H', Inv X pins σ' H' s' ∧ D.nx σ' H'
  | .brk => ∃ σ' H', Inv X pins σ' H' s' ∧ D.bk σ' H'
  | .cont => ∃ σ' H', Inv X pins σ' H' s' ∧ D.ct σ' H'
  | .ret u => ∃ v σ' H', Inv X pins σ' H' s' ∧ RelV v u ∧ D.rt v H'

def PE (X : Cx) (e : Expr) (t : TE) : Prop :=
  ∀ (pins : List (Addr × Obj)) (s : Shared) (σ : St) (H : Hp) (Q : VK), Inv X pins σ H s → t σ H Q → wpAny (model X.prog X.w) X.A (eval e X.env) (EP X pins σ Q) X.xe s
def PT (X : Cx) (e : Expr) (t : TT) : Prop :=
  ∀ (pins : List (Addr × Obj)) (s : Shared) (σ : St) (H : Hp) (Q : Bool → Hp → Prop), Inv X pins σ H s → t σ H Q → wpAny (model X.prog X.w) X.A (isTrue e X.env (eval e X.env)) (TP X pins σ Q) X.xe s
/-- a test whatever its 'whole' is (and, or) -/
def PW (X : Cx) (e : Expr) (t : TT) : Prop :=
  ∀ (whole : Sem Value) (pins : List (Addr × Obj)) (s : Shared) (σ : St) (H : Hp) (Q : Bool → Hp → Prop), Inv X pins σ H s → t σ H Q → wpAny (model X.prog X.w) X.A (isTrue e X.env whole) (TP X pins σ Q) X.xe s
theorem PW.pt {X : Cx} {e : Expr} {t : TT} (h : PW X e t) : PT X e t := h _
/-- an argument list (no star), from the left -/
def PA (X : Cx) (es : List Expr) (t : TA) : Prop :=
  ∀ (pos : Pos) (pins : List (Addr × Obj)) (s : Shared) (σ : St) (H : Hp) (Q : List V → Hp → Prop), Inv X pins σ H s → t σ H Q → wpAny (model X.prog X.w) X.A (spliced (backTo pos (starEach es X.env))) (AP X pins σ Q) X.xe s
def PS (X : Cx) (st : Stmt) (t : TS) : Prop :=
  ∀ (pins : List (Addr × Obj)) (s : Shared) (σ : St) (H : Hp) (D : Ends), Inv X pins σ H s → t D σ H → wpAny (model X.prog X.w) X.A (exec st X.env) (SP X pins D) X.xe s
def PSs (X : Cx) (st : List Stmt) (t : TS) : Prop :=
  ∀ (pins : List (Addr × Obj)) (s : Shared) (σ : St) (H : Hp) (D : Ends), Inv X pins σ H s → t D σ H → wpAny (model X.prog X.w) X.A (execs st X.env) (SP X pins D) X.xe s
/-- weaken the end -/
theorem thn {α : Type} {t : Sem α} {Q Q' : α → Shared → Prop} {M : Model} {A : Around} {E : Value → Shared → Prop} {s : Shared} (h : wpAny M A t Q E s) (hQ : ∀ a s, Q a s → Q' a s) : wpAny M A t Q' E s := wpAny_mono h hQ fun _ _ x => x
end L2

namespace L2
open PySem PySem.Spec PyProof.Rows
section
variable {X : Cx}

/-! ### names and constants -/
def tVar (i : Nat) : TE := fun σ H Q => ∃ v, σ[i]? = some (some v) ∧ Q v H
def tC (v : V) : TE := fun _ H Q => Q v H
theorem pe_var {i : Nat} {x : Str} {pos : Pos} (hN : X.N[i]? = some x) (hv : Vis X.env.scope x) (hd : (x == ("__debug__" : Str)) = false := by decide) (hcd : (x == ("__classdict__" : Str)) = false := by decide) : PE X (.Name x pos) (tVar i) := by
  intro pins s σ H Q I h
  obtain ⟨v, e, h⟩ := h
  obtain ⟨m, hn, hl⟩ := I.loc
  obtain ⟨u, r, l⟩ := hl i x v hN e hv
  have fin : EP X pins σ Q u s := ⟨v, H, I, r, h⟩
  rcases l with ⟨hk, hm⟩ | ⟨hk, c, hc, hcell⟩
  · exact wpAny_Name (wpAny_loadName_local I.ok.kind hk hn hm fin) hd
  · rcases hk with hk | hk
    · exact wpAny_Name (wpAny_loadName_cell I.ok.kind hk hc hcell fin) hd
    · exact wpAny_Name (wpAny_loadName_free I.ok.kind hk hc hcell fin hcd) hd
theorem pe_int {i j pos} : PE X (.Constant (.int i) j pos) (tC (.int i)) := fun _ _ _ H _ I h => wpAny_Constant_int ⟨.int i, H, I.tok _, ⟨_, rfl⟩, h⟩
theorem pe_bl {b j pos} : PE X (.Constant (.bool b) j pos) (tC (.bl b)) := fun _ _ _ H _ I h => Constant_bool ⟨.bl b, H, I, rfl, h⟩
theorem pe_str {x j pos} : PE X (.Constant (.str x) j pos) (tC (.str x)) := fun _ _ _ H _ I h => Calls.Constant_str ⟨.str x, H, I.tok _, ⟨_, rfl⟩, h⟩

/-- a global name of the def -/
def Gl (X : Cx) (x : Str) : Prop := X.env.kindOf x = some .globalImplicit
theorem ld_glob {E : Value → Shared → Prop} {pins : List (Addr × Obj)} {s : Shared} {σ : St} {H : Hp} {x : Str} {u : Value} {pos : Pos} {Q : Value → Shared → Prop} (I : Inv X pins σ H s) (hg : Gl X x) (hm : X.mg x = some u) (h : Q u s)
    (hd : (x == ("__debug__" : Str)) = false := by decide) : wpAny (model X.prog X.w) X.A (eval (.Name x pos) X.env) Q E s :=
  Calls.Name_function_global I.ok.kind hg (Calls.loadGlobal_global (by rw [I.ok.glob]; exact I.mod.glob.keeps I.bk) hm h) hd
theorem ld_blt {E : Value → Shared → Prop} {pins : List (Addr × Obj)} {s : Shared} {σ : St} {H : Hp} {x : Str} {u : Value} {pos : Pos} {Q : Value → Shared → Prop} (I : Inv X pins σ H s) (hg : Gl X x) (hm : X.mg x = none) (hv : bootBuiltins x = some u) (h : Q u s)
    (hn : x ≠ "__name__" := by decide) (hd : (x == ("__debug__" : Str)) = false := by decide) : wpAny (model X.prog X.w) X.A (eval (.Name x pos) X.env) Q E s := by
  obtain ⟨mb, h1, h2⟩ := I.mod.blt
  exact Calls.Name_function_global I.ok.kind hg (Calls.loadGlobal_builtin (by rw [I.ok.glob]; exact I.mod.glob.keeps I.bk) hm (by rw [I.ok.blt]; exact h1.keeps I.bk) ((h2 x hn).trans hv) h) hd
/-- a module's constant, a class, a function, as a value -/
theorem pe_glob {x : Str} {v : V} {u : Value} {pos : Pos} (hg : Gl X x) (hm : X.mg x = some u) (r : RelV v u) (hd : (x == ("__debug__" : Str)) = false := by decide) : PE X (.Name x pos) (tC v) :=
  fun _ _ _ H _ I h => ld_glob I hg hm ⟨v, H, I, r, h⟩ hd
theorem pe_bltn {x : Str} {v : V} {u : Value} {pos : Pos} (hg : Gl X x) (hm : X.mg x = none) (hv : bootBuiltins x = some u) (r : RelV v u) (hn : x ≠ "__name__" := by decide) (hd : (x == ("__debug__" : Str)) = false := by decide) : PE X (.Name x pos) (tC v) :=
  fun _ _ _ H _ I h => ld_blt I hg hm hv ⟨v, H, I, r, h⟩ hn hd

/-! ### arithmetic -/
variable {a b : Expr} {ta tb : TE} {pos : Pos}
/-! ### comparisons -/
def PC (X : Cx) (op : CmpOp) (a b : Expr) (t : TE) : Prop :=
  ∀ (pins : List (Addr × Obj)) (s : Shared) (σ : St) (H : Hp) (Q : VK), Inv X pins σ H s → t σ H Q →
    wpAny (model X.prog X.w) X.A (eval a X.env) (fun v s₁ => wpAny (model X.prog X.w) X.A (eval b X.env) (fun u s₂ => wpAny (model X.prog X.w) X.A (compareOp op v u) (EP X pins σ Q) X.xe s₂) X.xe s₁) X.xe s
/-- is None -/
def tIsN (ta : TE) : TE := fun σ H Q => ta σ H fun x H1 => Q (.bl (decide (x = .non))) H1
/-- a comparison as a value, as a test -/
def tB (t : TE) : TT := fun σ H Q => t σ H fun x H1 => ∃ c, x = .bl c ∧ Q c H1
/-- an expression whose value is a bool, as a test -/
theorem pt_val {e : Expr} {t : TE} (h : PE X e t) (he : ∀ whole, isTrue e X.env whole = (do let v ← whole; standAt e.pos; holding [v] (truthy v)) := by intro _; rfl) : PT X e (tB t) := by
  intro pins s σ H Q I hw
  refine isTrue_plain (thn (h pins s σ H _ I hw) fun v s1 ⟨x, H1, I1, r1, q1⟩ => ?_) (he _)
  obtain ⟨d, rfl, q⟩ := q1
  cases r1
  exact wpAny_truthy_bool ⟨H1, I1, q⟩

/-! ### and, or, not -/
variable {tA tB' : TT} {rest : List Expr}
def tAnd (t u : TT) : TT := fun σ H Q => t σ H fun c H1 => if c = true then u σ H1 Q else Q false H1
def tOr (t u : TT) : TT := fun σ H Q => t σ H fun c H1 => if c = true then Q true H1 else u σ H1 Q
def tNot (t : TT) : TT := fun σ H Q => t σ H fun c H1 => Q (!c) H1
theorem pw_and1 (ha : PT X a tA) : PW X (.BoolOp .And [a] pos) tA := by
  intro wh pins s σ H Q I h
  refine isTrue_and (thn (ha pins s σ H Q I h) fun c s1 e => ?_)
  cases c with
  | true => exact isTrue_and_nil e
  | false => exact e
theorem pw_or1 (ha : PT X a tA) : PW X (.BoolOp .Or [a] pos) tA := by
  intro wh pins s σ H Q I h
  refine isTrue_or (thn (ha pins s σ H Q I h) fun c s1 e => ?_)
  cases c with
  | false => exact isTrue_or_nil e
  | true => exact e
theorem pw_and (ha : PT X a tA) (hb : PW X (.BoolOp .And (b :: rest) pos) tB') : PW X (.BoolOp .And (a :: b :: rest) pos) (tAnd tA tB') := by
  intro wh pins s σ H Q I h
  refine isTrue_and (thn (ha pins s σ H _ I h) fun c s1 ⟨H1, I1, q1⟩ => ?_)
  cases c with
  | true => exact hb wh pins s1 σ H1 Q I1 q1
  | false => exact ⟨H1, I1, q1⟩
theorem pw_or (ha : PT X a tA) (hb : PW X (.BoolOp .Or (b :: rest) pos) tB') : PW X (.BoolOp .Or (a :: b :: rest) pos) (tOr tA tB') := by
  intro wh pins s σ H Q I h
  refine isTrue_or (thn (ha pins s σ H _ I h) fun c s1 ⟨H1, I1, q1⟩ => ?_)
  cases c with
  | true => exact ⟨H1, I1, q1⟩
  | false => exact hb wh pins s1 σ H1 Q I1 q1
theorem pt_not (ha : PT X a tA) : PT X (.UnaryOp .Not a pos) (tNot tA) := by
  intro pins s σ H Q I h
  exact isTrue_not (ha pins s σ H (fun c H1 => Q (!c) H1) I h)
/-- .. as values (bools) -/
def tAndV (ta tb : TE) : TE := fun σ H Q => ta σ H fun x H1 => ∃ c, x = .bl c ∧ if c = true then tb σ H1 Q else Q (.bl false) H1
def tOrV (ta tb : TE) : TE := fun σ H Q => ta σ H fun x H1 => ∃ c, x = .bl c ∧ if c = true then Q (.bl true) H1 else tb σ H1 Q
def tNotV (ta : TE) : TE := fun σ H Q => ta σ H fun x H1 => ∃ c, x = .bl c ∧ Q (.bl (!c)) H1
theorem pe_one {op} {t : TE} (h : PE X a t) : PE X (.BoolOp op [a] pos) t := fun pins s σ H Q I hw => BoolOp_one (h pins s σ H Q I hw)
theorem pe_and (ha : PE X a ta) (hb : PE X (.BoolOp .And (b :: rest) pos) tb) : PE X (.BoolOp .And (a :: b :: rest) pos) (tAndV ta tb) := by
  intro pins s σ H Q I h
  refine BoolOp_and (thn (ha pins s σ H _ I h) fun v s1 ⟨x, H1, I1, r1, q1⟩ => ?_)
  obtain ⟨c, rfl, q1⟩ := q1
  cases r1
  refine wpAny_truthy_bool ?_
  cases c with
  | true => exact hb pins s1 σ H1 Q I1 q1
  | false => exact ⟨.bl false, H1, I1, rfl, q1⟩
theorem pe_or (ha : PE X a ta) (hb : PE X (.BoolOp .Or (b :: rest) pos) tb) : PE X (.BoolOp .Or (a :: b :: rest) pos) (tOrV ta tb) := by
  intro pins s σ H Q I h
  refine BoolOp_or (thn (ha pins s σ H _ I h) fun v s1 ⟨x, H1, I1, r1, q1⟩ => ?_)
  obtain ⟨c, rfl, q1⟩ := q1
  cases r1
  refine wpAny_truthy_bool ?_
  cases c with
  | false => exact hb pins s1 σ H1 Q I1 q1
  | true => exact ⟨.bl true, H1, I1, rfl, q1⟩
theorem pe_not (ha : PE X a ta) : PE X (.UnaryOp .Not a pos) (tNotV ta) := by
  intro pins s σ H Q I h
  refine UnaryOp_ (thn (ha pins s σ H _ I h) fun v s1 ⟨x, H1, I1, r1, q1⟩ => ?_)
  obtain ⟨c, rfl, q1⟩ := q1
  cases r1
  exact not_of (wpAny_truthy_bool ⟨.bl (!c), H1, I1, rfl, q1⟩)
end
end L2

namespace L2
open PySem PySem.Spec PyProof.Rows

/-! ### a list, a tuple that is read: tracked, frozen, or an object of the module -/
def SqL (K : PySem.W.Frag) (H : Hp) (a : Addr) (xs : List V) : Prop :=
  Rd H a (.lst xs) ∨
    ∃ (o : Obj) (its : Array Value) (n : Nat), K.lookup a = some o ∧ o.cls = .type "list" ∧ o.dict = none ∧ o.data = .seq its n ∧ its.size ≤ sizeLine ∧ Vals xs its.toList
def SqT (K : PySem.W.Frag) (H : Hp) (a : Addr) (xs : List V) : Prop :=
  Rd H a (.tup xs) ∨
    ∃ (o : Obj) (its : Array Value) (n : Nat), K.lookup a = some o ∧ o.cls = .type "tuple" ∧ o.data = .seq its n ∧ its.size ≤ sizeLine ∧ Vals xs its.toList
def absV : Value → Option V
  | .none => some .non
  | .bool b => some (.bl b)
  | .int i _ => some (.int i)
  | .str x _ => some (.str x)
  | .bytes b _ => some (.byt b)
  | .float b _ => some (.flt b)
  | .ref a => some (.ref a)
  | .type n => some (.ty n)
  | _ => none
theorem RelV.abs {x : V} {u : Value} (r : RelV x u) : absV u = some x := by
  cases x with
  | non => cases r; rfl
  | bl _ => cases r; rfl
  | int _ => obtain ⟨t, rfl⟩ := r; rfl
  | str _ => obtain ⟨t, rfl⟩ := r; rfl
  | byt _ => obtain ⟨t, rfl⟩ := r; rfl
  | flt _ => obtain ⟨t, rfl⟩ := r; rfl
  | ref _ => cases r; rfl
  | ty _ => cases r; rfl
theorem RelV.inj {x y : V} {u : Value} (r : RelV x u) (q : RelV y u) : x = y := Option.some.inj (r.abs.symm.trans q.abs)
theorem Vals.inj : ∀ {xs ys : List V} {us : List Value}, Vals xs us → Vals ys us → xs = ys
  | _, _, _, .nil, .nil => rfl
  | _, _, _, .cons r t, .cons r' t' => by rw [r.inj r', Vals.inj t t']
section
variable {X : Cx} {pins : List (Addr × Obj)} {σ : St} {H : Hp} {s : Shared} {a : Addr} {xs ys : List V}
theorem SqL.of {K : PySem.W.Frag} (h : H a = some (.lst xs)) : SqL K H a xs := .inl (.inl h)
theorem SqT.of {K : PySem.W.Frag} (h : H a = some (.tup xs)) : SqT K H a xs := .inl (.inl h)
theorem Inv.list (I : Inv X pins σ H s) (h : SqL X.K H a xs) : ∃ its : List Value, Vals xs its ∧ PlainL s.heap a its.toArray ∧ xs.length ≤ sizeLine := by
  rcases h with h | ⟨o, its, n, hk, hc, hd, hs, hz, r⟩
  · obtain ⟨z, its, n, r, e⟩ := h.ok I.hok
    exact ⟨its, r, ⟨_, n, e, rfl, rfl, rfl⟩, z⟩
  · refine ⟨its.toList, r, ⟨o, n, I.kIn a o hk, hc, hd, by simpa using hs⟩, ?_⟩
    have e := r.length
    simp only [Array.length_toList] at e
    omega
theorem Inv.tuple (I : Inv X pins σ H s) (h : SqT X.K H a xs) : ∃ its : List Value, Vals xs its ∧ IsTup s.heap a its.toArray ∧ xs.length ≤ sizeLine := by
  rcases h with h | ⟨o, its, n, hk, hc, hs, hz, r⟩
  · obtain ⟨z, its, r, p⟩ := h.ok I.hok
    exact ⟨its, r, p, z⟩
  · refine ⟨its.toList, r, ⟨o, I.kIn a o hk, hc, n, by simpa using hs⟩, ?_⟩
    have e := r.length
    simp only [Array.length_toList] at e
    omega
theorem Inv.list_inj (I : Inv X pins σ H s) (h : SqL X.K H a xs) (h' : SqL X.K H a ys) : xs = ys := by
  obtain ⟨its, r, ⟨o, n, e, _, _, d⟩, _⟩ := I.list h
  obtain ⟨its', r', ⟨o', n', e', _, _, d'⟩, _⟩ := I.list h'
  rw [e] at e'; cases e'
  rw [d] at d'
  injection d' with d1 _
  have : its = its' := by simpa using congrArg Array.toList d1
  subst this
  exact r.inj r'
end

/-! ### another wish about exceptions -/
abbrev Cx.wish (X : Cx) (E : Value → Shared → Prop) : Cx := { X with xe := E }
/-- no exception leaves -/
abbrev Cx.nox (X : Cx) : Cx := X.wish fun _ _ => False
theorem Cx.Ok.wish {X : Cx} (ok : X.Ok) (E : Value → Shared → Prop) : (X.wish E).Ok :=
  ⟨ok.mod, ok.kind, ok.glob, ok.blt, ok.above, ok.inj, ok.has, ok.cab, ok.hd, ok.frames, ok.stk, ok.exf, ok.bs, ok.bsz, ok.noex, ok.exfs, ok.funs, ok.frf⟩
theorem Cx.Ok.unwish {X : Cx} {E : Value → Shared → Prop} (ok : (X.wish E).Ok) : X.Ok :=
  ⟨ok.mod, ok.kind, ok.glob, ok.blt, ok.above, ok.inj, ok.has, ok.cab, ok.hd, ok.frames, ok.stk, ok.exf, ok.bs, ok.bsz, ok.noex, ok.exfs, ok.funs, ok.frf⟩
section
variable {X : Cx} {pins : List (Addr × Obj)} {σ : St} {H : Hp} {s : Shared} {E : Value → Shared → Prop}
theorem Inv.wish (I : Inv X pins σ H s) (E : Value → Shared → Prop) : Inv (X.wish E) pins σ H s := ⟨I.ok.wish E, I.os, I.bare, I.base, I.loc, I.cell, I.free, I.freeC, I.pin, I.hok, I.len⟩
theorem Inv.unwish (I : Inv (X.wish E) pins σ H s) : Inv X pins σ H s := ⟨I.ok.unwish, I.os, I.bare, I.base, I.loc, I.cell, I.free, I.freeC, I.pin, I.hok, I.len⟩
theorem SP.unwish {D : Ends} {f : Flow} {s' : Shared} (h : SP (X.wish E) pins D f s') : SP X pins D f s' := by
  cases f with
  | next => obtain ⟨σ', H', I, q⟩ := h; exact ⟨σ', H', I.unwish, q⟩
  | brk => obtain ⟨σ', H', I, q⟩ := h; exact ⟨σ', H', I.unwish, q⟩
  | cont => obtain ⟨σ', H', I, q⟩ := h; exact ⟨σ', H', I.unwish, q⟩
  | ret u => obtain ⟨v, σ', H', I, r, q⟩ := h; exact ⟨v, σ', H', I.unwish, r, q⟩
theorem PE.nox {e : Expr} {t : TE} (h : PE X.nox e t) : PE X e t := fun pins s σ H Q I hw =>
  wpAny_mono (h pins s σ H Q (I.wish _) hw) (fun _ _ ⟨v, H', I', r, q⟩ => ⟨v, H', I'.unwish, r, q⟩) fun _ _ z => False.elim z
theorem PT.nox {e : Expr} {t : TT} (h : PT X.nox e t) : PT X e t := fun pins s σ H Q I hw =>
  wpAny_mono (h pins s σ H Q (I.wish _) hw) (fun _ _ ⟨H', I', q⟩ => ⟨H', I'.unwish, q⟩) fun _ _ z => False.elim z
theorem PSs.nox {st : List Stmt} {t : TS} (h : PSs X.nox st t) : PSs X st t := fun pins s σ H D I hw =>
  wpAny_mono (h pins s σ H D (I.wish _) hw) (fun _ _ q => q.unwish) fun _ _ z => False.elim z
end

/-! ### blocks and small statements -/
section
variable {X : Cx} {st : Stmt} {rest : List Stmt} {t u : TS} {e : Expr} {te : TE} {pos : Pos}
def tNext : TS := fun D σ H => D.nx σ H
def tSeq (t u : TS) : TS := fun D σ H => t { D with nx := u D } σ H
theorem pss_nil : PSs X [] tNext := fun _ _ σ H _ I h => wpAny_execs_nil ⟨σ, H, I, h⟩
theorem pss_cons (h1 : PS X st t) (h2 : PSs X rest u) : PSs X (st :: rest) (tSeq t u) := by
  intro pins s σ H D I h
  refine wpAny_execs_cons (thn (h1 pins s σ H { D with nx := u D } I h) fun f s1 q => ?_)
  cases f with
  | next =>
    obtain ⟨σ', H', I', q⟩ := q
    exact h2 pins s1 σ' H' D I' q
  | ret v => exact q
  | brk => exact q
  | cont => exact q
theorem pss_one (h1 : PS X st t) : PSs X [st] t := by
  intro pins s σ H D I h
  refine wpAny_execs_cons (thn (h1 pins s σ H D I h) fun f s1 q => ?_)
  cases f with
  | next => exact wpAny_execs_nil q
  | ret v => exact q
  | brk => exact q
  | cont => exact q
/-- in a def's body nothing is shown -/
theorem Inv.quiet {pins : List (Addr × Obj)} {σ : St} {H : Hp} {s : Shared} (I : Inv X pins σ H s) : interactive X.env = false := by simp [interactive, I.ok.kind]
/-- an expression whose value is dropped -/
def tDrop (te : TE) : TS := fun D σ H => te σ H fun _ H1 => D.nx σ H1
theorem ps_expr (he : PE X e te) (hs : swapsWith e none pos.line X.env = pure false := by rfl) : PS X (.Expr e pos) (tDrop te) := by
  intro pins s σ H D I h
  exact wpAny_Expr_any (thn (he pins s σ H _ I h) fun v s1 ⟨x, H1, I1, r1, q1⟩ => ⟨σ, H1, I1, q1⟩) I.quiet hs
def tRet (te : TE) : TS := fun D σ H => te σ H D.rt
theorem ps_ret (he : PE X e te) : PS X (.Return (some e) pos) (tRet te) := by
  intro pins s σ H D I h
  exact wpAny_Return_some (thn (he pins s σ H _ I h) fun v s1 ⟨x, H1, I1, r1, q1⟩ => ⟨x, σ, H1, I1, r1, q1⟩)
def tIfS (c : TT) (t u : TS) : TS := fun D σ H => c σ H fun b H1 => if b = true then t D σ H1 else u D σ H1
theorem ps_if {c : Expr} {a b : List Stmt} {tc : TT} (hc : PT X c tc) (ha : PSs X a t) (hb : PSs X b u) : PS X (.If c a b pos) (tIfS tc t u) := by
  intro pins s σ H D I h
  refine wpAny_If (thn (hc pins s σ H _ I h) fun d s1 ⟨H1, I1, q1⟩ => ?_)
  cases d with
  | true => exact ha pins s1 σ H1 D I1 q1
  | false => exact hb pins s1 σ H1 D I1 q1
end

/-! ### targets -/
abbrev TG := V → St → Hp → (St → Hp → Prop) → Prop
abbrev TGs := List V → St → Hp → (St → Hp → Prop) → Prop
def PG (X : Cx) (target : Expr) (t : TG) : Prop :=
  ∀ (pins : List (Addr × Obj)) (s : Shared) (σ : St) (H : Hp) (v : V) (u : Value) (Q : St → Hp → Prop), Inv X pins σ H s → RelV v u → t v σ H Q →
    wpAny (model X.prog X.w) X.A (assign target X.env u) (fun _ s' => ∃ σ' H', Inv X pins σ' H' s' ∧ Q σ' H') X.xe s
/-- several targets, one after another -/
def PGs (X : Cx) (ts : List Expr) (t : TGs) : Prop :=
  ∀ (pins : List (Addr × Obj)) (s : Shared) (σ : St) (H : Hp) (vs : List V) (us : List Value) (Q : St → Hp → Prop), Inv X pins σ H s → Vals vs us → t vs σ H Q →
    wpAny (model X.prog X.w) X.A (assignInOrder ((assignEach ts X.env).map (·.2)) us) (fun _ s' => ∃ σ' H', Inv X pins σ' H' s' ∧ Q σ' H') X.xe s
section
variable {X : Cx} {pos : Pos}
def gName (i : Nat) : TG := fun v σ H Q => Q (σ.set i (some v)) H
theorem pg_name {i : Nat} {x : Str} (hN : X.N.Nodup) (hi : X.N[i]? = some x) (hx : Loc X.env.scope x) (hf : X.fn x = true ∨ X.env.scope.names.lookup x = some .local := by first | exact .inl rfl | exact .inr rfl | assumption) : PG X (.Name x pos) (gName i) := by
  intro pins s σ H v u Q I r h
  exact wpAny_assign_Name (store_ok I hN hi hx r (fun s' I' => ⟨_, H, I', h⟩) hf)
def gNil : TGs := fun vs σ H Q => vs = [] ∧ Q σ H
def gCons (t : TG) (u : TGs) : TGs := fun vs σ H Q => ∃ v r, vs = v :: r ∧ t v σ H fun σ' H' => u r σ' H' Q
theorem pgs_nil : PGs X [] gNil := by
  intro pins s σ H vs us Q I r h
  obtain ⟨e, h⟩ := h
  subst e
  cases r
  exact assignInOrder_nil ⟨σ, H, I, h⟩
theorem pgs_cons {e : Expr} {es : List Expr} {t : TG} {u : TGs} (h1 : PG X e t) (h2 : PGs X es u)
    (hs : (assignEach (e :: es) X.env).map (·.2) = assign e X.env :: (assignEach es X.env).map (·.2) := by rfl) : PGs X (e :: es) (gCons t u) := by
  intro pins s σ H vs us Q I r h
  obtain ⟨v, vr, e1, h⟩ := h
  subst e1
  cases r with
  | cons r rr =>
    rw [hs]
    refine assignInOrder_cons (thn (h1 pins s σ H _ _ _ I r h) fun _ s1 ⟨σ1, H1, I1, q1⟩ => ?_)
    exact h2 pins s1 σ1 H1 _ _ Q I1 rr q1
/-- (a, b, ..) = a tuple of that length -/
def gTup (K : PySem.W.Frag) (n : Nat) (t : TGs) : TG := fun v σ H Q => ∃ a xs, v = .ref a ∧ SqT K H a xs ∧ xs.length = n ∧ t xs σ H Q
theorem pg_tup {es : List Expr} {k : Nat} {t : TGs} {n : Nat} (hc : X.calm = true) (h : PGs X es t)
    (hn : (assignEach es X.env).length = n := by rfl) (hst : (assignEach es X.env).findIdx? (·.1) = none := by rfl) : PG X (.Tuple es k pos) (gTup X.K n t) := by
  intro pins s σ H v u Q I r hw
  obtain ⟨a, xs, e1, hq, hl, hw⟩ := hw
  subst e1
  cases r
  obtain ⟨its, rv, ht, hz⟩ := I.tuple hq
  refine assign_Tuple_tuple (I.ok.hd hc) ht (by simp [hn, ← hl, rv.length]) hst fun h' hx => ?_
  have I1 : Inv X pins σ H { s with heap := h' } := I.kept (t' := s.toks) fun b o e => hx b o (Nat.ne_of_lt (Heap.lt_size e)) e
  exact h pins _ σ H xs _ Q I1 (by simpa using rv) hw
/-- target = value -/
def tAsg (te : TE) (g : TG) : TS := fun D σ H => te σ H fun x H1 => g x σ H1 D.nx
theorem ps_asg {tg e : Expr} {te : TE} {g : TG} (he : PE X e te) (hg : PG X tg g) (hs : swapsWithSole [tg] e pos.line X.env = pure false := by rfl) (hw : swappedStores [tg] e X.env = pure none := by rfl)
    (h1 : (assignEach [tg] X.env).map (·.2) = [assign tg X.env] := by rfl) : PS X (.Assign [tg] e pos) (tAsg te g) := by
  intro pins s σ H D I h
  refine wpAny_Assign_stores (thn (he pins s σ H _ I h) fun v s1 ⟨x, H1, I1, r1, q1⟩ => ?_) hs hw
  rw [h1]
  exact thn (hg pins s1 σ H1 x v _ I1 r1 q1) fun _ s2 q => q
/-- name = value -/
theorem ps_set {i : Nat} {x : Str} {e : Expr} {te : TE} {pos' : Pos} (hN : X.N.Nodup) (hi : X.N[i]? = some x) (hx : Loc X.env.scope x) (he : PE X e te) (hs : swapsWith e (some (.Name x pos')) pos.line X.env = pure false := by rfl) (hf : X.fn x = true ∨ X.env.scope.names.lookup x = some .local := by first | exact .inl rfl | exact .inr rfl | assumption) :
    PS X (.Assign [.Name x pos'] e pos) (tAsg te (gName i)) := by
  intro pins s σ H D I h
  refine wpAny_Assign_Name (thn (he pins s σ H _ I h) fun v s1 ⟨y, H1, I1, r1, q1⟩ => ?_) hs
  exact store_ok I1 hN hi hx r1 (fun s2 I2 => ⟨_, H1, I2, q1⟩) hf
/-- a, b = x, y with plain local names: stored from the right; the pair itself is not tracked (the opening rows as in PyProof/Rows/TupAssign.lean:23) -/
def tPar (i j : Nat) (ta : TA) : TS := fun D σ H => ta σ H fun vs H1 => ∃ v w, vs = [v, w] ∧ D.nx ((σ.set i (some v)).set j (some w)) H1
theorem ps_par {i j : Nat} {x y : Str} {a b : Expr} {ta : TA} {px py pt : Pos} {kt k2 pt2} (hc : X.calm = true) (hN : X.N.Nodup) (hi : X.N[i]? = some x) (hj : X.N[j]? = some y) (hij : i ≠ j)
    (hx : X.env.scope.names.lookup x = some .local) (hy : X.env.scope.names.lookup y = some .local) (ha : PA X [a, b] ta)
    (hw : swappedStores [.Tuple [.Name x px, .Name y py] kt pt] (.Tuple [a, b] k2 pt2) X.env = pure (some [x, y]))
    (hs : swapsWithSole [.Tuple [.Name x px, .Name y py] kt pt] (.Tuple [a, b] k2 pt2) pos.line X.env = pure false := by rfl) :
    PS X (.Assign [.Tuple [.Name x px, .Name y py] kt pt] (.Tuple [a, b] k2 pt2) pos) (tPar i j ta) := by
  intro pins s σ H D I h
  rw [exec_Assign_arm]
  refine wpAny_bind (wpAny_standAt ?_)
  rw [hs]
  refine wpAny_bind (wpAny_pure ?_)
  rw [if_neg (by decide)]
  refine wpAny_bind (Tuple_ (thn (ha _ pins s σ H _ I h) fun us s1 ⟨vs, H1, I1, r1, q1⟩ => ?_))
  obtain ⟨v, w, e1, q1⟩ := q1
  subst e1
  obtain ⟨u1, u2, rfl, rv, rw'⟩ : ∃ u1 u2, us = [u1, u2] ∧ RelV v u1 ∧ RelV w u2 := by
    cases r1 with
    | cons p q =>
      cases q with
      | cons p' q' =>
        cases q'
        exact ⟨_, _, rfl, p, p'⟩
  refine wpAny_newObj_type ?_ (by show 2 ≤ sizeLine; decide)
  have I2 : Inv X pins σ H1 { s1 with heap := s1.heap.push { cls := .type "tuple", data := .seq [u1, u2].toArray } } := I1.kept (t' := s1.toks) fun b o e => Heap.get?_push_of_some _ e
  rw [hw]
  refine wpAny_bind (wpAny_pure ?_)
  show wpAny (model X.prog X.w) X.A (do rule "assign.swapped-stores"; let items ← unpackItems (.ref s1.heap.objs.size) 2 none; assignInOrder [fun v => bindName X.env y v, fun v => bindName X.env x v] items.reverse; pure Flow.next) _ _ _
  refine wpAny_bind (wpAny_rule (wpAny_bind (unpackItems_tuple (items := #[u1, u2]) (I.ok.hd hc) (IsTup.new s1.heap _) fun h' hx' => ?_)))
  have I3 := I2.kept (h' := h') (t' := s1.toks) fun b o e => hx' b o (Nat.ne_of_lt (Heap.lt_size e)) e
  show wpAny _ _ (assignInOrder [fun v => bindName X.env y v, fun v => bindName X.env x v] [u2, u1] >>= fun _ => pure Flow.next) _ _ _
  refine wpAny_bind (assignInOrder_cons (wpAny_bindName (store_ok I3 hN hj (.inl hy) rw' (fun s2 I4 => ?_) (.inr hy))))
  refine assignInOrder_cons (wpAny_bindName (store_ok I4 hN hi (.inl hx) rv (fun s3 I5 => assignInOrder_nil (wpAny_pure ?_)) (.inr hx)))
  rw [List.set_comm _ _ (Ne.symm hij)] at I5
  exact ⟨_, H1, I5, q1⟩
end

/-! ### while -/
section
variable {X : Cx} {pos : Pos}
/-- the invariant W with its measure -/
def tWhile (c : TT) (tb : TS) : TS := fun D σ H => ∃ W : Nat → St → Hp → Prop, (∃ m, W m σ H) ∧ ∀ m σ H, W m σ H →
  c σ H fun b H1 => if b = true then ∃ N : St → Hp → Prop, (∀ σ' H', N σ' H' → ∃ m', m' < m ∧ W m' σ' H') ∧ tb { D with nx := N, ct := N, bk := D.nx } σ H1 else D.nx σ H1
theorem ps_while {c : Expr} {body : List Stmt} {tc : TT} {tb : TS} (hp : PassesOwn (model X.prog X.w) X.A X.env X.xe) (hc : PT X c tc) (hb : PSs X body tb) : PS X (.While c body [] pos) (tWhile tc tb) := by
  intro pins s σ H D I h
  obtain ⟨W, ⟨m0, w0⟩, turn⟩ := h
  refine wpAny_While (codeAny_whileLoop (fun n s' => ∃ σ' H', Inv X pins σ' H' s' ∧ W n σ' H') ?_ m0 ⟨σ, H, I, w0⟩)
  rintro n s1 ⟨σ1, H1, I1, w1⟩
  refine wpAny_passesOwn hp (thn (hc pins s1 σ1 H1 _ I1 (turn n σ1 H1 w1)) fun b s2 ⟨H2, I2, q2⟩ => ?_)
  cases b with
  | true =>
    obtain ⟨N, hN, q2⟩ := q2
    rw [if_pos rfl]
    refine wpAny_passesOwn hp (thn (hb pins s2 σ1 H2 _ I2 q2) fun f s3 q3 => ?_)
    cases f with
    | next =>
      obtain ⟨σ3, H3, I3, n3⟩ := q3
      obtain ⟨m', hm, w3⟩ := hN σ3 H3 n3
      exact ⟨m', hm, σ3, H3, I3, w3⟩
    | cont =>
      obtain ⟨σ3, H3, I3, n3⟩ := q3
      obtain ⟨m', hm, w3⟩ := hN σ3 H3 n3
      exact ⟨m', hm, σ3, H3, I3, w3⟩
    | brk => exact q3
    | ret v => exact q3
  | false =>
    rw [if_neg Bool.false_ne_true]
    exact wpAny_execs_nil ⟨σ1, H2, I2, q2⟩
end

/-! ### what a loop or a comprehension walks -/
/-- at turn i: it yields x (the heap may grow), or it stops -/
structure It where
  go : Nat → Hp → Prop
  yld : Nat → Hp → V → Hp → Prop
  stop : Nat → Hp → Prop
/-- the iterator's own objects may turn: they are not the frame's, not pinned, younger than the entry (or a comprehension's own) -/
def FpOk (X : Cx) (pins : List (Addr × Obj)) (H : Hp) (b : Addr) : Prop :=
  H b = none ∧ b ≠ X.env.locals ∧ b ∉ X.fs ∧ (b ∈ X.ex ∨ X.s₀.heap.objs.size ≤ b) ∧ (∀ x c, X.env.cells.lookup x = some c → c ≠ b) ∧ ∀ p ∈ X.pn ++ pins, p.1 ≠ b
theorem Inv.fpOk {X : Cx} {pins : List (Addr × Obj)} {σ : St} {H H' : Hp} {s : Shared} {b : Addr} (I : Inv X pins σ H s) (hb : s.heap.objs.size ≤ b) (hn : H' b = none) : FpOk X pins H' b := by
  refine ⟨hn, Nat.ne_of_gt (Nat.lt_of_lt_of_le I.lt hb), I.nofs hb, .inr (Nat.le_trans I.sz hb), fun x c e z => ?_, fun p hp z => ?_⟩
  · obtain ⟨v, q⟩ := I.cell x c e
    exact absurd (Nat.lt_of_lt_of_le q.lt (by rw [z]; exact hb)) (Nat.lt_irrefl _)
  · exact absurd (Nat.lt_of_lt_of_le (Heap.lt_size (I.pin p hp).1) (by rw [z]; exact hb)) (Nat.lt_irrefl _)
structure Turn (P : Program) (w : World) (K : PySem.W.Frag) (tg : Expr) (J : It) (fp : List Addr) (it : Addr) (tn : Nat → Heap → Prop) : Prop where
  mem : it ∈ fp
  obj : ∀ i h, tn i h → ∀ b ∈ fp, ∃ o, h.get? b = some o ∧ ∀ v, o.data ≠ .cell v
  keep : ∀ i h h', tn i h → (∀ b ∈ fp, ∀ o, h.get? b = some o → h'.get? b = some o) → tn i h'
  item : ∀ (X : Cx), X.prog = P → X.w = w → X.K = K → X.calm = true → ∀ (i : Nat) (pins : List (Addr × Obj)) (s : Shared) (σ : St) (H : Hp) (E : Value → Shared → Prop), Inv X pins σ H s → (∀ b ∈ fp, FpOk X pins H b) → tn i s.heap → J.go i H →
    wpAny (model P w) X.A (pyNext (.ref it)) (fun r s1 => ∃ u, r = some u ∧
      wpAny (model P w) X.A (letOwnedTupleGo tg (.ref it) u) (fun _ s2 => ∃ x H', Inv X pins σ H' s2 ∧ RelV x u ∧ J.yld i H x H' ∧ tn (i + 1) s2.heap ∧ ∀ b ∈ fp, H' b = none) E s1) E s
  done : ∀ (X : Cx), X.prog = P → X.w = w → X.K = K → X.calm = true → ∀ (i : Nat) (pins : List (Addr × Obj)) (s : Shared) (σ : St) (H : Hp) (E : Value → Shared → Prop), Inv X pins σ H s → (∀ b ∈ fp, FpOk X pins H b) → tn i s.heap → J.stop i H →
    wpAny (model P w) X.A (pyNext (.ref it)) (fun r s1 => r = none ∧ Inv X pins σ H s1) E s
  self : ∀ (A : Around) (i : Nat) (s : Shared) (Q : Value → Shared → Prop) (E : Value → Shared → Prop), tn i s.heap → Q (.ref it) s → wpAny (model P w) A (pyIter (.ref it)) Q E s
abbrev TI := St → Hp → (It → Hp → Prop) → Prop
/-- an iterator has come -/
def PIE (X : Cx) (pins : List (Addr × Obj)) (σ : St) (tg : Expr) (R : It → Hp → Prop) (itv : Value) (s2 : Shared) : Prop :=
  ∃ (it : Addr) (fp : List Addr) (tn : Nat → Heap → Prop) (J : It) (H' : Hp), itv = .ref it ∧ Inv X pins σ H' s2 ∧ Turn X.prog X.w X.K tg J fp it tn ∧ tn 0 s2.heap ∧ (∀ b ∈ fp, FpOk X pins H' b) ∧ R J H'
def PI (X : Cx) (tg iter : Expr) (wi : TI) : Prop :=
  ∀ (pins : List (Addr × Obj)) (s : Shared) (σ : St) (H : Hp) (R : It → Hp → Prop), Inv X pins σ H s → wi σ H R →
    wpAny (model X.prog X.w) X.A (eval iter X.env) (fun v s1 => wpAny (model X.prog X.w) X.A (pyIter v) (PIE X pins σ tg R) X.xe s1) X.xe s

/-- the step ahead of the store is nothing for an iterator that keeps no tuple -/
theorem go_of {M : Model} {A : Around} {E : Value → Shared → Prop} {s : Shared} {tg : Expr} {it : Addr} {u : Value} {o : Obj} {n : String} {vs : Array Value} {Q : Unit → Shared → Prop} (ho : s.heap.get? it = some o) (hc : o.cls = .type n) (hd : o.data = .fields vs)
    (hn : ["enumerate", "zip", "dict_itemiterator", "dict_reverseitemiterator", "odict_iterator", "itertools.zip_longest", "itertools.pairwise"].contains n = false) (hQ : Q () s) : wpAny M A (letOwnedTupleGo tg (.ref it) u) Q E s := by
  unfold letOwnedTupleGo
  cases tg <;> first
    | exact wpAny_pure hQ
    | (cases u <;> first
        | exact wpAny_pure hQ
        | (refine wpAny_bind (wpAny_load ho ?_)
           rw [hc, hd]
           show wpAny M A (if (["enumerate", "zip", "dict_itemiterator", "dict_reverseitemiterator", "odict_iterator", "itertools.zip_longest", "itertools.pairwise"].contains n && vs[0]? == some (rawInt _)) = true then _ else _) Q E s
           rw [if_neg (by intro h; rw [hn, Bool.false_and] at h; cases h)]
           exact wpAny_pure hQ))

/-- the list at a, as it stands at each turn (a loop may append to it) -/
def Itl (K : PySem.W.Frag) (a : Addr) : It :=
  ⟨fun i H => ∃ xs x, SqL K H a xs ∧ xs[i]? = some x, fun i H x H' => H' = H ∧ ∀ xs, SqL K H a xs → xs[i]? = some x, fun i H => ∃ xs, SqL K H a xs ∧ xs.length ≤ i⟩
/-- lo, lo + 1, .. (n of them) -/
def Itr (lo : Int) (n : Nat) : It := ⟨fun i _ => i < n, fun i H x H' => H' = H ∧ x = .int (lo + i), fun i _ => n ≤ i⟩
theorem turn_list {P : Program} {w : World} {K : PySem.W.Frag} {tg : Expr} (a it : Addr) : Turn P w K tg (Itl K a) [it] it (fun i h => h.IsListIter it a i) where
  mem := by simp
  obj := fun i h st b hb => by
    have e : b = it := by simpa using hb
    subst e
    obtain ⟨o, e, c, d⟩ := st
    exact ⟨o, e, fun v z => by rw [d] at z; cases z⟩
  keep := fun i h h' st k => st.at fun o e => k it (by simp) o e
  item := by
    intro X hP hw hK hc i pins s σ H E I hf st hg
    subst hP hw hK
    obtain ⟨xs, x, hq, hx⟩ := hg
    obtain ⟨its, rv, p, hz⟩ := I.list hq
    obtain ⟨u, hu, ru⟩ := rv.get hx
    obtain ⟨f0, f1, f2, f3, f4, f5⟩ := hf it (by simp)
    refine wpAny_pyNext_list_item st p.isList (x := u) (by simpa using hu) fun h' st' sb => ?_
    have I1 : Inv X pins σ H { s with heap := h' } := I.turned (t' := s.toks) (fun b o hb e => (sb.2 b hb).trans e) f0 f1 f3 f4 f5
    obtain ⟨o, e, c, d⟩ := id st'
    exact ⟨u, rfl, go_of (s := { s with heap := h' }) e c d (by decide) ⟨x, H, I1, ru, ⟨rfl, fun ys hy => by rw [I.list_inj hy hq]; exact hx⟩, st', fun b hb => (hf b hb).1⟩⟩
  done := by
    intro X hP hw hK hc i pins s σ H E I hf st hg
    subst hP hw hK
    obtain ⟨xs, hq, hx⟩ := hg
    obtain ⟨its, rv, p, hz⟩ := I.list hq
    obtain ⟨f0, f1, f2, f3, f4, f5⟩ := hf it (by simp)
    have hl := rv.length
    exact wpAny_pyNext_list_end (I.ok.hd hc) st p.isList (by simp; omega) fun h' eb => ⟨rfl, I.turned (t' := s.toks) (fun b o hb e => eb b o hb e) f0 f1 f3 f4 f5⟩
  self := fun _ _ _ _ _ st h => wpAny_pyIter_listiter st h
theorem turn_range {P : Program} {w : World} {K : PySem.W.Frag} {tg : Expr} (it : Addr) (lo : Int) (n : Nat) : Turn P w K tg (Itr lo n) [it] it (fun i h => IsRangeIter h it (lo + (i : Nat) * 1) ((n : Int) - (i : Nat)) 1) where
  mem := by simp
  obj := fun i h st b hb => by
    have e : b = it := by simpa using hb
    subst e
    exact ⟨_, st, fun v z => by
      have z' : Data.fields _ = Data.cell v := z
      cases z'⟩
  keep := fun i h h' st k => k it (by simp) _ st
  item := by
    intro X hP hw hK hc i pins s σ H E I hf st hg
    subst hP hw hK
    obtain ⟨f0, f1, f2, f3, f4, f5⟩ := hf it (by simp)
    have W := Walks.range (prog := X.prog) (w := X.w) (I.ok.hd hc) it lo 1 n
    refine W.item i s _ _ hg st fun v h' tk hv st' kk => ?_
    obtain ⟨t, rfl⟩ := hv
    have I1 : Inv X pins σ H { s with heap := h', toks := tk } := I.turned (fun b o hb e => kk b o (by simpa using hb) e) f0 f1 f3 f4 f5
    refine ⟨_, rfl, go_of (s := { s with heap := h', toks := tk }) (n := "range_iterator") st' rfl rfl (by decide) ⟨.int (lo + i), H, I1, ⟨t, ?_⟩, ⟨rfl, rfl⟩, st', fun b hb => (hf b hb).1⟩⟩
    rw [Int.mul_one]
  done := by
    intro X hP hw hK hc i pins s σ H E I hf st hg
    subst hP hw hK
    obtain ⟨f0, f1, f2, f3, f4, f5⟩ := hf it (by simp)
    exact wpAny_pyNext_range_end (I.ok.hd hc) st (by have : n ≤ i := hg; omega) fun h' eb => ⟨rfl, I.turned (t' := s.toks) (fun b o hb e => eb b o hb e) f0 f1 f3 f4 f5⟩
  self := fun _ _ _ _ _ st h => wpAny_pyIter_rangeiter st h
end L2

namespace L2
open PySem PySem.Spec PyProof.Rows
section
variable {X : Cx} {tg : Expr}
def iList (K : PySem.W.Frag) (tl : TE) : TI := fun σ H R => tl σ H fun x H1 => ∃ a, x = .ref a ∧ (∃ xs, SqL K H1 a xs) ∧ R (Itl K a) H1
theorem pi_list {l : Expr} {tl : TE} (hl : PE X l tl) : PI X tg l (iList X.K tl) := by
  intro pins s σ H R I h
  refine thn (hl pins s σ H _ I h) fun v s1 ⟨x, H1, I1, r1, q1⟩ => ?_
  obtain ⟨a, e, ⟨xs, hq⟩, q⟩ := q1
  subst e
  cases r1
  obtain ⟨its, rv, p, hz⟩ := I1.list hq
  refine wpAny_pyIter_list p.isList ?_
  refine ⟨s1.heap.objs.size, [s1.heap.objs.size], _, _, H1, rfl, I1.kept (t' := s1.toks) fun b o e => Heap.get?_push_of_some _ e, turn_list a _, ⟨_, Heap.get?_push_size _ rfl, rfl, rfl⟩, fun b hb => ?_, q⟩
  have e : b = s1.heap.objs.size := by simpa using hb
  subst e
  exact I1.fpOk (Nat.le_refl _) (I1.hok.fresh (Nat.le_refl _))
/-- a range object just made, walked -/
theorem range_it {pins : List (Addr × Obj)} {σ : St} {H : Hp} {s : Shared} {R : It → Hp → Prop} {E : Value → Shared → Prop} {lo hi : Int} {t u v : Tok} {tk : Nat} (I : Inv X pins σ H s) (h1 : -(2 ^ 62) ≤ lo) (h2 : lo < 2 ^ 62) (h3 : -(2 ^ 62) ≤ hi) (h4 : hi < 2 ^ 62)
    (q : R (Itr lo (hi - lo).toNat) H) : wpAny (model X.prog X.w) X.A (pyIter (.ref s.heap.objs.size)) (PIE X pins σ tg R) E { s with heap := s.heap.push { cls := .type "range", data := .fields #[.int lo t, .int hi u, .int 1 v] }, toks := tk } := by
  refine wpAny_pyIter_range (IsRange.new ..) (small_one h1 h2 h3 h4) ?_
  have I1 : Inv X pins σ H { s with heap := s.heap.push { cls := .type "range", data := .fields #[.int lo t, .int hi u, .int 1 v] }, toks := tk } := I.kept fun b o e => Heap.get?_push_of_some _ e
  refine ⟨(s.heap.push { cls := .type "range", data := .fields #[.int lo t, .int hi u, .int 1 v] }).objs.size, [(s.heap.push { cls := .type "range", data := .fields #[.int lo t, .int hi u, .int 1 v] }).objs.size], _, _, H, rfl,
    I1.kept (t' := tk) fun b o e => Heap.get?_push_of_some _ e, turn_range _ lo (hi - lo).toNat, ?_, fun b hb => ?_, q⟩
  · have e1 : lo + ((0 : Nat) : Int) * 1 = lo := by simp
    have e2 : (((hi - lo).toNat : Nat) : Int) - ((0 : Nat) : Int) = Builtin.Range.rangeSize lo hi 1 := by rw [rangeSize_one]; split <;> omega
    show IsRangeIter _ _ (lo + ((0 : Nat) : Int) * 1) ((((hi - lo).toNat : Nat) : Int) - ((0 : Nat) : Int)) 1
    rw [e1, e2]
    exact Heap.get?_push_size _ rfl
  · have e : b = (s.heap.push { cls := .type "range", data := .fields #[.int lo t, .int hi u, .int 1 v] }).objs.size := by simpa using hb
    subst e
    exact I1.fpOk (Nat.le_refl _) (I1.hok.fresh (Nat.le_refl _))
def iRng1 (ta : TA) : TI := fun σ H R => ta σ H fun vs H1 => ∃ j : Int, vs = [.int j] ∧ -(2 ^ 62) ≤ j ∧ j < 2 ^ 62 ∧ R (Itr 0 j.toNat) H1
theorem pi_range1 {a : Expr} {ta : TA} {p pos : Pos} (hg : Gl X "range") (hm : X.mg "range" = none) (ha : PA X [a] ta) (hs : starEach [a] X.env = [(false, eval a X.env)] := by rfl) : PI X tg (.Call (.Name "range" p) [a] [] pos) (iRng1 ta) := by
  intro pins s σ H R I h
  refine Call_ (ld_blt I hg hm boot_range (PyProof.Rows.callWith_type1 (thn (ha pos pins s σ H _ I h) fun us s1 ⟨vs, H1, I1, r1, q1⟩ => ?_) hs rfl))
  obtain ⟨j, e, q1, q2, q⟩ := q1
  subst e
  cases r1 with
  | cons r rr =>
    cases rr
    obtain ⟨t, rfl⟩ := r
    exact call_range_1 (range_it I1 (by omega) (by omega) q1 q2 (by simpa using q))
/-! ### for -/
/-- W: the invariant by the turn and a measure; N: what the body is to reach -/
def tFor (wi : TI) (g : TG) (tb : TS) : TS := fun D σ H => wi σ H fun J H1 => ∃ W : Nat → Nat → St → Hp → Prop, (∃ m, W 0 m σ H1) ∧ ∀ i m σ H, W i m σ H →
  (J.stop i H ∧ D.nx σ H) ∨ (J.go i H ∧ ∃ N : St → Hp → Prop, (∀ σ' H', N σ' H' → ∃ m', m' < m ∧ W (i + 1) m' σ' H') ∧ ∀ x H', J.yld i H x H' → g x σ H' fun σ2 H2 => tb { D with nx := N, ct := N, bk := D.nx } σ2 H2)
/-- the records at fp as they stand -/
def pinsAt (fp : List Addr) (h : Heap) : List (Addr × Obj) := fp.filterMap fun b => (h.get? b).map fun o => (b, o)
theorem mem_pinsAt {fp : List Addr} {h : Heap} {b : Addr} {o : Obj} (hb : b ∈ fp) (e : h.get? b = some o) : (b, o) ∈ pinsAt fp h := List.mem_filterMap.mpr ⟨b, hb, by rw [e]; rfl⟩
theorem of_pinsAt {fp : List Addr} {h : Heap} {p : Addr × Obj} (hp : p ∈ pinsAt fp h) : p.1 ∈ fp ∧ h.get? p.1 = some p.2 := by
  obtain ⟨b, hb, e⟩ := List.mem_filterMap.mp hp
  cases q : h.get? b with
  | none => rw [q] at e; cases e
  | some o =>
    rw [q] at e
    have e' : (b, o) = p := Option.some.inj e
    subst e'
    exact ⟨hb, q⟩
theorem Inv.pinned {pins : List (Addr × Obj)} {σ : St} {H : Hp} {s : Shared} {fp : List Addr} (I : Inv X pins σ H s) (hf : ∀ b ∈ fp, FpOk X pins H b) (ho : ∀ b ∈ fp, ∃ o, s.heap.get? b = some o ∧ ∀ v, o.data ≠ .cell v) : Inv X (pins ++ pinsAt fp s.heap) σ H s :=
  I.pins_of fun p hp => (List.mem_append.mp hp).elim (fun z => I.pin p (List.mem_append_right _ z)) fun z => by
    obtain ⟨hb, e⟩ := of_pinsAt z
    obtain ⟨f0, f1, f2, _⟩ := hf p.1 hb
    obtain ⟨o, e', d⟩ := ho p.1 hb
    rw [e] at e'; cases e'
    exact ⟨e, f0, f1, f2, d⟩
theorem Inv.unpinned {pins pl : List (Addr × Obj)} {σ : St} {H : Hp} {s : Shared} (I : Inv X (pins ++ pl) σ H s) : Inv X pins σ H s := I.pins_of fun p hp => I.pin p (List.mem_append_right _ (List.mem_append_left _ hp))
theorem ps_for {iter : Expr} {body : List Stmt} {wi : TI} {g : TG} {tb : TS} {pos : Pos} (hp : PassesOwn (model X.prog X.w) X.A X.env X.xe) (hc : X.calm = true) (hi : PI X tg iter wi) (hg : PG X tg g) (hb : PSs X body tb)
    (hs : ∀ x, foldedSetIterable iter X.env x = pure x := by intro _; rfl) : PS X (.For tg iter body [] pos) (tFor wi g tb) := by
  intro pins s σ H D I h
  refine wpAny_For (thn (hi pins s σ H _ I h) fun v s1 h1 => thn h1 fun itv s2 h2 => ?_) hs
  obtain ⟨it, fp, tn, J, H2, e, I2, T, st2, f2, W, ⟨m0, w0⟩, turn⟩ := h2
  subst e
  -- what stays true of the iterator's objects through the loop
  have stat : ∀ {H' : Hp}, (∀ b ∈ fp, H' b = none) → ∀ b ∈ fp, FpOk X pins H' b := fun hn b hb => ⟨hn b hb, (f2 b hb).2⟩
  refine codeAny_forLoop_any (fun n s' => ∃ i σ' H', Inv X pins σ' H' s' ∧ tn i s'.heap ∧ (∀ b ∈ fp, H' b = none) ∧ W i n σ' H') ?_ m0 ⟨0, σ, H2, I2, st2, fun b hb => (f2 b hb).1, w0⟩
  rintro n s3 ⟨i, σ3, H3, I3, st3, fr3, w3⟩
  rcases turn i n σ3 H3 w3 with ⟨stop, qn⟩ | ⟨go, N, hN, step⟩
  · refine wpAny_passesOwn hp (thn (T.done X rfl rfl rfl hc i pins s3 σ3 H3 X.xe I3 (stat fr3) st3 stop) fun r s4 ⟨hr, I4⟩ => ?_)
    subst hr
    exact wpAny_execs_nil ⟨σ3, H3, I4, qn⟩
  · refine wpAny_passesOwn hp (thn (T.item X rfl rfl rfl hc i pins s3 σ3 H3 X.xe I3 (stat fr3) st3 go) fun r s4 ⟨u, hr, h4⟩ => ?_)
    subst hr
    refine wpAny_passesOwn hp (thn h4 fun _ s5 ⟨x, H5, I5, r5, y5, st5, fr5⟩ => ?_)
    have I5' := I5.pinned (stat fr5) (T.obj _ _ st5)
    refine wpAny_passesOwn hp (thn (hg _ s5 σ3 H5 x u _ I5' r5 (step x H5 y5)) fun _ s6 ⟨σ6, H6, I6, q6⟩ => ?_)
    refine wpAny_passesOwn hp (thn (hb _ s6 σ6 H6 _ I6 q6) fun f s7 q7 => ?_)
    have again : ∀ {σ7 : St} {H7 : Hp}, Inv X (pins ++ pinsAt fp s5.heap) σ7 H7 s7 → N σ7 H7 → ∃ m, m < n ∧ ∃ i σ' H', Inv X pins σ' H' s7 ∧ tn i s7.heap ∧ (∀ b ∈ fp, H' b = none) ∧ W i m σ' H' := fun {σ7 H7} I7 n7 => by
      obtain ⟨m', hm, w7⟩ := hN σ7 H7 n7
      refine ⟨m', hm, i + 1, σ7, H7, I7.unpinned, T.keep _ _ _ st5 fun b hb o e => (I7.pin (b, o) (List.mem_append_right _ (List.mem_append_right _ (mem_pinsAt hb e)))).1, fun b hb => ?_, w7⟩
      obtain ⟨o, e, d⟩ := T.obj _ _ st5 b hb
      exact (I7.pin (b, o) (List.mem_append_right _ (List.mem_append_right _ (mem_pinsAt hb e)))).2.1
    cases f with
    | next => obtain ⟨σ7, H7, I7, n7⟩ := q7; exact again I7 n7
    | cont => obtain ⟨σ7, H7, I7, n7⟩ := q7; exact again I7 n7
    | brk => obtain ⟨σ7, H7, I7, q7⟩ := q7; exact ⟨σ7, H7, I7.unpinned, q7⟩
    | ret v => obtain ⟨x7, σ7, H7, I7, r7, q7⟩ := q7; exact ⟨x7, σ7, H7, I7.unpinned, r7, q7⟩
end

/-! ### the forms one uses -/
end L2

namespace L2
open PySem PySem.Spec PyProof.Rows

abbrev R2 := V → V → Hp → VK → Prop
/-- a two-place operation on values: f is binaryOp op, inplaceOp op or compareOp op -/
def OpR (X : Cx) (f : Value → Value → Sem Value) (r : R2) : Prop :=
  ∀ (pins : List (Addr × Obj)) (s : Shared) (σ : St) (H : Hp) (x y : V) (v u : Value) (Q : VK), Inv X pins σ H s → RelV x v → RelV y u → r x y H Q →
    wpAny (model X.prog X.w) X.A (f v u) (EP X pins σ Q) X.xe s
/-- a call of a value that is known (a builtin, a type) with values -/
def CallR (X : Cx) (f : Value) (r : List V → Hp → VK → Prop) : Prop :=
  ∀ (pins : List (Addr × Obj)) (s : Shared) (σ : St) (H : Hp) (xs : List V) (us : List Value) (Q : VK), Inv X pins σ H s → Vals xs us → r xs H Q →
    wpAny (model X.prog X.w) X.A (call f us) (EP X pins σ Q) X.xe s
def tOp (r : R2) (ta tb : TE) : TE := fun σ H Q => ta σ H fun x H1 => tb σ H1 fun y H2 => r x y H2 Q
/-- ints in, under C, and a value out -/
def rI (C : Int → Int → Prop) (g : Int → Int → V) : R2 := fun x y H Q => ∃ i j, x = .int i ∧ y = .int j ∧ C i j ∧ Q (g i j) H
def rI0 (g : Int → Int → V) : R2 := fun x y H Q => ∃ i j, x = .int i ∧ y = .int j ∧ Q (g i j) H
section
variable {X : Cx} {a b c : Expr} {ta tb tc : TE} {pos : Pos}

theorem binT (ha : PE X a ta) (hb : PE X b tb) {pins : List (Addr × Obj)} {s : Shared} {σ : St} {H : Hp} {R : V → V → Hp → Prop} (I : Inv X pins σ H s)
    (h : ta σ H fun x H1 => tb σ H1 fun y H2 => R x y H2) {Q : Value → Shared → Prop} {f : Value → Value → Sem Value}
    (hf : ∀ v u s2 x y H2, Inv X pins σ H2 s2 → RelV x v → RelV y u → R x y H2 → wpAny (model X.prog X.w) X.A (f v u) Q X.xe s2) :
    wpAny (model X.prog X.w) X.A (eval a X.env) (fun v s₁ => wpAny (model X.prog X.w) X.A (eval b X.env) (fun u s₂ => wpAny (model X.prog X.w) X.A (f v u) Q X.xe s₂) X.xe s₁) X.xe s := by
  refine thn (ha pins s σ H _ I h) fun v s1 ⟨x, H1, I1, r1, q1⟩ => ?_
  refine thn (hb pins s1 σ H1 _ I1 q1) fun u s2 ⟨y, H2, I2, r2, q2⟩ => ?_
  exact hf v u s2 x y H2 I2 r1 r2 q2

theorem pe_op {op : Operator} {r : R2} (ho : OpR X (binaryOp op) r) (ha : PE X a ta) (hb : PE X b tb) : PE X (.BinOp a op b pos) (tOp r ta tb) := by
  intro pins s σ H Q I h
  exact wpAny_BinOp (binT ha hb I h fun v u s2 x y H2 I2 rx ry q => ho pins s2 σ H2 x y v u Q I2 rx ry q)
/-! ### ints -/
theorem opI {f : Value → Value → Sem Value} {C : Int → Int → Prop} {g : Int → Int → Int}
    (rule : ∀ (i j : Int) (t u : Tok) (s : Shared) (Q : Value → Shared → Prop) (E : Value → Shared → Prop), C i j → Q (.int (g i j) s.toks) { s with toks := s.toks + 1 } → wpAny (model X.prog X.w) X.A (f (.int i t) (.int j u)) Q E s) :
    OpR X f (rI C fun i j => .int (g i j)) := by
  intro pins s σ H x y v u Q I rx ry h
  obtain ⟨i, j, rfl, rfl, hc, q⟩ := h
  obtain ⟨t, rfl⟩ := rx
  obtain ⟨t', rfl⟩ := ry
  exact rule i j t t' s _ _ hc ⟨.int (g i j), H, I.tok _, ⟨_, rfl⟩, q⟩
theorem opI0 {f : Value → Value → Sem Value} {g : Int → Int → Int}
    (rule : ∀ (i j : Int) (t u : Tok) (s : Shared) (Q : Value → Shared → Prop) (E : Value → Shared → Prop), Q (.int (g i j) s.toks) { s with toks := s.toks + 1 } → wpAny (model X.prog X.w) X.A (f (.int i t) (.int j u)) Q E s) :
    OpR X f (rI0 fun i j => .int (g i j)) := by
  intro pins s σ H x y v u Q I rx ry h
  obtain ⟨i, j, rfl, rfl, q⟩ := h
  obtain ⟨t, rfl⟩ := rx
  obtain ⟨t', rfl⟩ := ry
  exact rule i j t t' s _ _ ⟨.int (g i j), H, I.tok _, ⟨_, rfl⟩, q⟩
theorem opB0 {f : Value → Value → Sem Value} {g : Int → Int → Bool}
    (rule : ∀ (i j : Int) (t u : Tok) (s : Shared) (Q : Value → Shared → Prop) (E : Value → Shared → Prop), Q (.bool (g i j)) s → wpAny (model X.prog X.w) X.A (f (.int i t) (.int j u)) Q E s) :
    OpR X f (rI0 fun i j => .bl (g i j)) := by
  intro pins s σ H x y v u Q I rx ry h
  obtain ⟨i, j, rfl, rfl, q⟩ := h
  obtain ⟨t, rfl⟩ := rx
  obtain ⟨t', rfl⟩ := ry
  exact rule i j t t' s _ _ ⟨.bl (g i j), H, I, rfl, q⟩

def CPow (i j : Int) : Prop := 0 ≤ j ∧ j ≤ 1000000 ∧ i.natAbs < 2 ^ 64
def CMul (i j : Int) : Prop := (-(2 ^ 64) < i ∧ i < 2 ^ 64) ∨ (-(2 ^ 64) < j ∧ j < 2 ^ 64)
theorem CMul.ok {i j : Int} (h : CMul i j) : IntMulOk i j := by
  rcases h with ⟨h1, h2⟩ | ⟨h1, h2⟩
  · exact .of_left (intBits_le_64 h1 h2)
  · exact .of_right (intBits_le_64 h1 h2)
theorem op_add : OpR X (binaryOp .Add) (rI0 fun i j => .int (i + j)) := opI0 fun _ _ _ _ _ _ _ q => add_int q
theorem op_sub : OpR X (binaryOp .Sub) (rI0 fun i j => .int (i - j)) := opI0 fun _ _ _ _ _ _ _ q => sub_int q
/-- % by a positive divisor of any size -/
theorem op_mod : OpR X (binaryOp .Mod) (rI (fun _ j => 0 < j) fun i j => .int (i % j)) := opI fun i j _ _ _ _ _ hc q => by
  have h1 : (0 : Int) < j := hc
  exact mod_int' (by omega) (by rw [Int.fmod_eq_emod_of_nonneg i (by omega)]; exact q)
theorem op_modN : OpR X (binaryOp .Mod) (rI (fun _ j => j ≠ 0) fun i j => .int (i.fmod j)) := opI fun _ _ _ _ _ _ _ hc q => mod_int' hc q
theorem op_pow : OpR X (binaryOp .Pow) (rI CPow fun i j => .int (i ^ j.toNat)) := opI fun _ _ _ _ _ _ _ hc q => pow_int_small hc.1 hc.2.1 hc.2.2 q
/-! ### bools among ints: n += (a < b) -/
end

/-! ### comparisons -/
/-- the scalars that == tells apart as data does -/
def scal : V → V → Bool
  | .non, .non => true | .non, .int _ => true | .int _, .non => true | .non, .bl _ => true | .bl _, .non => true | .non, .str _ => true | .str _, .non => true
  | .int _, .int _ => true | .bl _, .bl _ => true | .str _, .str _ => true | .byt _, .byt _ => true
  | .int _, .str _ => true | .str _, .int _ => true | .bl _, .str _ => true | .str _, .bl _ => true
  | _, _ => false
def rEq : R2 := fun x y H Q => scal x y = true ∧ Q (.bl (decide (x = y))) H
def rNe : R2 := fun x y H Q => scal x y = true ∧ Q (.bl (!decide (x = y))) H

theorem dec_int {i j : Int} : decide (V.int i = V.int j) = (i == j) := by
  rw [Bool.eq_iff_iff]
  simp
theorem dec_bl {i j : Bool} : decide (V.bl i = V.bl j) = (i == j) := by
  rw [Bool.eq_iff_iff]
  simp
theorem dec_str {i j : Str} : decide (V.str i = V.str j) = (i == j) := by
  rw [Bool.eq_iff_iff]
  simp
theorem dec_byt {i j : Array UInt8} : decide (V.byt i = V.byt j) = (i.toList == j.toList) := by
  rw [Bool.eq_iff_iff]
  cases i
  cases j
  simp

section
variable {X : Cx} {a b c : Expr} {ta tb tc : TE} {pos : Pos}
theorem fin_bl {pins : List (Addr × Obj)} {σ : St} {H : Hp} {s : Shared} {Q : VK} {k k' : Bool} (I : Inv X pins σ H s) (q : Q (.bl k) H) (e : k = k') : EP X pins σ Q (.bool k') s := by
  subst e
  exact ⟨.bl k, H, I, rfl, q⟩
theorem op_eq : OpR X (compareOp .Eq) rEq := by
  intro pins s σ H x y v u Q I rx ry h
  obtain ⟨hs, q⟩ := h
  cases x with
  | non =>
    cases rx
    cases y with
    | non => cases ry; exact PySem.EqNone.eq_none_none (fin_bl I q (by simp))
    | bl j => cases ry; exact PySem.EqNone.eq_none_bool (fin_bl I q (by simp))
    | int j => obtain ⟨t', rfl⟩ := ry; exact PySem.EqNone.eq_none_int (fin_bl I q (by simp))
    | str j => obtain ⟨t', rfl⟩ := ry; exact PySem.EqNone.eq_none_str (fin_bl I q (by simp))
    | _ => exact absurd (show false = true from hs) Bool.false_ne_true
  | bl i =>
    cases rx
    cases y with
    | non => cases ry; exact PySem.EqNone.eq_bool_none (fin_bl I q (by simp))
    | bl j => cases ry; exact eq_bool (fin_bl I q dec_bl)
    | str j => obtain ⟨t', rfl⟩ := ry; exact PySem.EqMixed.eq_bool_str (fin_bl I q (by simp))
    | _ => exact absurd (show false = true from hs) Bool.false_ne_true
  | int i =>
    obtain ⟨t, rfl⟩ := rx
    cases y with
    | non => cases ry; exact PySem.EqNone.eq_int_none (fin_bl I q (by simp))
    | int j => obtain ⟨t', rfl⟩ := ry; exact eq_int (fin_bl I q dec_int)
    | str j => obtain ⟨t', rfl⟩ := ry; exact PySem.EqMixed.eq_int_str (fin_bl I q (by simp))
    | _ => exact absurd (show false = true from hs) Bool.false_ne_true
  | str i =>
    obtain ⟨t, rfl⟩ := rx
    cases y with
    | non => cases ry; exact PySem.EqNone.eq_str_none (fin_bl I q (by simp))
    | bl j => cases ry; exact PySem.EqMixed.eq_str_bool (fin_bl I q (by simp))
    | int j => obtain ⟨t', rfl⟩ := ry; exact PySem.EqMixed.eq_str_int (fin_bl I q (by simp))
    | str j => obtain ⟨t', rfl⟩ := ry; exact eq_str (fin_bl I q dec_str)
    | _ => exact absurd (show false = true from hs) Bool.false_ne_true
  | byt i =>
    obtain ⟨t, rfl⟩ := rx
    cases y with
    | byt j => obtain ⟨t', rfl⟩ := ry; exact PySem.W.eq_bytes (fin_bl I q dec_byt)
    | _ => exact absurd (show false = true from hs) Bool.false_ne_true
  | _ => cases y <;> exact absurd (show false = true from hs) Bool.false_ne_true
theorem op_ne : OpR X (compareOp .NotEq) rNe := by
  intro pins s σ H x y v u Q I rx ry h
  obtain ⟨hs, q⟩ := h
  cases x with
  | non =>
    cases rx
    cases y with
    | non => cases ry; exact PySem.EqNone.ne_none_none (fin_bl I q (by simp))
    | bl j => cases ry; exact PySem.EqNone.ne_none_bool (fin_bl I q (by simp))
    | int j => obtain ⟨t', rfl⟩ := ry; exact PySem.EqNone.ne_none_int (fin_bl I q (by simp))
    | str j => obtain ⟨t', rfl⟩ := ry; exact PySem.EqNone.ne_none_str (fin_bl I q (by simp))
    | _ => exact absurd (show false = true from hs) Bool.false_ne_true
  | bl i =>
    cases rx
    cases y with
    | non => cases ry; exact PySem.EqNone.ne_bool_none (fin_bl I q (by simp))
    | bl j => cases ry; exact ne_bool (fin_bl I q (congrArg not dec_bl))
    | str j => obtain ⟨t', rfl⟩ := ry; exact PySem.EqMixed.ne_bool_str (fin_bl I q (by simp))
    | _ => exact absurd (show false = true from hs) Bool.false_ne_true
  | int i =>
    obtain ⟨t, rfl⟩ := rx
    cases y with
    | non => cases ry; exact PySem.EqNone.ne_int_none (fin_bl I q (by simp))
    | int j => obtain ⟨t', rfl⟩ := ry; exact ne_int (fin_bl I q (congrArg not dec_int))
    | str j => obtain ⟨t', rfl⟩ := ry; exact PySem.EqMixed.ne_int_str (fin_bl I q (by simp))
    | _ => exact absurd (show false = true from hs) Bool.false_ne_true
  | str i =>
    obtain ⟨t, rfl⟩ := rx
    cases y with
    | non => cases ry; exact PySem.EqNone.ne_str_none (fin_bl I q (by simp))
    | bl j => cases ry; exact PySem.EqMixed.ne_str_bool (fin_bl I q (by simp))
    | int j => obtain ⟨t', rfl⟩ := ry; exact PySem.EqMixed.ne_str_int (fin_bl I q (by simp))
    | str j => obtain ⟨t', rfl⟩ := ry; exact ne_str (fin_bl I q (congrArg not dec_str))
    | _ => exact absurd (show false = true from hs) Bool.false_ne_true
  | byt i =>
    obtain ⟨t, rfl⟩ := rx
    cases y with
    | byt j => obtain ⟨t', rfl⟩ := ry; exact PySem.W.ne_bytes (fin_bl I q (congrArg not dec_byt))
    | _ => exact absurd (show false = true from hs) Bool.false_ne_true
  | _ => cases y <;> exact absurd (show false = true from hs) Bool.false_ne_true

theorem op_lt : OpR X (compareOp .Lt) (rI0 fun i j => .bl (decide (i < j))) := opB0 fun _ _ _ _ _ _ _ q => lt_int q
theorem op_gt : OpR X (compareOp .Gt) (rI0 fun i j => .bl (decide (j < i))) := opB0 fun _ _ _ _ _ _ _ q => gt_int q
theorem op_ge : OpR X (compareOp .GtE) (rI0 fun i j => .bl (decide (j ≤ i))) := opB0 fun _ _ _ _ _ _ _ q => ge_int q
theorem nomark (b : Expr) {op : CmpOp} (h : op ≠ .In := by decide) (h2 : op ≠ .NotIn := by decide) : behindInMarks op b = false := by
  have e1 : (op == CmpOp.In) = false := by cases op <;> first | rfl | exact absurd rfl h
  have e2 : (op == CmpOp.NotIn) = false := by cases op <;> first | rfl | exact absurd rfl h2
  cases b <;> simp [behindInMarks, e1, e2]
/-- a comparison as a value; hm: nomark b, or (for in, not in) by with_unfolding_all rfl -/
theorem pe_cmpR {op : CmpOp} {r : R2} (ho : OpR X (compareOp op) r) (ha : PE X a ta) (hb : PE X b tb) (hm : behindInMarks op b = false) : PE X (.Compare a [op] [b] pos) (tOp r ta tb) := by
  intro pins s σ H Q I h
  exact wpAny_Compare1 (binT ha hb I h fun v u s2 x y H2 I2 rx ry q => ho pins s2 σ H2 x y v u Q I2 rx ry q) hm
/-- a reading of a value as a test -/
def tTest (t : TE) : TT := fun σ H Q => t σ H fun x H' => ∃ k, x = .bl k ∧ Q k H'
theorem pt_cmpR {op : CmpOp} {r : R2} (ho : OpR X (compareOp op) r) (ha : PE X a ta) (hb : PE X b tb) (hm : behindInMarks op b = false) : PT X (.Compare a [op] [b] pos) (tTest (tOp r ta tb)) := by
  intro pins s σ H Q I h
  refine wpAny_isTrue_Compare1 (thn (ha pins s σ H _ I h) fun v s1 ⟨x, H1, I1, r1, q1⟩ => thn (hb pins s1 σ H1 _ I1 q1) fun u s2 ⟨y, H2, I2, r2, q2⟩ =>
    thn (ho pins s2 σ H2 x y v u _ I2 r1 r2 q2) fun c s3 ⟨z, H3, I3, r3, k, e, q3⟩ => ?_) hm
  subst e
  cases r3
  exact wpAny_truthy_bool ⟨H3, I3, q3⟩
/-! ### truth -/
theorem line63 : (sizeLine : Nat) < 2 ^ 63 := by rw [sizeLine_eq]; decide
/-! ### strs and bytes -/
theorem op_add_str : OpR X (binaryOp .Add) (fun x y H Q => ∃ i j, x = .str i ∧ y = .str j ∧ i.length + j.length ≤ sizeLine ∧ Q (.str (i ++ j)) H) := by
  intro pins s σ H x y v u Q I rx ry h
  obtain ⟨i, j, rfl, rfl, hz, q⟩ := h
  obtain ⟨t, rfl⟩ := rx
  obtain ⟨t', rfl⟩ := ry
  exact add_str (fun t' tk => ⟨.str (i ++ j), H, I.tok _, ⟨_, rfl⟩, q⟩) hz
/-! ### scalar builtins, by CallR -/
theorem vals1 {x : V} {us : List Value} (r : Vals [x] us) : ∃ u, us = [u] ∧ RelV x u := by
  cases r with
  | cons r1 r2 => cases r2; exact ⟨_, rfl, r1⟩
theorem vals2 {x y : V} {us : List Value} (r : Vals [x, y] us) : ∃ u w', us = [u, w'] ∧ RelV x u ∧ RelV y w' := by
  cases r with
  | cons r1 r2 =>
    cases r2 with
    | cons r3 r4 => cases r4; exact ⟨_, _, rfl, r1, r3⟩
theorem call_abs : CallR X (.builtin "abs") (fun xs H Q => ∃ i, xs = [.int i] ∧ Q (.int (if i < 0 then -i else i)) H) := by
  intro pins s σ H xs us Q I r h
  obtain ⟨i, rfl, q⟩ := h
  obtain ⟨u, rfl, t, rfl⟩ := vals1 r
  exact call_abs_int fun u tk => ⟨.int (if i < 0 then -i else i), H, I.tok _, ⟨_, rfl⟩, q⟩
theorem call_max2 (hc : X.calm = true) : CallR X (.builtin "max") (fun xs H Q => ∃ i j, xs = [.int i, .int j] ∧ Q (.int (if j > i then j else i)) H) := by
  intro pins s σ H xs us Q I r h
  obtain ⟨i, j, rfl, q⟩ := h
  obtain ⟨u, w', rfl, ⟨t, rfl⟩, ⟨t', rfl⟩⟩ := vals2 r
  refine max_two_ints (I.ok.hd hc) fun h' tk k => ⟨_, H, I.kept k, ?_, q⟩
  by_cases hj : j > i
  · rw [if_pos hj, if_pos hj]; exact ⟨_, rfl⟩
  · rw [if_neg hj, if_neg hj]; exact ⟨_, rfl⟩
theorem call_min2 (hc : X.calm = true) : CallR X (.builtin "min") (fun xs H Q => ∃ i j, xs = [.int i, .int j] ∧ Q (.int (if j < i then j else i)) H) := by
  intro pins s σ H xs us Q I r h
  obtain ⟨i, j, rfl, q⟩ := h
  obtain ⟨u, w', rfl, ⟨t, rfl⟩, ⟨t', rfl⟩⟩ := vals2 r
  refine min_two_ints (I.ok.hd hc) fun h' tk k => ⟨_, H, I.kept k, ?_, q⟩
  by_cases hj : j < i
  · rw [if_pos hj, if_pos hj]; exact ⟨_, rfl⟩
  · rw [if_neg hj, if_neg hj]; exact ⟨_, rfl⟩
theorem call_str_int : CallR X (.type "str") (fun xs H Q => ∃ i, xs = [.int i] ∧ i.natAbs.log2 < 1920 ∧ Q (.str (toString i)) H) := by
  intro pins s σ H xs us Q I r h
  obtain ⟨i, rfl, hz, q⟩ := h
  obtain ⟨u, rfl, t, rfl⟩ := vals1 r
  exact PySem.P.str_of_int hz ⟨.str _, H, I.tok _, ⟨_, rfl⟩, q⟩
end
end L2

namespace L2
open PySem PySem.Spec PyProof.Rows

/-! ### an instance, its attributes a map -/
structure ObjM (h : Heap) (x dx C : Addr) (mA : Str → Option Value) : Prop where
  obj : h.get? x = some (PySem.W.instObj C dx)
  ns : h.Ns1 dx mA
  ne : dx ≠ x

theorem lookIn_ns {h : Heap} {dx : Addr} {mA : Str → Option Value} (n : h.Ns1 dx mA) : ∃ od, h.get? dx = some od ∧ ∀ name, PySem.W.lookIn name od = some (mA name) := by
  obtain ⟨o, es, ep, ho, hd, hk, _, hm⟩ := n
  refine ⟨o, ho, fun name => ?_⟩
  have e := hm name
  unfold nsFind findBy at e
  rw [← Array.find?_toList] at e
  unfold PySem.W.lookIn
  rw [hd]
  dsimp only
  split
  · rename_i y q
    rw [q] at e
    exact congrArg some e
  · rename_i q
    rw [q] at e
    have a : es.toList.any (·.refKey) = false := by
      rw [List.any_eq_false]
      intro y hy
      obtain ⟨z, t, hkey⟩ := hk y (Array.mem_toList_iff.mp hy)
      simp [DictEntry.refKey, hkey]
    have a' : ¬ es.toList.any (·.refKey) = true := by rw [a]; exact Bool.false_ne_true
    rw [if_neg a']
    exact congrArg some e

theorem ObjM.look {h : Heap} {x dx C : Addr} {mA : Str → Option Value} (I : ObjM h x dx C mA) : ∃ od, PySem.W.InstAt h x (PySem.W.instObj C dx) C (some od) ∧ ∀ name, PySem.W.lookIn name od = some (mA name) :=
  let ⟨od, ho, hl⟩ := lookIn_ns I.ns
  ⟨od, ⟨I.obj, rfl, rfl, ho⟩, hl⟩

section
variable {prog : Program} {w : World} {A : Around} {E : Value → Shared → Prop} {s : Shared} {K : PySem.W.Frag} {x dx C f : Addr} {mA : Str → Option Value} {name : Str} {v : Value}

end

/-! ### the attributes as a list of pairs -/
section
variable {P : Program} {w : World} {H H' : Hp} {h h' : Heap} {a C dx : Addr} {fs fs' : List (Str × V)}
theorem ins_get (hok : HOk P w H h) (e : H a = some (.ins C dx fs)) : ∃ mA, ObjM h a dx C mA ∧ (∀ f, RelO (fs.lookup f) (mA f)) ∧ PySem.Within mA (fs.map (·.1)) ∧ fs.length ≤ 1000 ∧ H dx = some (.own a) := by
  obtain ⟨d, z, ne, ob, mA, n, r, q⟩ := (show ObjOk P w H h a (.ins C dx fs) from hok a _ e)
  exact ⟨mA, ⟨ob, n, ne⟩, r, q, z, d⟩
end

/-! ### what of the text a class must have -/
structure Cls (K : PySem.W.Frag) (C : Addr) : Prop where
  pg : PySem.W.plainGet K C Str.empty = true
  hd : PySem.W.hasDictIn K C = true
  po : PySem.W.plainOver K C = true
  sa : PySem.W.findIn K (.ref C) "__setattr__" = some (some (.builtin "object.__setattr__"))
theorem Cls.get {K : PySem.W.Frag} {C : Addr} (c : Cls K C) (f : Str) : PySem.W.plainGet K C f = true := c.pg
/-- a constant of the class -/
structure Con (K : PySem.W.Frag) (C : Addr) (f : Str) (v : V) (u : Value) : Prop where
  at_ : PySem.W.findIn K (.ref C) f = some (some u)
  rel : RelV v u
  get : PySem.W.specialIn K u "__get__" = some none
  cp : PySem.W.copiedNames.contains f = false
/-- a method: a plain def of the class or of one above it -/
structure Meth (K : PySem.W.Frag) (C : Addr) (m : Str) (f : Addr) : Prop where
  at_ : PySem.W.findIn K (.ref C) m = some (some (.ref f))
  fn : PySem.W.isFn K (.ref f) = true
  kp : PySem.W.keepIn K (.ref f) = true

section
variable {X : Cx} {pins : List (Addr × Obj)} {σ : St} {H : Hp} {s : Shared} {a C dx : Addr} {fs : List (Str × V)} {f : Str} {v : V} {A : Around} {E : Value → Shared → Prop}

end

/-! ### readings and rules -/
section
variable {X : Cx} {o e value : Expr} {f : Str} {pos pos' tpos : Pos} {ta tv : TE}
end

/-! ### isinstance -/
section
variable {X : Cx} {pins : List (Addr × Obj)} {σ : St} {H : Hp} {s : Shared} {A : Around} {E : Value → Shared → Prop} {Q : Value → Shared → Prop} {c : Value} {b : Bool}
/-- the type of a value, as the fragment's deciders take it; for an instance its class -/
inductive TyOf (K : PySem.W.Frag) (H : Hp) : V → Value → Prop where
  | non : TyOf K H .non (.type "NoneType")
  | bl (x : Bool) : TyOf K H (.bl x) (.type "bool")
  | int (i : Int) : TyOf K H (.int i) (.type "int")
  | str (x : Str) : TyOf K H (.str x) (.type "str")
  | flt (x : UInt64) : TyOf K H (.flt x) (.type "float")
  | lst {a : Addr} {xs : List V} (e : H a = some (.lst xs)) : TyOf K H (.ref a) (.type "list")
  | frz {a : Addr} {o : Obj} {xs : List V} (e : H a = some (.frz o (.lst xs))) : TyOf K H (.ref a) (.type "list")
  | tup {a : Addr} {xs : List V} (e : H a = some (.tup xs)) : TyOf K H (.ref a) (.type "tuple")
  | dK {a : Addr} {kvs : List (Key × V)} (e : H a = some (.dK kvs)) : TyOf K H (.ref a) (.type "dict")
  | dT {a : Addr} {kvs : List (List Key × V)} (e : H a = some (.dT kvs)) : TyOf K H (.ref a) (.type "dict")
  | ins {a C dx : Addr} {fs : List (Str × V)} (e : H a = some (.ins C dx fs)) (cl : Cls K C) (ha : PySem.W.findIn K (.ref C) "__class__" = some (some (.builtin "object.__class__")))
      (hn : PySem.W.specialIn K (.builtin "object.__class__") "__get__" = some (some (.builtin "getset_descriptor.__get__"))) (htk : PySem.W.takesIn K (.builtin "object.__class__") = some true)
      (hm : PySem.W.mroIn K C (.type "object") = some true) : TyOf K H (.ref a) (.ref C)
/-- isinstance(x, c) for one class c, a built-in or an own one: kitOne's answer -/
theorem isinst_ok {x : V} {u t : Value} (I : Inv X pins σ H s) (rx : RelV x u) (ty : TyOf X.K H x t) (e : PySem.W.kitOne X.K t c = some b) (h : ∀ tk, Q (.bool b) { s with toks := tk }) :
    wpAny (model X.prog X.w) A (call (.builtin "isinstance") [u, c]) Q E s := by
  cases ty with
  | non => cases (show u = Value.none from rx); exact PySem.W.kia_one PySem.W.kitx_none I.kIn True.intro e (fun z => nomatch z) h
  | bl y => cases (show u = Value.bool y from rx); exact PySem.W.kia_one PySem.W.kitx_bool I.kIn True.intro e (fun z => nomatch z) h
  | int i => obtain ⟨t, q⟩ := (show ∃ t, u = Value.int i t from rx); cases q; exact PySem.W.kia_one PySem.W.kitx_int I.kIn True.intro e (fun z => nomatch z) h
  | str y => obtain ⟨t, q⟩ := (show ∃ t, u = Value.str y t from rx); cases q; exact PySem.W.kia_one PySem.W.kitx_str I.kIn True.intro e (fun z => nomatch z) h
  | flt y => obtain ⟨t, q⟩ := (show ∃ t, u = Value.float y t from rx); cases q; exact PySem.W.kia_one PySem.W.kitx_float I.kIn True.intro e (fun z => nomatch z) h
  | @lst a xs ea =>
    cases (show u = Value.ref a from rx)
    obtain ⟨_, _, n, _, h1⟩ := (show ObjOk X.prog X.w H s.heap a (.lst xs) from I.hok a _ ea)
    exact PySem.W.kia_one PySem.W.kitx_list I.kIn ⟨_, h1, rfl⟩ e (fun z => nomatch z) h
  | @frz a ob xs ea =>
    cases (show u = Value.ref a from rx)
    obtain ⟨_, _, _, n, _, h1⟩ := (show ObjOk X.prog X.w H s.heap a (.frz ob (.lst xs)) from I.hok a _ ea)
    exact PySem.W.kia_one PySem.W.kitx_list I.kIn ⟨_, h1, rfl⟩ e (fun z => nomatch z) h
  | @tup a xs ea =>
    cases (show u = Value.ref a from rx)
    obtain ⟨_, _, _, p⟩ := (show ObjOk X.prog X.w H s.heap a (.tup xs) from I.hok a _ ea)
    obtain ⟨o, h1, h2, _⟩ := p
    exact PySem.W.kia_one PySem.W.kitx_tuple I.kIn ⟨o, h1, h2⟩ e (fun z => nomatch z) h
  | @dK a kvs ea =>
    cases (show u = Value.ref a from rx)
    obtain ⟨_, _, vs, _, p⟩ := (show ObjOk X.prog X.w H s.heap a (.dK kvs) from I.hok a _ ea)
    obtain ⟨o, es, ep, h1, h2, _⟩ := p
    exact PySem.W.kia_one PySem.W.kitx_dict I.kIn ⟨o, h1, h2.1⟩ e (fun z => nomatch z) h
  | @dT a kvs ea =>
    cases (show u = Value.ref a from rx)
    obtain ⟨_, _, xs, _, o, es, ep, h1, h2, _⟩ := (show ObjOk X.prog X.w H s.heap a (.dT kvs) from I.hok a _ ea)
    exact PySem.W.kia_one PySem.W.kitx_dict I.kIn ⟨o, h1, h2.1⟩ e (fun z => nomatch z) h
  | @ins a C dx fs ea cl ha hn htk hm =>
    cases (show u = Value.ref a from rx)
    obtain ⟨mA, O, _⟩ := ins_get I.hok ea
    obtain ⟨od, J, _⟩ := O.look
    exact PySem.W.kia_one (PySem.W.kitx_own (cl.get _) cl.hd ha hn htk hm) I.kIn J e (fun z => nomatch z) h
end
end L2

namespace L2
open PySem PySem.Spec PyProof.Rows

/-! ### room -/
structure Room (k : Nat) (A : Around) : Prop where
  hd : A.handled = none
  dp : A.depth + 3 * k + 5 < recursionLimit
  un : A.units + 16 * k + 200 < cLine
theorem Room.mono {j k : Nat} {A : Around} (r : Room k A) (h : j ≤ k) : Room j A := ⟨r.hd, by have := r.dp; omega, by have := r.un; omega⟩
theorem Room.deeper {k : Nat} {A : Around} (r : Room (k + 1) A) (env : Env) : Room k (A.deeper env) :=
  ⟨r.hd, by have := r.dp; show A.depth + 1 + 3 * k + 5 < _; omega, by have := r.un; show A.units + 3 + 16 * k + 200 < _; omega⟩
theorem Room.in1 {k : Nat} {A : Around} (r : Room (k + 1) A) : Room k A.in1 :=
  ⟨r.hd, by have := r.dp; show A.depth + 3 * k + 5 < _; omega, by have := r.un; show A.units + 1 + 16 * k + 200 < _; omega⟩
theorem Room.depth {k : Nat} {A : Around} (r : Room k A) : A.depth < recursionLimit := by have := r.dp; omega
theorem Room.units {k : Nat} {A : Around} (r : Room k A) : A.units + 64 < cLine := by have := r.un; omega
/-! ### argument lists and displays -/
def tNil : TA := fun _ H Q => Q [] H
def tCons (ta : TE) (tr : TA) : TA := fun σ H Q => ta σ H fun x H1 => tr σ H1 fun xs H2 => Q (x :: xs) H2
section
variable {X : Cx} {e : Expr} {es : List Expr} {te : TE} {t : TA} {pos : Pos}
theorem pa_nil : PA X [] tNil := fun _ _ _ _ H Q I h => Calls.spliced_nil ⟨[], H, I, .nil, h⟩
theorem pa_cons (ha : PE X e te) (hr : PA X es t) (hs : starEach (e :: es) X.env = (false, eval e X.env) :: starEach es X.env := by rfl) : PA X (e :: es) (tCons te t) := by
  intro pos pins s σ H Q I h
  rw [hs]
  show wpAny _ _ (spliced ((false, eval e X.env) :: backTo pos (starEach es X.env))) _ _ s
  refine Calls.spliced_cons (thn (ha pins s σ H _ I h) fun u s1 ⟨x, H1, I1, r1, q1⟩ => ?_)
  exact thn (hr pos pins s1 σ H1 _ I1 q1) fun us s2 ⟨xs, H2, I2, r2, q2⟩ => ⟨x :: xs, H2, I2, .cons r1 r2, q2⟩

/-- a tuple, a list of written items -/
def tTup (t : TA) : TE := fun σ H Q => t σ H fun xs H1 => xs.length ≤ sizeLine ∧ ∀ p, H1 p = none → Q (.ref p) (upd H1 p (.tup xs))
def tLst (t : TA) : TE := fun σ H Q => t σ H fun xs H1 => xs.length ≤ sizeLine ∧ ∀ p, H1 p = none → Q (.ref p) (upd H1 p (.lst xs))
theorem pe_tup {x1} (h : PA X es t) : PE X (.Tuple es x1 pos) (tTup t) := by
  intro pins s σ H Q I hq
  refine wpAny_Tuple_spliced (thn (h pos pins s σ H _ I hq) fun us s1 ⟨xs, H1, I1, r, z, q⟩ => ⟨by rw [← r.length]; exact z, ?_⟩)
  have hf : H1 s1.heap.objs.size = none := I1.hok.fresh (Nat.le_refl _)
  refine ⟨.ref s1.heap.objs.size, upd H1 s1.heap.objs.size (.tup xs), I1.laid (t' := s1.toks) (fun b u e => Heap.get?_push_of_some _ e) (Nat.le_refl _) ?_, rfl, q _ hf⟩
  exact ⟨z, us, r, ⟨_, Heap.get?_push_size _ rfl, rfl, _, rfl⟩⟩
theorem pe_lst (h : PA X es t) : PE X (.List es pos) (tLst t) := by
  intro pins s σ H Q I hq
  refine wpAny_List_spliced (thn (h pos pins s σ H _ I hq) fun us s1 ⟨xs, H1, I1, r, z, q⟩ => ⟨by rw [← r.length]; exact z, ?_⟩)
  have hf : H1 s1.heap.objs.size = none := I1.hok.fresh (Nat.le_refl _)
  refine ⟨.ref s1.heap.objs.size, upd H1 s1.heap.objs.size (.lst xs), I1.laid (t' := s1.toks) (fun b u e => Heap.get?_push_of_some _ e) (Nat.le_refl _) ?_, rfl, q _ hf⟩
  exact ⟨z, us, 0, r, Heap.get?_push_size _ rfl⟩
end

/-! ### what a def promises -/
/-- a def's promise: the bound arguments in the parameters' order, the heap, the wanted end, the wanted exception -/
abbrev Sp := List V → Hp → VK → XK → Prop
/-- how an exception lies behind a call (file 08 gives it): the callers' frames, abstract heap and state ahead of the call, the wish, the exception, the state -/
abbrev CXT := List Env → Hp → Shared → XK → Value → Shared → Prop

/-- the state at a call -/
structure Env0 (P : Program) (w : World) (K : PySem.W.Frag) (mg : Str → Option Value) (base : Heap) (A : Around) (outer : List Env) (s : Shared) (H : Hp) : Prop where
  frames : A.frames = some outer
  mod : Mod K mg base
  bs : ∀ b o, base.get? b = some o → s.heap.get? b = some o ∧ H b = none
  bsz : base.objs.size ≤ s.heap.objs.size
  funs : s.heap.FunFrames base outer
  frf : ∀ b ∈ frs outer, H b = none
  hok : HOk P w H s.heap
  bare : AllBare s.gens
/-- a call's end -/
def CE (outer : List Env) (P : Program) (w : World) (H : Hp) (s : Shared) (Q : VK) (u : Value) (s' : Shared) : Prop :=
  ∃ v H', s'.os = s.os ∧ AllBare s'.gens ∧ Un (frs outer) [] H H' s.heap s'.heap ∧ HOk P w H' s'.heap ∧ RelV v u ∧ Q v H'
def CR (CX : CXT) (outer : List Env) (P : Program) (w : World) (H : Hp) (s : Shared) (Q : VK) (E : XK) (r : Result) (s' : Shared) : Prop :=
  match r with
  | .ok (.ret u) => CE outer P w H s Q u s'
  | .ok _ => False
  | .error e => CX outer H s E e s'
structure FnOk (P : Program) (w : World) (K : PySem.W.Frag) (mg : Str → Option Value) (base : Heap) (CX : CXT) (k : Nat) (f : Addr) (fd : FuncData) (ps : List Str) (sp : Sp) : Prop where
  len : ∀ vs H Q E, sp vs H Q E → vs.length = ps.length
  run : ∀ (A : Around) (outer : List Env) (s : Shared) (H : Hp) (args : Args) (us : List Value) (vs : List V) (Q : VK) (E : XK), Room k A → Env0 P w K mg base A outer s H → BindsTo s fd args (ps.zip us) → Vals vs us → sp vs H Q E →
    codeAny (model P w) A (.call (.ref f) args) (CR CX outer P w H s Q E) s
theorem FnOk.mono {P : Program} {w : World} {K : PySem.W.Frag} {mg : Str → Option Value} {base : Heap} {CX : CXT} {j k : Nat} {f : Addr} {fd : FuncData} {ps : List Str} {sp : Sp} (F : FnOk P w K mg base CX j f fd ps sp) (h : j ≤ k) :
    FnOk P w K mg base CX k f fd ps sp := ⟨F.len, fun A outer s H args us vs Q E hr => F.run A outer s H args us vs Q E (hr.mono h)⟩
/-- a weaker promise -/
theorem FnOk.imp {P : Program} {w : World} {K : PySem.W.Frag} {mg : Str → Option Value} {base : Heap} {CX : CXT} {k : Nat} {f : Addr} {fd : FuncData} {ps : List Str} {sp sp' : Sp} (F : FnOk P w K mg base CX k f fd ps sp)
    (h : ∀ vs H Q E, sp' vs H Q E → sp vs H Q E) : FnOk P w K mg base CX k f fd ps sp' :=
  ⟨fun vs H Q E q => F.len vs H Q E (h _ _ _ _ q), fun A outer s H args us vs Q E hr he hb hv hs => F.run A outer s H args us vs Q E hr he hb hv (h _ _ _ _ hs)⟩

theorem Env0.in1 {P : Program} {w : World} {K : PySem.W.Frag} {mg : Str → Option Value} {base : Heap} {A : Around} {outer : List Env} {s : Shared} {H : Hp} (e : Env0 P w K mg base A outer s H) :
    Env0 P w K mg base A.in1 outer s H := ⟨e.frames, e.mod, e.bs, e.bsz, e.funs, e.frf, e.hok, e.bare⟩

section
variable {X : Cx} {pins : List (Addr × Obj)} {σ : St} {H : Hp} {s s' : Shared}
/-- from a body: what a callee wants -/
theorem Inv.env0 (I : Inv X pins σ H s) : Env0 X.prog X.w X.K X.mg X.base X.A X.stack s H :=
  ⟨I.ok.frames, I.ok.mod, I.bs, Nat.le_trans I.ok.bsz I.sz, I.stack, I.stkFree, I.hok, I.bare⟩
/-- behind a call -/
theorem Inv.after {Q : VK} {u : Value} (I : Inv X pins σ H s) (h : CE X.stack X.prog X.w H s Q u s') : EP X pins σ Q u s' := by
  obtain ⟨v, H', os, bare, un, hok, r, q⟩ := h
  obtain ⟨hh, g, d, t, os'⟩ := s'
  obtain rfl : os' = s.os := os
  exact ⟨v, H', I.call (h' := hh) (g' := g) (d' := d) (t' := t) (ch := []) un hok bare (fun b z => absurd z (by simp)), r, q⟩
end

/-! ### calls -/
/-- f(..): the written arguments, then the defaults dvs; E: what is wanted of an exception -/
def tCall (sp : Sp) (dvs : List V) (E : XK) (t : TA) : TE := fun σ H Q => t σ H fun vs H1 => sp (vs ++ dvs) H1 Q E
/-- how the parameters are bound: us the positional arguments, kw the keywords' values by name, ds the defaults that fill up -/
def Binds (K : PySem.W.Frag) (fd : FuncData) (ps : List Str) (ds : List Value) : Prop :=
  ∀ (s : Shared) (us : List Value), K.In s.heap → (us ++ ds).length = ps.length → BindsTo s fd ⟨us, []⟩ (ps.zip (us ++ ds))
/-- every parameter is given -/
theorem Binds.all {K : PySem.W.Frag} {fd : FuncData} {ps : List Str} (h : ∀ us : List Value, us.length = ps.length → bindArgs fd ⟨us, []⟩ = pure (ps.zip us)) : Binds K fd ps [] := fun s us _ hl => by
  rw [List.append_nil] at hl ⊢
  exact .of_eq (h us hl)

/-- an exception of a callee reaches what this body wants of exceptions -/
def Passes (CX : CXT) (X : Cx) (E : XK) : Prop := ∀ (pins : List (Addr × Obj)) (σ : St) (H : Hp) (s : Shared) (e : Value) (s' : Shared), Inv X pins σ H s → CX X.stack H s E e s' → X.xe e s'

section
variable {X : Cx} {CX : CXT} {k : Nat} {f C : Addr} {fd : FuncData} {ps : List Str} {sp : Sp} {dvs : List V} {ds : List Value} {E : XK} {x m : Str} {p pos apos : Pos} {e o : Expr} {es : List Expr} {ta : TE} {t : TA}

/-- the callee runs -/
theorem run_fn {pins : List (Addr × Obj)} {σ : St} {H : Hp} {s : Shared} {Q : VK} {us : List Value} {vs : List V} (F : FnOk X.prog X.w X.K X.mg X.base CX k f fd ps sp) (hr : Room k X.A) (hb : Binds X.K fd ps ds) (hd : Vals dvs ds) (hx : Passes CX X E)
    (I : Inv X pins σ H s) (r : Vals vs us) (h : sp (vs ++ dvs) H Q E) : wpAny (model X.prog X.w) X.A (call (.ref f) us) (EP X pins σ Q) X.xe s := by
  have r2 : Vals (vs ++ dvs) (us ++ ds) := r.append hd
  have hl : (us ++ ds).length = ps.length := by rw [← r2.length]; exact F.len _ _ _ _ h
  refine wpAny_call (codeAny_mono (F.run X.A X.stack s H ⟨us, []⟩ (us ++ ds) (vs ++ dvs) Q E hr I.env0 (hb s us I.kIn hl) r2 h) fun r s' hq => ?_)
  cases r with
  | error e => exact hx pins σ H s e s' I hq
  | ok fl =>
    cases fl with
    | ret u => exact I.after hq
    | next => exact False.elim hq
    | brk => exact False.elim hq
    | cont => exact False.elim hq

theorem pe_call (F : FnOk X.prog X.w X.K X.mg X.base CX k f fd ps sp) (hr : Room k X.A) (hg : Gl X x) (hm : X.mg x = some (.ref f)) (hk : PySem.W.keepIn X.K (.ref f) = true) (hb : Binds X.K fd ps ds) (hd : Vals dvs ds) (hx : Passes CX X E)
    (ha : PA X (e :: es) t) (hdb : (x == ("__debug__" : Str)) = false := by decide) (he : starEach (e :: es) X.env = (false, eval e X.env) :: starEach es X.env := by rfl) (hpl : (backTo pos (starEach es X.env)).any (·.1) = false := by rfl) :
    PE X (.Call (.Name x p) (e :: es) [] pos) (tCall sp dvs E t) := by
  intro pins s σ H Q I h
  refine wpAny_Call_Name_kw (ld_glob I hg hm ?_ hdb)
  refine PySem.W.callWith_K (h₀ := X.base) I.ok.mod.kin hk (thn (ha pos pins s σ H _ I h) fun us s1 ⟨vs, H1, I1, r, q⟩ => ⟨I1.kIn, ?_⟩) he hpl
  exact run_fn F hr hb hd hx I1 r q
/-- what a class must have to be made -/
structure Mk (K : PySem.W.Frag) (C f : Addr) : Prop where
  makes : PySem.W.makesIn K C = true
  init : PySem.W.findIn K (.ref C) "__init__" = some (some (.ref f))
  fn : PySem.W.isFn K (.ref f) = true
  kp : PySem.W.keepIn K (.ref C) = true

end

/-! ### keywords -/
section
variable {X : Cx} {CX : CXT} {k : Nat} {f C : Addr} {fd : FuncData} {ps ks : List Str} {sp : Sp} {E : XK} {x m : Str} {p pos apos kpos : Pos} {e o : Expr} {es : List Expr} {kws : List Keyword} {te ta : TE} {t tk : TA} {nm : Option Str}
/-- how a call with keywords binds: g puts the positional values us and the keywords' values ws (names ks) in the parameters' order, defaults among them -/
structure KBinds (K : PySem.W.Frag) (fd : FuncData) (ps ks : List Str) (g : List Value → List Value → List Value) (gV : List V → List V → List V) : Prop where
  to : ∀ (s : Shared) (us ws : List Value), K.In s.heap → (g us ws).length = ps.length → BindsTo s fd ⟨us, ks.zip ws⟩ (ps.zip (g us ws))
  rel : ∀ {vs : List V} {us : List Value} {zs : List V} {ws : List Value}, Vals vs us → Vals zs ws → Vals (gV vs zs) (g us ws)
variable {g : List Value → List Value → List Value} {gV : List V → List V → List V}
end

/-! ### a def's body keeps its promise -/
/-- names: the parameters first -/
structure FnScope (N P : List Str) (sc : Scope) : Prop where
  kind : sc.kind = .function
  co : sc.isCoroutine = false
  gen : sc.isGenerator = false
  nd : N.Nodup
  pre : N.take P.length = P
  par : ∀ x ∈ P, sc.names.lookup x = some .local ∨ sc.names.lookup x = some .cell
  nofree : ∀ y ∈ sc.names, y.2 ≠ .free

theorem bindL_out {kindOf : Str → Option NameKind} {x : Str} : ∀ {binds : List (Str × Value)} {m : Str → Option Value}, (∀ v, (x, v) ∉ binds) → bindL kindOf binds m x = m x
  | [], _, _ => rfl
  | (n, v) :: r, m, h => by
    unfold bindL
    rw [bindL_out fun w hw => h w (List.mem_cons_of_mem _ hw)]
    split
    · have : x ≠ n := by rintro rfl; exact h v List.mem_cons_self
      simp [this]
    · rfl
theorem bindC_out {kindOf : Str → Option NameKind} {x : Str} : ∀ {binds : List (Str × Value)} {m : Str → Option Value}, (∀ v, (x, v) ∉ binds) → bindC kindOf binds m x = m x
  | [], _, _ => rfl
  | (n, v) :: r, m, h => by
    unfold bindC
    rw [bindC_out fun w hw => h w (List.mem_cons_of_mem _ hw)]
    split
    · rfl
    · have : x ≠ n := by rintro rfl; exact h v List.mem_cons_self
      simp [this]
theorem bindL_get {kindOf : Str → Option NameKind} {x : Str} {v : Value} : ∀ {P : List Str} {vs : List Value} {i : Nat} {m : Str → Option Value}, P.Nodup → P[i]? = some x → vs[i]? = some v → kindOf x = some .local →
    bindL kindOf (P.zip vs) m x = some v
  | [], _, _, _, _, h, _, _ => by simp at h
  | _ :: _, [], _, _, _, _, h, _ => by simp at h
  | p :: P, w :: vs, 0, m, nd, h1, h2, hk => by
    simp at h1 h2; subst h1; subst h2
    show bindL kindOf ((p, w) :: P.zip vs) m p = _
    unfold bindL
    rw [bindL_out fun v hv => (List.nodup_cons.mp nd).1 (List.of_mem_zip hv).1, if_pos hk]
    simp
  | p :: P, w :: vs, i + 1, m, nd, h1, h2, hk => by
    show bindL kindOf ((p, w) :: P.zip vs) m x = _
    unfold bindL
    exact bindL_get (i := i) (List.nodup_cons.mp nd).2 (by simpa using h1) (by simpa using h2) hk
theorem bindC_get {kindOf : Str → Option NameKind} {x : Str} {v : Value} : ∀ {P : List Str} {vs : List Value} {i : Nat} {m : Str → Option Value}, P.Nodup → P[i]? = some x → vs[i]? = some v → kindOf x ≠ some .local →
    bindC kindOf (P.zip vs) m x = some v
  | [], _, _, _, _, h, _, _ => by simp at h
  | _ :: _, [], _, _, _, _, h, _ => by simp at h
  | p :: P, w :: vs, 0, m, nd, h1, h2, hk => by
    simp at h1 h2; subst h1; subst h2
    show bindC kindOf ((p, w) :: P.zip vs) m p = _
    unfold bindC
    rw [bindC_out fun v hv => (List.nodup_cons.mp nd).1 (List.of_mem_zip hv).1, if_neg hk]
    simp
  | p :: P, w :: vs, i + 1, m, nd, h1, h2, hk => by
    show bindC kindOf ((p, w) :: P.zip vs) m x = _
    unfold bindC
    exact bindC_get (i := i) (List.nodup_cons.mp nd).2 (by simpa using h1) (by simpa using h2) hk

/-- the names' values at the entry -/
def start (N : List Str) (vs : List V) : St := vs.map some ++ List.replicate (N.length - vs.length) none

/-- the context of a def's body, at its entry; an exception leaves the frame, then lies as CX says -/
def cxOf (CX : CXT) (P : Program) (w : World) (K : PySem.W.Frag) (mg : Str → Option Value) (base : Heap) (N : List Str) (qual : Str) (scope : Scope) (f : Addr) (cd : Value) (A : Around) (outer : List Env) (s : Shared) (H : Hp) (E : XK) : Cx where
  prog := P
  w := w
  K := K
  mg := mg
  base := base
  A := A.deeper (envOfC qual scope s.heap.objs.size f cd)
  N := N
  s₀ := s
  H₀ := H
  env := envOfC qual scope s.heap.objs.size f cd
  outer := outer
  stack := envOfC qual scope s.heap.objs.size f cd :: outer
  ex := []
  calm := true
  fn := fun _ => true
  pn := []
  xe := fun e s' => wpAny (model P w) (A.deeper (envOfC qual scope s.heap.objs.size f cd)) (leaving (envOfC qual scope s.heap.objs.size f cd) e) (fun _ s'' => CX outer H s E e s'') (fun e' s'' => CX outer H s E e' s'') s'

theorem cell_has {sc : Scope} {n : Nat} {x : Str} (h : sc.names.lookup x = some .cell) : ∃ c, (cellsFrom n sc.names []).lookup x = some c := by
  have q := PySem.W.cellsFrom_some sc.names n [] (.inl h)
  exact Option.isSome_iff_exists.mp q

theorem inv_start {CX : CXT} {P : Program} {w : World} {K : PySem.W.Frag} {mg : Str → Option Value} {base : Heap} {N ps : List Str} {qual : Str} {scope : Scope} {f : Addr} {cd : Value} {A : Around} {outer : List Env} {s s1 : Shared} {H : Hp} {E : XK} {us : List Value} {vs : List V}
    (S : FnScope N ps scope) (hd : A.handled = none) (e0 : Env0 P w K mg base A outer s H) (hl : vs.length = ps.length) (r : Vals vs us)
    (x : InCallC s s.heap.objs.size (bindL (envOfC qual scope s.heap.objs.size f cd).kindOf (ps.zip us) fun _ => none) (cellsFrom (s.heap.objs.size + 1) scope.names []) (bindC (envOfC qual scope s.heap.objs.size f cd).kindOf (ps.zip us) fun _ => none) s1) :
    Inv (cxOf CX P w K mg base N qual scope f cd A outer s H E) [] (start N vs) H s1 := by
  have hpl : ps.length ≤ N.length := by have := congrArg List.length S.pre; rw [List.length_take] at this; omega
  obtain ⟨h1, tk, rfl, hk⟩ := x.done
  have noA : ∀ b : Addr, b ∉ (cxOf CX P w K mg base N qual scope f cd A outer s H E).ex := fun b z => absurd (show b ∈ ([] : List Addr) from z) (by simp)
  refine ⟨⟨e0.mod, S.kind, rfl, rfl, Nat.le_refl _, fun y z c h1 h2 => ?_, fun y hy => ?_, fun y c _ h => ?_, fun _ => hd, Around.frames_deeper e0.frames, .inr ⟨rfl, rfl⟩, fun b z => absurd z (noA b), e0.bs, e0.bsz, fun b _ _ => noA b, fun b z => absurd z (noA b), e0.funs, e0.frf⟩,
    rfl, e0.bare, Un.kept hk, ⟨_, x.toInCall.ns, fun i y v h1 h2 h3 => ?_⟩, fun y c h => ⟨_, x.cell y c h⟩, e0.hok.fresh (Nat.le_refl _), fun y c h => ?_, fun p hp => absurd (show p ∈ ([] : List (Addr × Obj)) from hp) (by simp), e0.hok.kept hk, ?_⟩
  · exact name_of_addr x.apart (PySem.mem_of_lookup h1) (PySem.mem_of_lookup h2)
  · have hy : scope.names.lookup y = some .cell ∨ scope.names.lookup y = some .free := hy
    rcases hy with hy | hy
    · exact cell_has hy
    · exact absurd rfl (S.nofree _ (PySem.mem_of_lookup hy))
  · exact Nat.le_of_lt (x.above y c (PySem.mem_of_lookup h))
  · have hi : i < vs.length := by
      unfold start at h2
      by_cases hi : i < vs.length
      · exact hi
      · rw [List.getElem?_append_right (by simpa using hi)] at h2
        rw [List.getElem?_replicate] at h2
        split at h2 <;> cases h2
    have ha : vs[i]? = some v := by
      unfold start at h2
      rw [List.getElem?_append_left (by simpa using hi), List.getElem?_map] at h2
      cases e : vs[i]? with
      | none => rw [e] at h2; cases h2
      | some a => rw [e] at h2; cases h2; rfl
    obtain ⟨u, hu, rv⟩ := r.get ha
    have hp : ps[i]? = some y := by
      rw [← S.pre, List.getElem?_take_of_lt (by omega)]; exact h1
    have ndP : ps.Nodup := by rw [← S.pre]; exact S.nd.sublist (List.take_sublist _ _)
    refine ⟨u, rv, ?_⟩
    rcases S.par y (List.mem_of_getElem? hp) with k | k
    · exact .inl ⟨k, bindL_get ndP hp hu k⟩
    · obtain ⟨c, e⟩ := cell_has (n := s.heap.objs.size + 1) k
      refine .inr ⟨.inl k, c, e, ?_⟩
      have q := x.cell y c e
      rw [bindC_get ndP hp hu (by show scope.names.lookup y ≠ _; rw [k]; decide)] at q
      exact q
  · exact e0.hok.fresh (Nat.le_of_lt (x.above y c (PySem.mem_of_lookup h)))
  · unfold start
    show _ = N.length
    rw [List.length_append, List.length_map, List.length_replicate]
    omega

/-- THE RULE: a def (or a method) of the text, by its body. The body's reading t is chosen for each entry; it is run at the parameters' values -/
theorem fn_of {CX : CXT} {P : Program} {w : World} {K : PySem.W.Frag} {mg : Str → Option Value} {base : Heap} {k : Nat} {f : Addr} {name qual : Str} {params : Arguments} {body : List Stmt} {scope : Scope} {dV kV doc pm cdv ct oc : Value} {an od : Option Addr}
    {osl : Array (Option Value)} {N ps : List Str} {sp : Sp} (lk : K.lookup f = some ⟨oc, od, .func (PySem.W.fnOf name qual params body scope dV kV doc pm an cdv ct), osl⟩) (hcd : PySem.W.codeIn K cdv qual = true) (S : FnScope N ps scope)
    (len : ∀ vs H Q E, sp vs H Q E → vs.length = ps.length)
    (hbody : ∀ (A : Around) (outer : List Env) (s : Shared) (H : Hp) (vs : List V) (Q : VK) (E : XK), Room k (A.deeper (envOfC qual scope s.heap.objs.size f cdv)) → sp vs H Q E →
      ∃ t, PSs (cxOf CX P w K mg base N qual scope f cdv A outer s H E) body t ∧ t { nx := fun _ H' => Q .non H', rt := Q } (start N vs) H) :
    FnOk P w K mg base CX (k + 1) f (PySem.W.fnOf name qual params body scope dV kV doc pm an cdv ct) ps sp := by
  refine ⟨len, fun A outer s H args us vs Q E hr e0 hb r hsp => ?_⟩
  have hl := len _ _ _ _ hsp
  have KX : K.In s.heap := e0.mod.kin.keeps fun b o e => (e0.bs b o e).1
  have lim : s.heap.NoLimit := e0.mod.nolimit.keeps fun b o e => (e0.bs b o e).1
  have hkind : ∀ y ∈ ps.zip us, scope.names.lookup y.1 = some .local ∨ (scope.names.lookup y.1 = some .cell ∧ ((cellsFrom (s.heap.objs.size + 1) scope.names []).lookup y.1).isSome = true) := fun ⟨n, v⟩ hy => by
    rcases S.par n (List.of_mem_zip hy).1 with q | q
    · exact .inl q
    · exact .inr ⟨q, PySem.W.cellsFrom_some _ _ _ (.inl q)⟩
  refine codeAny_call_function hr.depth (KX _ _ lk) rfl S.co S.gen rfl (PySem.W.codeRec_of KX hcd) (hb _ _ _ _ ?_)
  refine wpAny_newFunctionEnv_cells S.kind hkind fun env he s1 x => ?_
  subst he
  refine ⟨lim.keeps x.toInCall.keep, codeAny_func ?_⟩
  obtain ⟨t, ht, hq⟩ := hbody A outer s H vs Q E (hr.deeper _) hsp
  have I : Inv (cxOf CX P w K mg base N qual scope f cdv A outer s H E) [] (start N vs) H s1 := inv_start S hr.hd e0 hl r x
  refine wpAny_mono (ht [] s1 (start N vs) H _ I hq) (fun fl s' hs => ?_) fun e s' hs => hs
  have fin : ∀ {σ' : St} {H' : Hp} {v : V} {u : Value}, Inv (cxOf CX P w K mg base N qual scope f cdv A outer s H E) [] σ' H' s' → RelV v u → Q v H' → CE outer P w H s Q u s' :=
    fun {σ' H' v u} J rv q => ⟨v, H', J.os, J.bare, J.base, J.hok, rv, q⟩
  cases fl with
  | ret u =>
    obtain ⟨v, σ', H', J, rv, q⟩ := hs
    exact fin J rv q
  | next =>
    obtain ⟨σ', H', J, q⟩ := hs
    exact fin (v := V.non) (u := Value.none) J rfl q
  | brk =>
    obtain ⟨_, _, _, q⟩ := hs
    exact False.elim q
  | cont =>
    obtain ⟨_, _, _, q⟩ := hs
    exact False.elim q
end L2

namespace L2
open PySem PySem.Spec PyProof.Rows
section
variable {X : Cx} {x : Str} {p pos : Pos} {e : Expr} {es : List Expr} {t : TA} {id T : String} {r : List V → Hp → VK → Prop}

def tCB (r : List V → Hp → VK → Prop) (t : TA) : TE := fun σ H Q => t σ H fun vs H1 => r vs H1 Q
/-- f(e, ..), f a built-in function -/
theorem pe_callB (hc : CallR X (.builtin id) r) (hg : Gl X x) (hm : X.mg x = none) (hv : bootBuiltins x = some (.builtin id)) (ha : PA X (e :: es) t) (hn : x ≠ "__name__" := by decide) (hdb : (x == ("__debug__" : Str)) = false := by decide)
    (he : starEach (e :: es) X.env = (false, eval e X.env) :: starEach es X.env := by rfl) (hpl : (backTo pos (starEach es X.env)).any (·.1) = false := by rfl) : PE X (.Call (.Name x p) (e :: es) [] pos) (tCB r t) := by
  intro pins s σ H Q I h
  refine wpAny_Call_Name_kw (ld_blt I hg hm hv ?_ hn hdb)
  exact PyProof.Rows.callWith_builtin1 (thn (ha pos pins s σ H _ I h) fun us s1 ⟨vs, H1, I1, r1, q1⟩ => hc pins s1 σ H1 vs us Q I1 r1 q1) he hpl
/-- T(e, ..), T a built-in type -/
theorem pe_callTy (hc : CallR X (.type T) r) (hg : Gl X x) (hm : X.mg x = none) (hv : bootBuiltins x = some (.type T)) (ha : PA X (e :: es) t) (hn : x ≠ "__name__" := by decide) (hdb : (x == ("__debug__" : Str)) = false := by decide)
    (he : starEach (e :: es) X.env = (false, eval e X.env) :: starEach es X.env := by rfl) (hpl : (backTo pos (starEach es X.env)).any (·.1) = false := by rfl) : PE X (.Call (.Name x p) (e :: es) [] pos) (tCB r t) := by
  intro pins s σ H Q I h
  refine wpAny_Call_Name_kw (ld_blt I hg hm hv ?_ hn hdb)
  exact PyProof.Rows.callWith_type1 (thn (ha pos pins s σ H _ I h) fun us s1 ⟨vs, H1, I1, r1, q1⟩ => hc pins s1 σ H1 vs us Q I1 r1 q1) he hpl
end
end L2

namespace HT
open PySem PyProof.Rows

section
open PySem.SeqAt
open PySem.AutoSeq1 (wpAny_loadPart')
open PySem.MeetsSeq PySem.MeetsSeq2 PySem.MeetsSeq3

end

section
variable {prog : Program} {w : World} {A : Around} {E : Value → Shared → Prop} {s : Shared}

/-! ### t[a:b], not the whole -/
end
end HT

namespace L2
open PySem PySem.Spec PyProof.Rows

/-! ### the parts of a slice -/
abbrev TO := St → Hp → (Option Int → Hp → Prop) → Prop
/-- a slice's part (left out, or an int) -/
def PO (X : Cx) (e : Option Expr) (t : TO) : Prop :=
  ∀ (pins : List (Addr × Obj)) (s : Shared) (σ : St) (H : Hp) (Q : Option Int → Hp → Prop), Inv X pins σ H s → t σ H Q →
    wpAny (model X.prog X.w) X.A (evalPart e X.env) (fun u s' => ∃ o H', Inv X pins σ H' s' ∧ IsPart u o ∧ Q o H') X.xe s
section
variable {X : Cx} {e : Expr} {te : TE} {lo hi : Option Expr} {tl th : TO} {pos p2 : Pos}

/-! ### t < u, t + u -/
end
end L2

namespace L2
open PySem PySem.Spec PyProof.Rows

/-! ### places -/
/-- the place that an index of any sign means -/
def ixN (n : Nat) (i : Int) : Option Nat := if 0 ≤ i then (if i < n then some i.toNat else none) else if -(n : Int) ≤ i then some (i + n).toNat else none
def atI {α : Type} (xs : List α) (i : Int) : Option α := (ixN xs.length i).bind fun j => xs[j]?
theorem ixN_seq {n : Nat} {i : Int} {j : Nat} (h : ixN n i = some j) : seqIndex? i n = some j ∧ j < n ∧ -(n : Int) ≤ i ∧ i < n := by
  unfold ixN at h
  by_cases h0 : 0 ≤ i
  · rw [if_pos h0] at h
    by_cases h1 : i < n
    · rw [if_pos h1] at h
      have e : i.toNat = j := Option.some.inj h
      exact ⟨by rw [seqIndex_of h0 h1, e], by omega, by omega, h1⟩
    · rw [if_neg h1] at h; cases h
  · rw [if_neg h0] at h
    by_cases h1 : -(n : Int) ≤ i
    · rw [if_pos h1] at h
      have e : (i + n).toNat = j := Option.some.inj h
      exact ⟨by rw [seqIndex_neg (by omega) h1, e], by omega, h1, by omega⟩
    · rw [if_neg h1] at h; cases h
theorem atI_get {α : Type} {xs : List α} {i : Int} {v : α} (h : atI xs i = some v) : ∃ j, seqIndex? i xs.length = some j ∧ xs[j]? = some v ∧ j < xs.length ∧ -(xs.length : Int) ≤ i ∧ i < xs.length := by
  unfold atI at h
  cases e : ixN xs.length i with
  | none => rw [e] at h; cases h
  | some j =>
    rw [e] at h
    obtain ⟨h1, h2, h3, h4⟩ := ixN_seq e
    exact ⟨j, h1, h, h2, h3, h4⟩
theorem atI_nat {α : Type} {xs : List α} {j : Nat} {v : α} (h : xs[j]? = some v) : atI xs (j : Int) = some v := by
  have hj : j < xs.length := (List.getElem?_eq_some_iff.mp h).1
  have e : ixN xs.length (j : Int) = some j := by
    unfold ixN
    rw [if_pos (by omega), if_pos (by omega)]; simp
  unfold atI; rw [e]; exact h
/-! ### what may be subscripted -/
/-- what stands as an index of a plain subscript -/
def PlainIx (b : Expr) : Prop := ∀ o i, subscripted b false o i = operate [o, i] (getItem o i)
/-- a subscript by values -/
def IxR (X : Cx) (r : R2) : Prop :=
  ∀ (value slice : Expr) (pins : List (Addr × Obj)) (s : Shared) (σ : St) (H : Hp) (x y : V) (v u : Value) (Q : VK), Inv X pins σ H s → RelV x v → RelV y u → r x y H Q →
    subscripted slice false v u = operate [v, u] (getItem v u) → wpAny (model X.prog X.w) X.A (subscriptTail value slice v u) (EP X pins σ Q) X.xe s
/-- a call of a builtin's method by values: the receiver, the arguments -/
def MtR (X : Cx) (id : String) (r : V → List V → Hp → VK → Prop) : Prop :=
  ∀ (pins : List (Addr × Obj)) (s : Shared) (σ : St) (H : Hp) (x : V) (xs : List V) (v : Value) (us : List Value) (Q : VK), Inv X pins σ H s → RelV x v → Vals xs us → r x xs H Q →
    wpAny (model X.prog X.w) X.A (call (.builtin id) (v :: us)) (EP X pins σ Q) X.xe s
section
variable {X : Cx} {a b : Expr} {ta tb : TE} {pos : Pos}
/-- a[b] -/
theorem pe_ix {r : R2} (hr : IxR X r) (ha : PE X a ta) (hb : PE X b tb) (hs : PlainIx b) : PE X (.Subscript a b pos) (tOp r ta tb) := by
  intro pins s σ H Q I h
  exact Subscript_ (binT ha hb I h fun v u s2 x y H2 I2 rx ry q => hr a b pins s2 σ H2 x y v u Q I2 rx ry q (hs _ _))

def rIxL (K : PySem.W.Frag) : R2 := fun x y H Q => ∃ p xs i v, x = .ref p ∧ y = .int i ∧ SqL K H p xs ∧ atI xs i = some v ∧ Q v H
def rIxT (K : PySem.W.Frag) : R2 := fun x y H Q => ∃ p xs i v, x = .ref p ∧ y = .int i ∧ SqT K H p xs ∧ atI xs i = some v ∧ Q v H
def rIxS : R2 := fun x y H Q => ∃ z i c, x = .str z ∧ y = .int i ∧ z.length ≤ sizeLine ∧ atI z.cps.toList i = some c ∧ Q (.str ⟨#[c]⟩) H
theorem ix_list : IxR X (rIxL X.K) := by
  intro value slice pins s σ H x y v u Q I rx ry h hs
  obtain ⟨p, xs, i, z, rfl, rfl, hq, he, q⟩ := h
  cases rx
  obtain ⟨t, rfl⟩ := ry
  obtain ⟨its, r, pl, hz⟩ := I.list hq
  obtain ⟨j, h1, h2, h3, h4, h5⟩ := atI_get he
  obtain ⟨w, ew, rw'⟩ := r.get h2
  have hl := r.length
  have hn := line63
  have fin : EP X pins σ Q w s := ⟨z, H, I, rw', q⟩
  by_cases h0 : 0 ≤ i
  · have hj : i.toNat = j := by
      rw [seqIndex_of h0 h5] at h1
      exact Option.some.inj h1
    exact item_listR pl.isList h0 (by omega) (by rw [hj]; simpa using ew) fin hs
  · have hj : (i + (its.toArray.size : Int)).toNat = j := by
      rw [seqIndex_neg (by omega) h4] at h1
      rw [List.size_toArray, ← hl]
      exact Option.some.inj h1
    exact subscriptTail_builtinR (x := w) pl.isList.typeIs slot_list_getitem.lookup
      (wpAny_getItem_list_neg (Q := fun r s' => r = w ∧ EP X pins σ Q r s') pl.isList (by omega) (by rw [List.size_toArray] <;> omega) (by omega) (by rw [hj]; simpa using ew) ⟨rfl, fin⟩) hs
theorem ix_tup : IxR X (rIxT X.K) := by
  intro value slice pins s σ H x y v u Q I rx ry h hs
  obtain ⟨p, xs, i, z, rfl, rfl, hq, he, q⟩ := h
  cases rx
  obtain ⟨t, rfl⟩ := ry
  obtain ⟨its, r, pl, hz⟩ := I.tuple hq
  obtain ⟨j, h1, h2, h3, h4, h5⟩ := atI_get he
  obtain ⟨w, ew, rw'⟩ := r.get h2
  have hl := r.length
  have hn := line63
  have fin : EP X pins σ Q w s := ⟨z, H, I, rw', q⟩
  exact subscriptTail_builtinR (x := w) pl.typeIs slot_tuple_getitem.lookup
    (getItem_tuple (j := j) (Q := fun r s' => r = w ∧ EP X pins σ Q r s') pl (by omega) (by omega) (by rw [List.size_toArray, ← hl]; exact h1) (by simpa using ew) ⟨rfl, fin⟩) hs
theorem ix_str : IxR X rIxS := by
  intro value slice pins s σ H x y v u Q I rx ry h hs
  obtain ⟨z, i, c, rfl, rfl, hz, he, q⟩ := h
  obtain ⟨t, rfl⟩ := rx
  obtain ⟨t', rfl⟩ := ry
  obtain ⟨j, h1, h2, h3, h4, h5⟩ := atI_get he
  have hl : z.cps.toList.length = z.length := by simp [Str.length]
  rw [hl] at h1 h4 h5
  have hn := line63
  exact tail_any (typeIs_str s z t) slot_str_getitem.lookup (getItem_str (c := c) (by
    have e1 : decide (i < -(2 ^ 63 : Int)) = false := decide_eq_false (by omega)
    have e2 : decide (i ≥ 2 ^ 63) = false := decide_eq_false (by omega)
    rw [e1, e2, Bool.or_false]) (by rw [h1]; simpa using h2) ⟨.str ⟨#[c]⟩, H, I.tok _, ⟨_, rfl⟩, q⟩) hs
/-! ### xs[i] = v, any sign -/
theorem Inv.lst {pins : List (Addr × Obj)} {σ : St} {H : Hp} {s : Shared} {p : Addr} {xs : List V} (I : Inv X pins σ H s) (h : H p = some (.lst xs)) :
    ∃ (its : List Value) (n : Nat), Vals xs its ∧ s.heap.get? p = some { cls := .type "list", data := .seq its.toArray n } ∧ xs.length ≤ sizeLine := by
  obtain ⟨z, its, n, r, e⟩ := I.hok p _ h
  exact ⟨its, n, r, e, z⟩
/-! ### slices -/
/-! ### in, not in: flat items -/
/-! ### len, list(x), tuple(x) of any list or tuple that is read -/
theorem call_len_seq : CallR X (.builtin "len") (fun xs H Q => ∃ p ys, xs = [.ref p] ∧ (SqL X.K H p ys ∨ SqT X.K H p ys) ∧ Q (.int ys.length) H) := by
  intro pins s σ H xs us Q I r h
  obtain ⟨p, ys, rfl, hq, q⟩ := h
  obtain ⟨u, rfl, rx⟩ := vals1 r
  cases rx
  have hn := line63
  rcases hq with hq | hq
  · obtain ⟨its, r', pl, hz⟩ := I.list hq
    have hlen := r'.length
    exact Calls.call_len_list pl.isList (by simp only [List.size_toArray] <;> omega) ⟨.int ys.length, H, I.tok _, ⟨s.toks + 1, by rw [List.size_toArray, hlen]⟩, q⟩
  · obtain ⟨its, r', pl, hz⟩ := I.tuple hq
    have hlen := r'.length
    exact len_tuple pl (by simp only [List.size_toArray] <;> omega) ⟨.int ys.length, H, I.tok _, ⟨s.toks + 1, by rw [List.size_toArray, hlen]⟩, q⟩
theorem call_len_str : CallR X (.builtin "len") (fun xs H Q => ∃ z, xs = [.str z] ∧ z.length ≤ sizeLine ∧ Q (.int z.length) H) := by
  intro pins s σ H xs us Q I r h
  obtain ⟨z, rfl, hz, q⟩ := h
  obtain ⟨u, rfl, t, rfl⟩ := vals1 r
  have hn := line63
  exact len_str (by omega) ⟨.int z.length, H, I.tok _, ⟨_, rfl⟩, q⟩
theorem call_list_of : CallR X (.type "list") (fun xs H Q => ∃ p ys, xs = [.ref p] ∧ (SqL X.K H p ys ∨ SqT X.K H p ys) ∧ ∀ l, H l = none → Q (.ref l) (upd H l (.lst ys))) := by
  intro pins s σ H xs us Q I r h
  obtain ⟨p, ys, rfl, hq, q⟩ := h
  obtain ⟨u, rfl, rx⟩ := vals1 r
  cases rx
  have fin : ∀ (its : List Value), Vals ys its → ys.length ≤ sizeLine → ∀ (h' : Heap) (c' : Nat), (∀ b o', s.heap.get? b = some o' → h'.get? b = some o') →
      h'.get? s.heap.objs.size = some { cls := .type "list", dict := none, data := .seq its.toArray c', slots := #[] } → EP X pins σ Q (.ref s.heap.objs.size) { s with heap := h' } := fun its r' hz h' c' kp e =>
    ⟨.ref s.heap.objs.size, _, I.laid (t' := s.toks) kp (Nat.le_refl _) (show ObjOk X.prog X.w _ h' _ (.lst ys) from ⟨hz, its, c', r', e⟩), rfl, q _ (I.hok.fresh (Nat.le_refl _))⟩
  rcases hq with hq | hq
  · obtain ⟨its, r', pl, hz⟩ := I.list hq
    have hlen := r'.length
    obtain ⟨o, ho, hc, n, hd⟩ := pl.isList
    exact call_list_seq p (.inl rfl) ho hc hd (fun h' c' kp e => fin its r' hz h' c' kp e) (by simp only [List.size_toArray] <;> omega)
  · obtain ⟨its, r', pl, hz⟩ := I.tuple hq
    have hlen := r'.length
    obtain ⟨o, ho, hc, n, hd⟩ := pl
    exact call_list_seq p (.inr rfl) ho hc hd (fun h' c' kp e => fin its r' hz h' c' kp e) (by simp only [List.size_toArray] <;> omega)
/-! ### the call of a builtin's method: o.m(..) -/
/-- the value is of that builtin type -/
def tyV (K : PySem.W.Frag) (T : String) (x : V) (H : Hp) : Prop := match x with
  | .str _ => T = "str"
  | .int _ => T = "int"
  | .ref p => (T = "list" ∧ ∃ xs, SqL K H p xs) ∨ (T = "tuple" ∧ ∃ o, K.lookup p = some o ∧ o.cls = .type "tuple" ∧ o.dict = none) ∨
      (T = "dict" ∧ ((∃ kvs, H p = some (.dK kvs)) ∨ ∃ kvs, H p = some (.dT kvs))) ∨ (T = "set" ∧ ∃ S n, H p = some (.set S n))
  | _ => False
theorem tyV_is {pins : List (Addr × Obj)} {σ : St} {H : Hp} {s : Shared} {T : String} {x : V} {v : Value} (I : Inv X pins σ H s) (r : RelV x v) (ty : tyV X.K T x H) :
    s.TypeIs v T ∧ ∀ a, v = .ref a → ∃ ob, s.heap.get? a = some ob ∧ ob.dict = none := by
  cases x with
  | str z =>
    obtain ⟨t, rfl⟩ := r
    cases (show T = "str" from ty)
    exact ⟨typeIs_str s z t, fun _ e => nomatch e⟩
  | int i =>
    obtain ⟨t, rfl⟩ := r
    cases (show T = "int" from ty)
    exact ⟨typeIs_int s i t, fun _ e => nomatch e⟩
  | ref p =>
    cases r
    rcases ty with ⟨rfl, xs, hq⟩ | ⟨rfl, o, hk, hc, hd⟩ | ⟨rfl, hk⟩ | ⟨rfl, S, n, hk⟩
    · obtain ⟨its, _, pl, _⟩ := I.list hq
      refine ⟨pl.isList.typeIs, fun a e => ?_⟩
      cases e
      obtain ⟨o, n, e, c, hd, _⟩ := pl
      exact ⟨o, e, hd⟩
    · refine ⟨⟨o, I.kIn p o hk, hc⟩, fun a e => ?_⟩
      cases e
      exact ⟨o, I.kIn _ o hk, hd⟩
    · have z : ∃ o, s.heap.get? p = some o ∧ o.ExactDict := by
        rcases hk with ⟨kvs, hk⟩ | ⟨kvs, hk⟩
        · obtain ⟨_, _, _, _, o, _, _, e, ex, _⟩ := I.hok p _ hk
          exact ⟨o, e, ex⟩
        · obtain ⟨_, _, _, _, o, _, _, e, ex, _⟩ := I.hok p _ hk
          exact ⟨o, e, ex⟩
      obtain ⟨o, e, ex⟩ := z
      refine ⟨⟨o, e, ex.1⟩, fun a e2 => ?_⟩
      cases e2
      exact ⟨o, e, ex.2.1⟩
    · obtain ⟨o, _, _, _, e, ex, _⟩ := I.hok p _ hk
      refine ⟨⟨o, e, ex.1⟩, fun a e2 => ?_⟩
      cases e2
      exact ⟨o, e, ex.2.1⟩
  | _ => exact False.elim ty
def tBM (K : PySem.W.Frag) (T : String) (r : V → List V → Hp → VK → Prop) (to : TE) (t : TA) : TE := fun σ H Q => to σ H fun x H1 => tyV K T x H1 ∧ t σ H1 fun xs H2 => r x xs H2 Q
variable {o e : Expr} {es : List Expr} {to : TE} {t : TA} {name : Str} {apos cpos : Pos} {T id : String} {r : V → List V → Hp → VK → Prop}
theorem pe_bm (pa : PlainAttrs T) (slot : Slot T name id) (hty : typeOf (.builtin id) = pure (.type "method_descriptor")) (hm : MtR X id r) (ho : PE X o to) (ha : PA X (e :: es) t)
    (hbase : attributeBase o name X.env (eval o X.env) = eval o X.env := by rfl)
    (hfew : ((backTo cpos (starEach (e :: es) X.env)).all (fun x => !x.1) && (backToKw cpos (keywordEach [] X.env)).all (fun x => x.1.isSome)
      && decide ((e :: es).length + ([] : List Keyword).length + (if ([] : List Keyword).isEmpty then 0 else 1) < 30)) = true := by rfl)
    (hline : (apos.endLine == cpos.line) = true := by rfl) (hs : starEach (e :: es) X.env = (false, eval e X.env) :: starEach es X.env := by rfl) (hplain : (backTo cpos (starEach es X.env)).any (·.1) = false := by rfl) :
    PE X (.Call (.Attribute o name apos) (e :: es) [] cpos) (tBM X.K T r to t) := by
  intro pins s σ H Q I h
  refine wpAny_Call_method_late hbase hfew hline rfl (thn (ho pins s σ H _ I h) fun v s1 ⟨x, H1, I1, r1, ty, q1⟩ => ?_)
  obtain ⟨h1, h2⟩ := tyV_is I1 r1 ty
  refine ⟨T, id, pa, slot, hty, h1, h2, ?_⟩
  have hA := ha cpos pins s1 σ H1 _ I1 q1
  rw [hs] at hA ⊢
  refine Calls.callWith_builtin (by show (false || (backTo cpos (starEach es X.env)).any (·.1)) = false; rw [hplain] <;> rfl) (Calls.evalArgs_plain ?_)
  exact thn hA fun us s2 ⟨vs, H2, I2, r2, q2⟩ => hm pins s2 σ H2 x vs v us Q I2 r1 r2 q2
/- xs.append(e), list.index on a module's tuple .. are MtR facts of 06m -/
end
end L2

namespace L2
open PySem PySem.Spec PyProof.Rows

def MtM (X : Cx) (id : String) (r : V → List V → Hp → VK → Prop) : Prop :=
  ∀ (pins : List (Addr × Obj)) (s : Shared) (σ : St) (H : Hp) (x : V) (xs : List V) (v : Value) (us : List Value) (Q : VK), Inv X pins σ H s → RelV x v → Vals xs us → r x xs H Q →
    wpAny (model X.prog X.w) X.A (call (.builtin id) (v :: us)) (EP X pins σ Q) X.xe s

/-! ### lists of values -/
theorem Vals.one : ∀ {x : V} {us : List Value}, Vals [x] us → ∃ u, us = [u] ∧ RelV x u
  | _, _, .cons r .nil => ⟨_, rfl, r⟩
theorem Vals.zero : ∀ {us : List Value}, Vals [] us → us = []
  | _, .nil => rfl
theorem Vals.reverse {xs : List V} {us : List Value} (h : Vals xs us) : Vals xs.reverse us.reverse := by
  induction h with
  | nil => exact .nil
  | cons r t ih => rw [List.reverse_cons, List.reverse_cons]; exact Vals.append ih (.cons r .nil)
section
variable {X : Cx} {pins : List (Addr × Obj)} {σ : St} {H : Hp} {s : Shared} {l b : Addr} {xs ys zs : List V}

/-! ### the two steps: a tracked list is rewritten, a new list is laid -/
theorem Inv.lset {its its' : List Value} {n : Nat} {f : Array Value → Array Value} {t' : Nat} (I : Inv X pins σ H s) (hH : H l = some (.lst xs))
    (e : s.heap.get? l = some { cls := .type "list", data := .seq its.toArray n }) (hf : f its.toArray = its'.toArray) (hv : Vals ys its') (hz : ys.length ≤ sizeLine) :
    Inv X pins σ (upd H l (.lst ys)) { s with heap := s.heap.update l (Obj.mapSeq f), toks := t' } := by
  have q := PySem.IsL.update e f
  rw [hf] at q
  refine I.write (x := l) (e := l) (by rw [hH]; exact trivial) (.inl rfl) (fun b' u hb hu => (Heap.get?_update_other s.heap (Obj.mapSeq f) (Ne.symm hb)).trans hu) ⟨_, q⟩ ?_
  exact ⟨hz, its', _, hv, q⟩
theorem Inv.lnew {its : List Value} {t' : Nat} (I : Inv X pins σ H s) (hv : Vals ys its) (hz : ys.length ≤ sizeLine) :
    Inv X pins σ (upd H s.heap.objs.size (.lst ys)) { s with heap := s.heap.push { cls := .type "list", data := .seq its.toArray }, toks := t' } :=
  I.laid (fun _ _ q => Heap.get?_push_of_some _ q) (Nat.le_refl _) ⟨hz, its, 0, hv, Heap.get?_push_size _ rfl⟩
theorem Inv.fresh (I : Inv X pins σ H s) : H s.heap.objs.size = none := I.hok.fresh (Nat.le_refl _)
theorem Inv.lstM (I : Inv X pins σ H s) (hH : H l = some (.lst xs)) : xs.length ≤ sizeLine ∧ ∃ (its : List Value) (n : Nat), Vals xs its ∧ xs.length = its.length ∧ s.heap.get? l = some { cls := .type "list", data := .seq its.toArray n } := by
  obtain ⟨z, its, n, r, e⟩ := I.hok l _ hH
  exact ⟨z, its, n, r, r.length, e⟩

end

section
variable {X : Cx}

/-! ### methods -/
def rAppend : V → List V → Hp → VK → Prop := fun x vs H Q => ∃ l xs y, x = .ref l ∧ vs = [y] ∧ H l = some (.lst xs) ∧ xs.length < sizeLine ∧ Q .non (upd H l (.lst (xs ++ [y])))
theorem mt_append : MtM X "list.append" rAppend := by
  intro pins s σ H x vs v us Q I rx rv h
  obtain ⟨l, xs, y, rfl, rfl, hH, hz, q⟩ := h
  cases rx
  obtain ⟨u, rfl, ru⟩ := rv.one
  obtain ⟨z, its, n, r, hl, e⟩ := I.lstM hH
  refine call_meets F.slot_list_append ⟨_, e, rfl⟩ F.entry_list_append (F.args_list_append_2 _ _) (PySem.list_append l its.toArray n u (by rw [List.size_toArray]; omega)) ⟨e, ?_⟩
  refine ⟨.non, _, I.lset (its' := its ++ [u]) hH e (by simp) (r.append (.cons ru .nil)) ?_, rfl, q⟩
  rw [List.length_append, List.length_singleton]
  omega

/-! ### list + list, list += list, list * int -/
/-! ### del xs[i] -/
end

/-! ### xs[a:b] = ys -/
section
variable {prog : Program} {w : World} {A : Around} {E : Value → Shared → Prop} {s : Shared}
end

section
variable {X : Cx}
end
end L2

namespace Att
open PySem PySem.W PySem.Calls PyProof.Rows

/-! ### the script -/
theorem ints_of_wellAll {P : Params} {h : Heap} : ∀ (ns : List Int) (vs : List Value), WellAll P h vs (ns.map WData.int) → IntsAre vs ns := by
  intro ns
  induction ns with
  | nil =>
    intro vs w
    rw [List.map_nil] at w
    cases w
    exact .nil
  | cons n ns ih =>
    intro vs w
    rw [List.map_cons] at w
    cases w with
    | cons a b =>
      cases a
      exact .cons _ _ (ih _ b)

theorem script_of {l : OpenLaw} {n : Nat} (hn : l.most = some n) {P : Params} {h : Heap} {args : List WData} {vals : List Value}
    (hpre : l.row.toRowW.claim.pre args = true) (hwl : WellAll P h vals args) :
    ∃ a vs ns, vals = [Value.ref a] ∧ args = [WData.list (ns.map WData.int)] ∧ h.get? a = some { cls := .type "list", data := .seq vs.toArray } ∧ IntsAre vs ns ∧ ns.length ≤ n := by
  have hsh : WShape.hasAll [] args [.list .int] = true := (pre_splitW hpre).1
  have hc : l.pre.holds [] { args := args } = true := (pre_splitW hpre).2
  obtain ⟨d, r, rfl, h1, h2⟩ := hasAllW_cons hsh
  obtain rfl := hasAllW_nil h2
  obtain ⟨xs, rfl, h3⟩ := hasW_list h1
  obtain ⟨ns, rfl⟩ := items_int h3
  have hlen : ns.length ≤ n := by
    unfold OpenLaw.pre at hc
    have h4 : (WTm.not (.lt (.lit (.int (n : Int))) (.len (.arg 0)))).holds [] { args := [.list (ns.map .int)] } = true := by
      have h4 := (holds_andW hc).1
      rw [hn] at h4
      exact h4
    have h5 := condW_of h4 (w_not (w_lt w_lit (w_len_list (w_arg rfl))))
    rw [List.length_map] at h5
    refine Nat.le_of_not_lt fun q => ?_
    have q' : (n : Int) < ((ns.length : Nat) : Int) := by omega
    first
      | (rw [decide_eq_true q'] at h5; exact absurd h5 (by decide))
      | (simp at h5; omega)
  cases hwl with
  | cons w1 w2 =>
    cases w2
    cases w1 with
    | list ho hall => exact ⟨_, _, ns, rfl, rfl, ho, ints_of_wellAll ns _ hall, hlen⟩

theorem post_true (l : OpenLaw) (args : List WData) : l.row.toRowW.claim.post args (.bool true) args = true :=
  postW_of (r := l.row.toRowW) (X := (true == true))
    (show WShape.has [] (.bool true) .bool = true by first | rfl | decide | simp [WShape.has, WShape.arms, WShape.armsAll])
    (show (WTm.eq .res (.lit (.bool true))).value [] { args := args, res := some (.bool true), after := args } = some (.bool (true == true)) from w_eq_bool (w_res rfl) w_lit) rfl

/-! ### the attachment: holds_open's last premise (the goal 'hc' behind k_head) from a wpAny of the law's body -/
/-- the same from a codeAny of the CALL (for a layer whose function contracts speak of calls) -/
theorem attach_call {l : OpenLaw} {n : Nat} {q : Program} {loose : List Str} {XP : (Str → Option Value) → Heap → Prop} {YP : World → Heap → Prop} {d : DefRec}
    (hn : l.most = some n) (hdf : d.params.defaults = [])
    (call : ∀ (w : World) (s₀ s₁ : Shared) (mg mb : Str → Option Value) (fa : Addr) (o : Obj) (pm cd doc : Value) (a : Addr) (vs : List Value) (ns : List Int),
      Ground q loose [] XP w s₀ mg mb s₁.heap → YP w s₁.heap →
      s₁.heap.get? fa = some o → o.data = .func (docDef d.name d.params d.body d.scope pm cd doc) → s₁.heap.CodeRec cd d.name → mg d.name = some (.ref fa) →
      s₁.heap.get? a = some { cls := .type "list", data := .seq vs.toArray } → IntsAre vs ns → ns.length ≤ n → s₁.gens = #[] →
      codeAny (model l.prog w) callerA (.call (.ref fa) ⟨[.ref a], []⟩) (fun r s' => r = .ok (.ret (.bool true)) ∧ OldK s₁.heap s'.heap ∧ s'.os = s₁.os ∧ AllBare s'.gens) s₁) :
    WalkO q loose XP YP l.row.toRowW d [] (fun f vs => PySem.call f vs) := by
  intro w s₀ s₁ mg mb G Y fa o pm cd doc dV kV ho hd hcd hD hmg hg args vals as hpre hlay hrd hwl hlo
  obtain rfl : dV = .none := Dflts.none hD hdf
  obtain rfl : kV = .none := Dflts.noKw hD
  obtain ⟨a, vs, ns, rfl, rfl, hobj, hints, hlen⟩ := script_of hn hpre hwl
  refine enter_call (codeAny_mono (call w s₀ s₁ mg mb fa o pm cd doc a vs ns G Y ho (fd_plain hd) hcd hmg hobj hints hlen hg) fun r s' hq => ?_)
  obtain ⟨rfl, h2, h3, h4⟩ := hq
  exact ⟨.inl ⟨.bool true, .bool true, [], rfl, fun _ => rfl, .bool true, post_true l _, fun _ => ⟨List.Pairwise.nil, fun _ hm => (nomatch hm)⟩⟩, h2, h3, h4⟩

/-! ### rules over ANY heap (no ledger) from facts about the written part K: the library's own take a ledger (News) for what they write -/
section
variable {prog : Program} {w : World} {A : Around} {E : Value → Shared → Prop} {s : Shared} {K : Frag}

/-! the whole heap as the ledger: makes every rule that writes through a ledger a rule over any heap -/
end
end Att

namespace L2
open PySem PySem.Spec PyProof.Rows

theorem vals_ints : ∀ {vs : List Value} {ns : List Int}, IntsAre vs ns → Vals (ns.map V.int) vs
  | _, _, .nil => .nil
  | _, _, .cons n t h => .cons ⟨t, rfl⟩ (vals_ints h)

/-- nothing is tracked but the script, known to the object (or it is an object of the module) -/
def Only (H : Hp) : Prop := ∀ b, H b = none ∨ ∃ o xs, H b = some (.frz o (.lst xs))

/-- THE HEAD: the law's promise, at the heap behind the top. F, the promise of the law's def, may use that base is part of the heap (so K.In base, base.Ns mainGlobals mg stand in Mod) -/
theorem law_call {P : Program} {w : World} {K : PySem.W.Frag} {mg mb : Str → Option Value} {CX : CXT} {k : Nat} {fa a : Addr} {fd : FuncData} {x : Str} {sp : Sp} {s₁ : Shared} {vs : List Value} {ns : List Int}
    (KX : K.In s₁.heap) (hns : s₁.heap.Ns mainGlobals mg) (hb : s₁.heap.Ns builtinsNs mb) (hbb : ∀ x : Str, x ≠ "__name__" → mb x = bootBuiltins x) (hlim : s₁.heap.NoLimit) (hg : s₁.gens = #[])
    (ha : s₁.heap.get? a = some { cls := .type "list", data := .seq vs.toArray }) (hi : IntsAre vs ns) (hl : ns.length ≤ sizeLine) (hr : Room k callerA)
    (F : ∀ base : Heap, K.In base → base.Ns mainGlobals mg → FnOk P w K mg base CX k fa fd [x] sp) (hbind : ∀ (s : Shared) (u : Value), BindsTo s fd ⟨[u], []⟩ [(x, u)])
    (hsp : ∀ H : Hp, Only H → SqL K H a (ns.map V.int) → sp [.ref a] H (fun v _ => v = .bl true) fun _ _ _ => False)
    (hCX : ∀ H e s', CX [] H s₁ (fun _ _ _ => False) e s' → False) :
    codeAny (model P w) callerA (.call (.ref fa) ⟨[.ref a], []⟩) (fun r s' => r = .ok (.ret (.bool true)) ∧ OldK s₁.heap s'.heap ∧ s'.os = s₁.os ∧ AllBare s'.gens) s₁ := by
  have rv := vals_ints hi
  have lenV := hi.length
  -- from an abstract heap in which nothing but the script may be tracked
  have core : ∀ H : Hp, Only H → SqL K H a (ns.map V.int) → HOk P w H s₁.heap → (∀ b, H b ≠ none → b = a) → (H a ≠ none → K.lookup a = none) →
      codeAny (model P w) callerA (.call (.ref fa) ⟨[.ref a], []⟩) (fun r s' => r = .ok (.ret (.bool true)) ∧ OldK s₁.heap s'.heap ∧ s'.os = s₁.os ∧ AllBare s'.gens) s₁ := by
    intro H hO hS hok hA hK
    have base_of : ∀ {b : Addr} {o : Obj}, s₁.heap.get? b = some o → H b = none → (hidT s₁.heap H).get? b = some o := fun e n => hidT_get e n
    have noA : ∀ {b : Addr} {o : Obj} {es : Array DictEntry} {ep : Nat}, s₁.heap.get? b = some o → o.data = .dict es ep → H b = none := fun {b o es ep} e d => by
      cases q : H b with
      | none => rfl
      | some u =>
        have e' : b = a := hA b (by rw [q]; simp)
        subst e'
        rw [ha] at e; cases e
        have d' : Data.seq vs.toArray _ = Data.dict es ep := d
        cases d'
    have nsK : ∀ {b : Addr} {m : Str → Option Value}, s₁.heap.Ns b m → (hidT s₁.heap H).Ns b m := fun {b m} ⟨o, es, ep, e, d, r⟩ => ⟨o, es, ep, base_of e (noA e d), d, r⟩
    have hKb : K.In (hidT s₁.heap H) := fun b o e => base_of (KX b o e) (by
      cases q : H b with
      | none => rfl
      | some u =>
        have e' : b = a := hA b (by rw [q]; simp)
        subst e'
        rw [hK (by rw [q]; simp)] at e; cases e)
    have hM : Mod K mg (hidT s₁.heap H) := ⟨hKb, nsK hns, ⟨mb, nsK hb, hbb⟩, let ⟨mc, h1, h2⟩ := hlim; ⟨mc, nsK h1, h2⟩⟩
    have e0 : Env0 P w K mg (hidT s₁.heap H) callerA [] s₁ H := ⟨rfl, hM, fun b o e => of_hidT e, Nat.le_of_eq (hidT_size _ _), trivial, fun b hb => absurd (show b ∈ ([] : List Addr) from hb) (by simp), hok, .of_eq hg⟩
    refine codeAny_mono ((F _ hKb (nsK hns)).run callerA [] s₁ H ⟨[.ref a], []⟩ [.ref a] [.ref a] _ _ hr e0 (hbind s₁ (.ref a)) (.cons rfl .nil) (hsp H hO hS)) fun r s' h => ?_
    cases r with
    | error e => exact (hCX H e s' h).elim
    | ok fl =>
      cases fl with
      | next => exact False.elim h
      | brk => exact False.elim h
      | cont => exact False.elim h
      | ret u =>
        obtain ⟨v, H', os, bare, un, hok', r', q⟩ := h
        have q' : v = .bl true := q
        subst q'
        obtain rfl : u = Value.bool true := r'
        refine ⟨rfl, OldK.of_keep fun b o e => ?_, os, bare⟩
        cases q : H b with
        | none => exact un.keep b o e q (by intro z; exact absurd (show b ∈ ([] : List Addr) from z) (by simp)) (by simp)
        | some u =>
          rcases hO b with z | ⟨ob, xs, z⟩
          · rw [q] at z; cases z
          · have z2 := un.frzs b ob _ z
            obtain ⟨e1, _⟩ := hok b _ z
            obtain ⟨e2, _⟩ := hok' b _ z2
            rw [e] at e1; cases e1
            exact e2
  cases hk : K.lookup a with
  | some o =>
    -- the script is one of the module's own objects
    have e := KX a o hk
    rw [ha] at e
    cases e
    refine core (fun _ => none) (fun _ => .inl rfl) (.inr ⟨_, vs.toArray, _, hk, rfl, rfl, rfl, by rw [List.size_toArray, lenV]; exact hl, by simpa using rv⟩) (fun b u z => by have z' : (none : Option HO) = some u := z; cases z') (fun b z => absurd rfl z) fun z => absurd rfl z
  | none =>
    refine core (fun b => if b = a then some (.frz { cls := .type "list", data := .seq vs.toArray } (.lst (ns.map V.int))) else none) (fun b => ?_) (.inl (.inr ⟨{ cls := .type "list", data := .seq vs.toArray }, if_pos rfl⟩)) (fun b u z => ?_) (fun b z => ?_) fun _ => hk
    · by_cases hb : b = a
      · exact .inr ⟨_, _, if_pos hb⟩
      · exact .inl (if_neg hb)
    · by_cases hb : b = a
      · have z' := (if_pos hb).symm.trans z
        cases z'
        subst hb
        exact ⟨ha, by rw [List.length_map]; exact hl, vs, _, rv, ha⟩
      · have z' := (if_neg hb).symm.trans z
        cases z'
    · by_cases hb : b = a
      · exact hb
      · exact absurd (if_neg hb) z
end L2

namespace L2
open PySem PySem.Spec PyProof.Rows

abbrev KOf {K : PySem.W.Frag} {h : Heap} (_ : K.In h) : PySem.W.Frag := K

/-- the goal that k_head leaves (case hc), from the law's promise. F gives the function object fd (K's own) once, then the promise over every base -/
theorem walk_of {l : PySem.W.OpenLaw} {n k : Nat} {q : Program} {loose : List Str} {XP : (Str → Option Value) → Heap → Prop} {YP : World → Heap → Prop} {d : DefRec} {K : Params → PySem.W.Frag} {CX : World → CXT} {sp : World → Sp} {x : Str}
    (hn : l.most = some n) (hn2 : n ≤ sizeLine) (hdf : d.params.defaults = []) (hr : Room k callerA)
    (hY : ∀ (w : World) (h : Heap), YP w h → (K w.params).In h)
    (F : ∀ (w : World) (mg : Str → Option Value) (fa : Addr) (h : Heap), (K w.params).In h → h.Ns mainGlobals mg → mg d.name = some (.ref fa) →
      ∃ fd : FuncData, (∀ (s : Shared) (u : Value), BindsTo s fd ⟨[u], []⟩ [(x, u)]) ∧
        ∀ base : Heap, (K w.params).In base → base.Ns mainGlobals mg → FnOk l.prog w (K w.params) mg base (CX w) k fa fd [x] (sp w))
    (hsp : ∀ (w : World) (H : Hp) (a : Addr) (ns : List Int), ns.length ≤ n → Only H → SqL (K w.params) H a (ns.map V.int) → sp w [.ref a] H (fun v _ => v = .bl true) fun _ _ _ => False)
    (hCX : ∀ (w : World) (H : Hp) (s : Shared) (e : Value) (s' : Shared), CX w [] H s (fun _ _ _ => False) e s' → False) :
    PySem.W.WalkO q loose XP YP l.row.toRowW d [] (fun f vs => PySem.call f vs) := by
  refine Att.attach_call hn hdf fun w s₀ s₁ mg mb fa o pm cd doc a vs ns G Y ho hd hcd hmg hobj hints hlen hg => ?_
  have KX := hY w _ Y
  obtain ⟨fd, hb, hF⟩ := F w mg fa _ KX G.T.g hmg
  exact law_call KX G.T.g G.T.b G.T.builtins G.T.nolimit hg hobj hints (Nat.le_trans hlen hn2) hr hF hb (fun H hO hS => hsp w H a ns hlen hO hS) fun H e s' => hCX w H s₁ e s'
end L2

/- THE LAST THEOREM (shape; LID, My.* are yours):
   My.Adr: a structure of the addresses that your layer names (classes, functions); My.Txt K t: a structure (Prop) of the equations over K;
   My.txt_mk : {K} {implicit addresses ..} (e1 : nsIn K mainGlobals "law" = some (some (.ref f))) (e2 : K.lookup f = some ⟨oc, od, .func (fnOf "law" "law" params body scope dV kV doc pm an cdv ct), sl⟩) (e3 : codeIn K cdv "law" = true) .. : ∃ t, My.Txt K t

set_option maxRecDepth 100000 in
set_option maxHeartbeats 0 in
theorem PySem.Challenge.cw_LID_holds : PySem.Challenge.rw_LID.Holds := by
  w_on; o_law; k_head; (case hw => w_witness2)
  k_fill
  refine L2.walk_of (l := PySem.Challenge.rw_LID) (n := 63) (k := 40) (x := "script") (CX := fun w => ..) (sp := fun _ => My.sp_law) rfl (by decide) rfl ⟨rfl, by decide, by decide⟩ (fun w h Y => PySem.W.kIn_of Y) ?F ?S ?C
  case F =>
    intro w mg fa h KX G hmg
    have T : ∃ t, My.Txt (L2.KOf KX) t := by
      dsimp only [L2.KOf]                          -- K must stand as «<heap const> w.params» for k_is
      refine' My.txt_mk ?e1 ?e2 ?e3 ..
      (case e1 => PySem.W.k_is)                    -- in the order: a name -> its address -> its object -> its parts
      (case e2 => PySem.W.k_is)
      ..
    obtain ⟨t, T⟩ := T
    have e0 := hmg.symm.trans (PySem.W.mg_of KX G T.law)
    cases e0                                       -- fa is the law's own address
    exact ⟨_, fun s u => .of_eq rfl, fun base kb nb => My.law_fn T kb nb⟩     -- if «.of_eq rfl» comes too early: refine' ⟨_, ?b, fun base kb nb => My.law_fn T kb nb⟩; exact fun s u => .of_eq rfl
  case S => exact fun w H a ns hl hO hS => ..
  case C => exact ..
(the tactic k_is has no namespace: write k_is) -/

/-! SHORT WORDS over the layer: a def of the text, its body, what a loop and a test want. -/
namespace L2
open PySem PySem.Spec PyProof.Rows

/-! ### the text by places -/
def defArgs (s : Stmt) : Arguments := match s with
  | .FunctionDef _ a _ _ _ _ _ _ _ _ => a
  | _ => { posonlyargs := [], args := [], vararg := none, kwonlyargs := [], kw_defaults := [], kwarg := none, defaults := [] }
def defBody (s : Stmt) : List Stmt := match s with
  | .FunctionDef _ _ b _ _ _ _ _ _ _ => b
  | _ => []
def defScope (s : Stmt) : Scope := match s with
  | .FunctionDef _ _ _ _ _ _ sc _ _ _ => sc
  | _ => { kind := .function, names := [], isGenerator := false, isCoroutine := false }

/-! ### no exception leaves a def -/
abbrev CX0 : CXT := fun _ _ _ _ _ _ => False
abbrev E0 : XK := fun _ _ _ => False
/-! ### a def (or method) of the text as it stands behind the top -/
structure Fun (K : PySem.W.Frag) (x qual : Str) (st : Stmt) (f : Addr) (fd : FuncData) : Prop where
  ex : ∃ (oc : Value) (od : Option Addr) (kV doc pm : Value) (an : Option Addr) (cdv ct : Value) (osl : Array (Option Value)),
    fd = PySem.W.fnOf x qual (defArgs st) (defBody st) (defScope st) .none kV doc pm an cdv ct ∧ K.lookup f = some ⟨oc, od, .func fd, osl⟩ ∧ PySem.W.codeIn K cdv qual = true
  kp : PySem.W.keepIn K (.ref f) = true
section
variable {P : Program} {w : World} {K : PySem.W.Frag} {mg : Str → Option Value} {base : Heap}
/-- THE RULE for a def: its body as a term of rules, and the reading of that term -/
theorem Fun.ok {x qual : Str} {st : Stmt} {f : Addr} {fd : FuncData} {N ps : List Str} {k : Nat} {sp : Sp} (F : Fun K x qual st f fd) (S : FnScope N ps (defScope st)) (len : ∀ vs H Q E, sp vs H Q E → vs.length = ps.length)
    (hbody : ∀ (cdv : Value) (A : Around) (outer : List Env) (s : Shared) (H : Hp) (vs : List V) (Q : VK) (E : XK), Room k (A.deeper (envOfC qual (defScope st) s.heap.objs.size f cdv)) → sp vs H Q E →
      ∃ t, PSs (cxOf CX0 P w K mg base N qual (defScope st) f cdv A outer s H E).nox (defBody st) t ∧ t { nx := fun _ H' => Q .non H', rt := Q } (start N vs) H) : FnOk P w K mg base CX0 (k + 1) f fd ps sp := by
  obtain ⟨oc, od, kV, doc, pm, an, cdv, ct, osl, rfl, lk, hcd⟩ := F.ex
  refine fn_of lk hcd S len fun A outer s H vs Q E hr hsp => ?_
  obtain ⟨t, h, q⟩ := hbody cdv A outer s H vs Q E hr hsp
  exact ⟨t, h.nox, q⟩
/-- how its arguments bind (no defaults): h is «fun _ _ _ _ _ _ us hl => match us, hl with | [_, _], _ => rfl», one _ a parameter -/
theorem Fun.binds {x qual : Str} {st : Stmt} {f : Addr} {fd : FuncData} {ps : List Str} (F : Fun K x qual st f fd)
    (h : ∀ (kV doc pm : Value) (an : Option Addr) (cdv ct : Value) (us : List Value), us.length = ps.length → bindArgs (PySem.W.fnOf x qual (defArgs st) (defBody st) (defScope st) .none kV doc pm an cdv ct) ⟨us, []⟩ = pure (ps.zip us)) : Binds K fd ps [] := by
  obtain ⟨oc, od, kV, doc, pm, an, cdv, ct, osl, rfl, lk, hcd⟩ := F.ex
  exact .all (h kV doc pm an cdv ct)
theorem fun_mk {x qual : Str} {st : Stmt} {f : Addr} {oc : Value} {od an : Option Addr} {osl : Array (Option Value)} {kV doc pm cdv ct : Value} (l : K.lookup f = some ⟨oc, od, .func (PySem.W.fnOf x qual (defArgs st) (defBody st) (defScope st) .none kV doc pm an cdv ct), osl⟩)
    (c : PySem.W.codeIn K cdv qual = true) (k : PySem.W.keepIn K (.ref f) = true) : Fun K x qual st f (PySem.W.fnOf x qual (defArgs st) (defBody st) (defScope st) .none kV doc pm an cdv ct) := ⟨⟨oc, od, kV, doc, pm, an, cdv, ct, osl, rfl, l, c⟩, k⟩
end
theorem hu_of {A : Around} {k : Nat} (hr : Room k A) : A.units + 1 < cLine := Nat.lt_of_le_of_lt (Nat.add_le_add_left (by decide : 1 ≤ 64) _) hr.units
/-! ### expressions in short: the name that stands in the i-th slot -/
section
variable {X : Cx}
end

/-! ### tests -/
/-! ### heaps -/
/-- all that was tracked is as it was -/
def Same (H H' : Hp) : Prop := ∀ b o, H b = some o → H' b = some o
theorem Same.refl (H : Hp) : Same H H := fun _ _ h => h
theorem Same.trans {H H1 H2 : Hp} (a : Same H H1) (b : Same H1 H2) : Same H H2 := fun c o h => b c o (a c o h)
theorem Same.free {H H' : Hp} (e : Same H H') {l : Addr} (h : H' l = Option.none) : H l = Option.none := by
  cases q : H l with
  | none => rfl
  | some o =>
    rw [e l o q] at h
    cases h
theorem Same.seq {K : PySem.W.Frag} {H H' : Hp} {a : Addr} {xs : List V} (e : Same H H') (h : SqL K H a xs) : SqL K H' a xs := by
  rcases h with (h | ⟨o, h⟩) | h
  · exact .inl (.inl (e _ _ h))
  · exact .inl (.inr ⟨o, e _ _ h⟩)
  · exact .inr h

end L2

set_option Elab.async false
set_option linter.all false
set_option maxRecDepth 100000
/-! More rules over the hand layer: products and quotients of wide numbers, isinstance, own defs in short. -/
namespace Fr
open PySem PySem.Spec L2
open PyProof.Rows hiding St

/-- the built-in names that the text does not bind -/
structure Bi (mg : Str → Option Value) : Prop where
  len : mg "len" = none
  abs : mg "abs" = none
  int : mg "int" = none
  max : mg "max" = none
  min : mg "min" = none
  range : mg "range" = none
  isinstance : mg "isinstance" = none
  bool : mg "bool" = none
  tuple : mg "tuple" = none
  list : mg "list" = none
  str : mg "str" = none
  zip : mg "zip" = none
  all : mg "all" = none
  divmod : mg "divmod" = none

/-- a def of the text: it stands under its name and keeps its promise -/
def Own (P : Program) (w : World) (K : PySem.W.Frag) (mg : Str → Option Value) (base : Heap) (k : Nat) (x : Str) (ps : List Str) (sp : Sp) : Prop :=
  ∃ (f : Addr) (fd : FuncData), FnOk P w K mg base CX0 k f fd ps sp ∧ mg x = some (.ref f) ∧ PySem.W.keepIn K (.ref f) = true ∧ Binds K fd ps []
theorem Own.mono {P : Program} {w : World} {K : PySem.W.Frag} {mg : Str → Option Value} {base : Heap} {j k : Nat} {x : Str} {ps : List Str} {sp : Sp} (O : Own P w K mg base j x ps sp) (h : j ≤ k) : Own P w K mg base k x ps sp := by
  obtain ⟨f, fd, a, b, c, d⟩ := O
  exact ⟨f, fd, a.mono h, b, c, d⟩

section
variable {X : Cx} {a b : Expr} {ta tb : TE} {pos p : Pos} {k : Nat} {x : Str} {ps : List Str} {sp : Sp} {e : Expr} {es : List Expr} {t : TA}
def CMB (i j : Int) : Prop := CMul i j ∨ (i.natAbs < 2 ^ 250 ∧ j.natAbs < 2 ^ 250)
theorem CMB.ok {i j : Int} (h : CMB i j) : IntMulOk i j := by
  rcases h with h | ⟨h1, h2⟩
  · exact h.ok
  · refine IntMulOk.of_bits (Nat.le_trans (intBits_le_iff.mpr h1) ?_) (Nat.le_trans (intBits_le_iff.mpr h2) ?_) <;> decide
theorem op_mulB : OpR X (binaryOp .Mult) (rI CMB fun i j => .int (i * j)) := opI fun _ _ _ _ _ _ _ hc q => mul_int q hc.ok
theorem log2_le {n : Nat} (h : n < 2 ^ 250) : n.log2 < 9000 := by
  by_cases h0 : n = 0
  · subst h0; decide
  · have := (Nat.log2_lt h0).mpr h
    omega
theorem op_fdivP : OpR X (binaryOp .FloorDiv) (rI (fun _ j => 0 < j ∧ j < 2 ^ 250) fun i j => .int (i / j)) := opI fun i j _ _ _ _ _ hc q => by
  have h1 : (0 : Int) < j := hc.1
  have h2 : j < 2 ^ 250 := hc.2
  exact floordiv_int (by omega) (by rw [Int.fdiv_eq_ediv_of_nonneg i (by omega)]; exact q) (.inl (PyProof.noPylong_of_log2 (log2_le (by omega))))
theorem op_fdivZ : OpR X (binaryOp .FloorDiv) (rI (fun _ j => j ≠ 0 ∧ j.natAbs < 2 ^ 250) fun i j => .int (i.fdiv j)) := opI fun i j _ _ _ _ _ hc q =>
  floordiv_int hc.1 q (.inl (PyProof.noPylong_of_log2 (log2_le hc.2)))
theorem pe_ty {x : Str} {n : String} {pos : Pos} (hg : Gl X x) (hm : X.mg x = none) (hv : bootBuiltins x = some (.type n)) (hn : x ≠ "__name__" := by decide) (hd : (x == ("__debug__" : Str)) = false := by decide) : PE X (.Name x pos) (tC (.ty n)) :=
  pe_bltn hg hm hv rfl hn hd
end
/-! heaps: all but one address is kept -/
def Keep (p : Addr) (H H' : Hp) : Prop := ∀ b o, H b = some o → b ≠ p → H' b = some o
theorem Keep.refl (p : Addr) (H : Hp) : Keep p H H := fun _ _ h _ => h
theorem Keep.trans {p : Addr} {H H1 H2 : Hp} (a : Keep p H H1) (b : Keep p H1 H2) : Keep p H H2 := fun c o h n => b c o (a c o h n) n
theorem Keep.upd {p : Addr} {H : Hp} {o : HO} : Keep p H (upd H p o) := fun c u h n => by rw [upd_ne n]; exact h
theorem Keep.new {p q : Addr} {H : Hp} {o : HO} (h : H q = none) : Keep p H (L2.upd H q o) := fun c u e _ => by rw [upd_ne (ne_of_none e h)]; exact e
theorem Same.new {q : Addr} {H : Hp} {o : HO} (h : H q = none) : Same H (L2.upd H q o) := fun c u e => by rw [upd_ne (ne_of_none e h)]; exact e
theorem Keep.seq {K : PySem.W.Frag} {p a : Addr} {H H' : Hp} {xs : List V} (k : Keep p H H') (n : a ≠ p) (h : SqL K H a xs) : SqL K H' a xs := by
  rcases h with (h | ⟨o, h⟩) | h
  · exact .inl (.inl (k _ _ h n))
  · exact .inl (.inr ⟨o, k _ _ h n⟩)
  · exact .inr h
theorem cmb_r {i j : Int} (h1 : -(2 ^ 64) < j) (h2 : j < 2 ^ 64) : CMB i j := .inl (.inr ⟨h1, h2⟩)
theorem len2 {a b : V} : [a, b].length ≤ sizeLine := by show 2 ≤ sizeLine; decide
end Fr

set_option linter.all false
/-! The mathematics: common divisors, lowest terms. -/
namespace Fr
theorem gcd_lin {x y q r : Int} (h : x = y * q + r) : Int.gcd y r = Int.gcd x y := by
  have h2 : r = x + (-q) * y := by rw [h, Int.neg_mul, Int.mul_comm q y]; omega
  rw [h2, Int.gcd_add_mul_right_right, Int.gcd_comm]
theorem gcd_emod' (x y : Int) : Int.gcd y (x % y) = Int.gcd x y := gcd_lin (q := x / y) (Int.mul_ediv_add_emod x y).symm
theorem gcd_fmod' (x y : Int) : Int.gcd y (x.fmod y) = Int.gcd x y := gcd_lin (q := x.fdiv y) (Int.mul_fdiv_add_fmod x y).symm
theorem gcd_abs (x y : Int) : Int.gcd (if x < 0 then -x else x) (if y < 0 then -y else y) = Int.gcd x y := by
  have h : ∀ z : Int, (if z < 0 then -z else z).natAbs = z.natAbs := fun z => by split <;> omega
  show Nat.gcd _ _ = Nat.gcd _ _
  rw [h, h]
/-- (x, y) in lowest terms -/
def IsSpot (x y : Int) : Prop := (x = 1 ∧ y = 0) ∨ (0 < y ∧ Int.gcd x y = 1)
theorem IsSpot.nn {x y : Int} (h : IsSpot x y) : 0 ≤ y := by rcases h with h | h <;> omega
theorem IsSpot.gcd {x y : Int} (h : IsSpot x y) : Int.gcd x y = 1 := by
  rcases h with ⟨rfl, rfl⟩ | h
  · rfl
  · exact h.2
/-- neighbours on the way of a division -/
structure Conv (i : Nat) (x1 y1 x2 y2 : Int) : Prop where
  n1 : 0 ≤ y1
  n2 : 1 ≤ y2
  b1 : x1.natAbs ≤ 20 * 61 ^ i
  b2 : y1.natAbs ≤ 20 * 61 ^ i
  b3 : x2.natAbs ≤ 20 * 61 ^ i
  b4 : y2.natAbs ≤ 20 * 61 ^ i
  cr : x1 * y2 - x2 * y1 = 1 ∨ x1 * y2 - x2 * y1 = -1
theorem Conv.start {d : Int} (h0 : 0 ≤ d) (h1 : d < 41) : Conv 0 1 0 (d - 20) 1 := ⟨by decide, by decide, by decide, by decide, by omega, by decide, .inl (by omega)⟩
theorem abs_lin {m a b : Int} {n : Nat} (h0 : 1 ≤ m) (h1 : m ≤ 60) (ha : a.natAbs ≤ n) (hb : b.natAbs ≤ n) : (m * a + b).natAbs ≤ 61 * n := by
  have h1 := Int.natAbs_add_le (m * a) b
  have h2 : (m * a).natAbs ≤ 60 * n := by
    rw [Int.natAbs_mul]
    exact Nat.mul_le_mul (by omega) ha
  omega
theorem Conv.next {i : Nat} {x1 y1 x2 y2 m : Int} (c : Conv i x1 y1 x2 y2) (h0 : 1 ≤ m) (h1 : m ≤ 60) : Conv (i + 1) x2 y2 (m * x2 + x1) (m * y2 + y1) := by
  have e : 20 * 61 ^ (i + 1) = 61 * (20 * 61 ^ i) := by rw [Nat.pow_succ]; omega
  have hm : 1 ≤ m * y2 := Int.le_trans (by decide : (1 : Int) ≤ 1 * 1) (Int.mul_le_mul h0 c.n2 (by decide) (by omega))
  refine ⟨by have := c.n2; omega, by have := c.n1; omega, by have := c.b3; omega, by have := c.b4; omega, ?_, ?_, ?_⟩
  · rw [e]; exact abs_lin h0 h1 c.b3 c.b1
  · rw [e]; exact abs_lin h0 h1 c.b4 c.b2
  · have q : x2 * (m * y2 + y1) - (m * x2 + x1) * y2 = -(x1 * y2 - x2 * y1) := by
      rw [Int.mul_add, Int.add_mul, Int.mul_assoc m x2 y2, Int.mul_left_comm x2 m y2]; omega
    rw [q]
    rcases c.cr with h | h <;> rw [h]
    · exact .inr rfl
    · exact .inl rfl
end Fr

set_option Elab.async false
set_option linter.all false
set_option maxRecDepth 100000
namespace Fr
open PySem PySem.Spec L2
open PyProof.Rows hiding St
section
variable {prog : Program} {w : World} {A : Around} {E : Value → Shared → Prop} {s : Shared}
end
section
variable {X : Cx}
end
/-! isinstance of ints and bools -/
end Fr

set_option linter.all false
namespace Fr
end Fr

set_option Elab.async false
set_option linter.all false
set_option maxRecDepth 100000
/-! Values as data: == and != of numbers, truths, texts, tuples and lists within one another. -/
namespace Fr
open PySem PySem.Spec L2
open PyProof.Rows hiding St
mutual
inductive IsD (K : PySem.W.Frag) (H : Hp) : V → PyData → Prop
  | non : IsD K H .non .none
  | bl (b : Bool) : IsD K H (.bl b) (.bool b)
  | int (i : Int) : IsD K H (.int i) (.int i)
  | str (x : Str) : IsD K H (.str x) (.str x)
  | tup {a : Addr} {xs : List V} {ds : List PyData} : SqT K H a xs → IsDs K H xs ds → IsD K H (.ref a) (.tuple ds)
  | lst {a : Addr} {xs : List V} {ds : List PyData} : SqL K H a xs → IsDs K H xs ds → IsD K H (.ref a) (.list ds)
inductive IsDs (K : PySem.W.Frag) (H : Hp) : List V → List PyData → Prop
  | nil : IsDs K H [] []
  | cons {x : V} {d : PyData} {xs : List V} {ds : List PyData} : IsD K H x d → IsDs K H xs ds → IsDs K H (x :: xs) (d :: ds)
end
section
variable {X : Cx} {pins : List (Addr × Obj)} {σ : St} {H : Hp} {s : Shared}
mutual
theorem reads_of (I : Inv X pins σ H s) : ∀ {x : V} {d : PyData} {u : Value}, IsD X.K H x d → RelV x u → ∃ as, Reads s.heap u d as
  | _, _, _, .non, r => by cases r; exact ⟨_, .none⟩
  | _, _, _, .bl b, r => by cases r; exact ⟨_, .bool b⟩
  | _, _, _, .int i, r => by obtain ⟨t, rfl⟩ := r; exact ⟨_, .int i t⟩
  | _, _, _, .str y, r => by obtain ⟨t, rfl⟩ := r; exact ⟨_, .str y t⟩
  | _, _, _, .tup h hs, r => by
    cases r
    obtain ⟨its, rv, ⟨o, ho, hc, n, hd⟩, hz⟩ := I.tuple h
    obtain ⟨as, q⟩ := readsAll_of I hs rv
    exact ⟨_, .tuple ho hc hd (by simpa using q)⟩
  | _, _, _, .lst h hs, r => by
    cases r
    obtain ⟨its, rv, ⟨o, n, ho, hc, _, hd⟩, hz⟩ := I.list h
    obtain ⟨as, q⟩ := readsAll_of I hs rv
    exact ⟨_, .list ho hc hd (by simpa using q)⟩
theorem readsAll_of (I : Inv X pins σ H s) : ∀ {xs : List V} {ds : List PyData} {us : List Value}, IsDs X.K H xs ds → Vals xs us → ∃ as, ReadsAll s.heap us ds as
  | _, _, _, .nil, r => by cases r; exact ⟨_, .nil⟩
  | _, _, _, .cons h hs, r => by
    cases r with
    | cons r1 r2 =>
      obtain ⟨as, q⟩ := reads_of I h r1
      obtain ⟨bs, q'⟩ := readsAll_of I hs r2
      exact ⟨_, .cons q q'⟩
end
theorem op_eqD : OpR X (compareOp .Eq) (fun x y H Q => ∃ d d', IsD X.K H x d ∧ IsD X.K H y d' ∧ d.canLay0 = true ∧ d'.canLay0 = true ∧ X.A.units + d.depth < cLine ∧ Q (.bl (PyData.eqv d d')) H) := by
  intro pins s σ H x y v u Q I rx ry h
  obtain ⟨d, d', h1, h2, c1, c2, hu, q⟩ := h
  obtain ⟨as, r1⟩ := reads_of I h1 rx
  obtain ⟨bs, r2⟩ := reads_of I h2 ry
  exact SeqAt.compareEq_reads r1 r2 c1 c2 (by omega) (fin_bl I q rfl)
theorem op_neD : OpR X (compareOp .NotEq) (fun x y H Q => ∃ d d', IsD X.K H x d ∧ IsD X.K H y d' ∧ d.canLay0 = true ∧ d'.canLay0 = true ∧ X.A.units + d.depth < cLine ∧ Q (.bl (!PyData.eqv d d')) H) := by
  intro pins s σ H x y v u Q I rx ry h
  obtain ⟨d, d', h1, h2, c1, c2, hu, q⟩ := h
  obtain ⟨as, r1⟩ := reads_of I h1 rx
  obtain ⟨bs, r2⟩ := reads_of I h2 ry
  exact SeqAt.compareNe_reads r1 r2 c1 c2 (by omega) (fin_bl I q rfl)
end
theorem room_d {A : Around} {k n : Nat} (hr : Room k A) (h : n ≤ 64) : A.units + n < cLine := by
  have := hr.units
  omega
end Fr

set_option Elab.async false
set_option linter.all false
set_option maxRecDepth 100000
/-! Things of a known kind; making them grows the heap. -/
namespace Fr
open PySem PySem.Spec L2
open PyProof.Rows hiding St
theorem natAbs_fmod {a b : Int} (h : b ≠ 0) : (a.fmod b).natAbs < b.natAbs := by
  by_cases hb : 0 < b
  · have := Int.fmod_nonneg_of_pos a hb
    have := Int.fmod_lt_of_pos a hb
    omega
  · have hn : 0 < -b := by omega
    have h1 := Int.fmod_nonneg_of_pos (-a) hn
    have h2 := Int.fmod_lt_of_pos (-a) hn
    rw [Int.neg_fmod_neg] at h1 h2
    omega
inductive Kn (H : Hp) : V → Prop
  | non : Kn H .non
  | bl (b : Bool) : Kn H (.bl b)
  | int (i : Int) : Kn H (.int i)
  | str (x : Str) : Kn H (.str x)
  | lst {a : Addr} {xs : List V} (h : H a = some (.lst xs)) : Kn H (.ref a)
  | tup {a : Addr} {xs : List V} (h : H a = some (.tup xs)) : Kn H (.ref a)
theorem Kn.same {H H' : Hp} {v : V} (k : Kn H v) (s : Same H H') : Kn H' v := by
  cases k with
  | non => exact .non
  | bl b => exact .bl b
  | int i => exact .int i
  | str x => exact .str x
  | lst h => exact .lst (s _ _ h)
  | tup h => exact .tup (s _ _ h)
def isI : V → Bool
  | .int _ => true
  | _ => false
def isB : V → Bool
  | .bl _ => true
  | _ => false
/-- isinstance of int, of bool, of tuple -/
theorem Kn.ty {K : PySem.W.Frag} {H : Hp} {v : V} (k : Kn H v) : ∃ t, TyOf K H v t ∧ PySem.W.kitOne K t (.type "int") = some (isI v || isB v) ∧ PySem.W.kitOne K t (.type "bool") = some (isB v) := by
  cases k with
  | non => exact ⟨_, .non, rfl, rfl⟩
  | bl b => exact ⟨_, .bl b, rfl, rfl⟩
  | int i => exact ⟨_, .int i, rfl, rfl⟩
  | str x => exact ⟨_, .str x, rfl, rfl⟩
  | lst h => exact ⟨_, .lst h, rfl, rfl⟩
  | tup h => exact ⟨_, .tup h, rfl, rfl⟩
/-- a thing: of a known kind, and its parts, if it is a tuple -/
def Thing (H : Hp) (v : V) : Prop := Kn H v ∧ ∀ a xs, v = .ref a → H a = some (.tup xs) → ∀ x ∈ xs, Kn H x
theorem Thing.same {H H' : Hp} {v : V} (k : Thing H v) (s : Same H H') : Thing H' v := by
  refine ⟨k.1.same s, fun a xs e h x hx => ?_⟩
  subst e
  have : ∃ o, H a = some o := by
    cases k.1 with
    | lst h => exact ⟨_, h⟩
    | tup h => exact ⟨_, h⟩
  obtain ⟨o, ho⟩ := this
  have := s _ _ ho
  rw [h] at this
  cases this
  exact (k.2 a xs rfl ho x hx).same s
theorem Thing.sc {H : Hp} {v : V} (k : Kn H v) (n : ∀ a, v ≠ .ref a) : Thing H v := ⟨k, fun a _ e => absurd e (n a)⟩
theorem Thing.tup {H : Hp} {t : Addr} {xs : List V} (h : H t = some (.tup xs)) (k : ∀ x ∈ xs, Kn H x) : Thing H (.ref t) := ⟨.tup h, fun a ys e h' => by
  cases e
  rw [h] at h'
  cases h'
  exact k⟩
theorem Thing.lst {H : Hp} {t : Addr} {xs : List V} (h : H t = some (.lst xs)) : Thing H (.ref t) := ⟨.lst h, fun a ys e h' => by
  cases e
  rw [h] at h'
  cases h'⟩
/-! ### expressions that make things -/
section
variable {G : Hp → Prop} {R : Hp → V → Prop} {σ : St} {te : TE} {ta : TA} {n : Nat}
end
end Fr

set_option Elab.async false
set_option linter.all false
set_option maxRecDepth 100000
/-! A list comprehension with one name, without tests, whose element reads its own name and global names. -/
namespace Fr
open PySem PySem.Spec L2
open PyProof.Rows hiding St
section
variable {prog : Program} {w : World} {A : Around} {R : Result → Shared → Prop} {s : Shared}
/-- the block's loop, the iterator's own step kept -/
theorem compLoop_go {elt target iter : Expr} {scope : Scope} {pos : Pos} {it acc : Value} {env : Env} (J : Nat → Shared → Prop)
    (turn : ∀ n s, J n s → ∀ E : Value → Shared → Prop, wpAny (model prog w) A (pyNext it) (fun r s₁ => (r = none ∧ R (.ok .next) s₁) ∨ ∃ v, r = some v ∧
      wpAny (model prog w) A (letOwnedTupleGo target it v) (fun _ s₂ => wpAny (model prog w) A (assign target env v) (fun _ s₃ => wpAny (model prog w) A (eval elt env) (fun y s₄ =>
        wpAny (model prog w) A (call (.builtin "list.append") [acc, y]) (fun _ s₅ => ∃ m, m < n ∧ J m s₅) E s₄) E s₃) E s₂) E s₁) E s)
    (n : Nat) (h : J n s) : codeAny (model prog w) A (.compLoop (.ListComp elt [⟨target, iter, [], 0⟩] scope pos) 0 it acc env) R s := by
  refine codeAny_loop rfl J (fun n s hJ => ?_) n h
  refine wpAny_noted ?_
  rw [compTurn_list1]
  refine wpAny_bind (wpAny_standAt (wpAny_bind (thn (turn n s hJ _) fun r s₁ h₁ => ?_)))
  rcases h₁ with ⟨rfl, h₁⟩ | ⟨v, rfl, h₁⟩
  · exact wpAny_pure h₁
  · refine wpAny_bind (thn h₁ fun _ s₂ h₂ => wpAny_bind (thn h₂ fun _ s₃ h₃ => ?_))
    exact wpAny_bind (wpAny_bind (thn h₃ fun y s₄ h₄ => wpAny_bind (thn h₄ fun _ s₅ h₅ => wpAny_pure (wpAny_pure ⟨rfl, h₅⟩))))
end
section
variable {X : Cx} {pins : List (Addr × Obj)} {σ : St} {H : Hp} {s : Shared} {scope : Scope} {x : Str} {fp : List Addr}
/-- what the iterator's records are, seen from the block -/
structure FpIn (X : Cx) (pins : List (Addr × Obj)) (h : Heap) (fp : List Addr) : Prop where
  lt : ∀ b ∈ fp, b < h.objs.size
  loc : ∀ b ∈ fp, b ≠ X.env.locals
  fs : ∀ b ∈ fp, b ∉ X.fs
  own : ∀ b ∈ fp, b ∈ X.ex ∨ X.s₀.heap.objs.size ≤ b
  cl : ∀ b ∈ fp, ∀ x c, X.env.cells.lookup x = some c → c ≠ b
  pn : ∀ b ∈ fp, ∀ p ∈ X.pn ++ pins, p.1 ≠ b
theorem FpIn.stack (f : FpIn X pins s.heap fp) (I : Inv X pins σ H s) : ∀ b ∈ fp, b ∉ frs X.stack := fun b hb z => by
  rcases List.mem_cons.mp (I.stkSub b z) with e | e
  · exact f.loc b hb e
  · exact f.fs b hb e
theorem FpIn.base (f : FpIn X pins s.heap fp) (I : Inv X pins σ H s) : ∀ b o, X.base.get? b = some o → b ∉ fp := fun b o e hb => by
  rcases f.own b hb with z | z
  · exact I.ok.noex b o e z
  · exact absurd (Nat.lt_of_lt_of_le (Heap.lt_size (I.ok.bs b o e).1) z) (Nat.lt_irrefl _)
end
section
variable {X : Cx}
end
end Fr

set_option Elab.async false
set_option linter.all false
set_option maxRecDepth 100000
/-! for a, b in zip(one list, another): both read as they stand at each turn. -/
namespace Fr
open PySem PySem.Spec L2
open PyProof.Rows hiding St
section
variable {X : Cx} {pins : List (Addr × Obj)} {σ : St} {H : Hp} {s : Shared} {h' : Heap} {fp : List Addr}
end
section
variable {X : Cx}
end
end Fr

set_option linter.all false
/-! The division and its steps. -/
namespace Fr
open PySem
def NextTo (p q : Int × Int) : Prop := p.1 * q.2 - p.2 * q.1 = 1 ∨ p.1 * q.2 - p.2 * q.1 = -1
theorem NextTo.step {b l : Int × Int} (k : Int) (h : NextTo b l) : NextTo l (k * l.1 + b.1, k * l.2 + b.2) := by
  unfold NextTo at *
  simp only
  have e : l.1 * (k * l.2 + b.2) - l.2 * (k * l.1 + b.1) = -(b.1 * l.2 - b.2 * l.1) := by grind
  rw [e]
  omega
end Fr

set_option Elab.async false
set_option linter.all false
set_option maxRecDepth 100000
namespace Fr
open PySem PySem.Spec L2
open PyProof.Rows hiding St
/-! ### all(a list of True) -/
section
variable {X : Cx}
/-- a product of wide numbers, by their bits -/
def CW (i j : Int) : Prop := ∃ n : Nat, i.natAbs < 2 ^ n ∧ j.natAbs < 2 ^ n ∧ n ≤ 2 ^ 20
theorem op_mulW : OpR X (binaryOp .Mult) (rI CW fun i j => .int (i * j)) := opI fun _ _ _ _ _ _ _ hc q => by
  obtain ⟨n, h1, h2, h3⟩ := hc
  exact mul_int q (IntMulOk.of_bits (Nat.le_trans (intBits_le_iff.mpr h1) h3) (Nat.le_trans (intBits_le_iff.mpr h2) h3))
end
section
variable {X : Cx}
end
/-! ### what stays as the heap grows -/
theorem sqT_same {K : PySem.W.Frag} {H H' : Hp} {a : Addr} {xs : List V} (e : Same H H') (h : SqT K H a xs) : SqT K H' a xs := by
  rcases h with (h | ⟨o, h⟩) | h
  · exact .inl (.inl (e _ _ h))
  · exact .inl (.inr ⟨o, e _ _ h⟩)
  · exact .inr h
theorem sqT_keep {K : PySem.W.Frag} {H H' : Hp} {p a : Addr} {xs : List V} {zs : List V} (hp : H p = some (.lst zs)) (k : Keep p H H') (h : SqT K H a xs) : SqT K H' a xs := by
  rcases h with (h | ⟨o, h⟩) | h
  · exact .inl (.inl (k _ _ h (ne_of h hp (by intro z; cases z))))
  · exact .inl (.inr ⟨o, k _ _ h (ne_of h hp (by intro z; cases z))⟩)
  · exact .inr h
/-- a pair of numbers as a value; many of them -/
def PairV (K : PySem.W.Frag) (H : Hp) (v : V) (p : Int × Int) : Prop := ∃ a, v = .ref a ∧ SqT K H a [.int p.1, .int p.2]
theorem PairV.sq {K : PySem.W.Frag} {H : Hp} {a : Addr} {p : Int × Int} (h : PairV K H (.ref a) p) : SqT K H a [.int p.1, .int p.2] := by
  obtain ⟨b, e, r⟩ := h
  cases e
  exact r
def Pairs (K : PySem.W.Frag) (H : Hp) (vs : List V) (ps : List (Int × Int)) : Prop := Paired (PairV K H) vs ps
theorem PairV.same {K : PySem.W.Frag} {H H' : Hp} {v : V} {p : Int × Int} (h : PairV K H v p) (e : Same H H') : PairV K H' v p := let ⟨a, q, r⟩ := h; ⟨a, q, sqT_same e r⟩
theorem PairV.keep {K : PySem.W.Frag} {H H' : Hp} {v : V} {p : Int × Int} {l : Addr} {zs : List V} (h : PairV K H v p) (hp : H l = some (.lst zs)) (e : Keep l H H') : PairV K H' v p := let ⟨a, q, r⟩ := h; ⟨a, q, sqT_keep hp e r⟩
theorem Pairs.same {K : PySem.W.Frag} {H H' : Hp} {vs : List V} {ps : List (Int × Int)} (h : Pairs K H vs ps) (e : Same H H') : Pairs K H' vs ps := Paired.mapP h fun _ _ z => z.same e
theorem Pairs.keep {K : PySem.W.Frag} {H H' : Hp} {vs : List V} {ps : List (Int × Int)} {l : Addr} {zs : List V} (h : Pairs K H vs ps) (hp : H l = some (.lst zs)) (e : Keep l H H') : Pairs K H' vs ps := Paired.mapP h fun _ _ z => z.keep hp e
theorem Pairs.snoc {K : PySem.W.Frag} {H : Hp} {vs : List V} {ps : List (Int × Int)} {v : V} {p : Int × Int} (h : Pairs K H vs ps) (q : PairV K H v p) : Pairs K H (vs ++ [v]) (ps ++ [p]) := Paired.snoc h q
theorem Pairs.len {K : PySem.W.Frag} {H : Hp} {vs : List V} {ps : List (Int × Int)} (h : Pairs K H vs ps) : vs.length = ps.length := Paired.length h
theorem Paired.at {α β : Type} {F : α → β → Prop} : ∀ {l₁ : List α} {l₂ : List β} {i : Nat} {b : β}, Paired F l₁ l₂ → l₂[i]? = some b → ∃ a, l₁[i]? = some a ∧ F a b
  | _, _, _, _, .nil, e => by simp at e
  | _, _, 0, _, .cons r _, e => by simp at e; subst e; exact ⟨_, rfl, r⟩
  | _, _, i + 1, b, .cons _ t, e => by
    obtain ⟨a, h1, h2⟩ := Paired.at (i := i) (b := b) t (by simpa using e)
    exact ⟨a, by simpa using h1, h2⟩
theorem Paired.at' {α β : Type} {F : α → β → Prop} : ∀ {l₁ : List α} {l₂ : List β} {i : Nat} {a : α}, Paired F l₁ l₂ → l₁[i]? = some a → ∃ b, l₂[i]? = some b ∧ F a b
  | _, _, _, _, .nil, e => by simp at e
  | _, _, 0, _, .cons r _, e => by simp at e; subst e; exact ⟨_, rfl, r⟩
  | _, _, i + 1, b, .cons _ t, e => by
    obtain ⟨a, h1, h2⟩ := Paired.at' (i := i) (a := b) t (by simpa using e)
    exact ⟨a, by simpa using h1, h2⟩
def dat (p : Int × Int) : PyData := .tuple [.int p.1, .int p.2]
theorem PairV.isD {K : PySem.W.Frag} {H : Hp} {v : V} {p : Int × Int} (h : PairV K H v p) : IsD K H v (dat p) := by
  obtain ⟨a, rfl, r⟩ := h
  exact .tup r (.cons (.int _) (.cons (.int _) .nil))
theorem Pairs.isDs {K : PySem.W.Frag} {H : Hp} : ∀ {vs : List V} {ps : List (Int × Int)}, Pairs K H vs ps → IsDs K H vs (ps.map dat)
  | _, _, .nil => .nil
  | _, _, .cons r t => .cons r.isD (Pairs.isDs t)
theorem Paired.split {α β : Type} {F : α → β → Prop} : ∀ {l₁ : List α} {m₁ m₂ : List β}, Paired F l₁ (m₁ ++ m₂) → ∃ a₁ a₂, l₁ = a₁ ++ a₂ ∧ Paired F a₁ m₁ ∧ Paired F a₂ m₂
  | l₁, [], m₂, h => ⟨[], l₁, rfl, .nil, h⟩
  | _, b :: m₁, m₂, .cons r t => by
    obtain ⟨a₁, a₂, rfl, h1, h2⟩ := Paired.split t
    exact ⟨_ :: a₁, a₂, rfl, .cons r h1, h2⟩
end Fr

set_option Elab.async false
set_option linter.all false
set_option maxRecDepth 100000
/-! a[::-1], insert, count. -/
namespace Fr
open PySem PySem.Spec L2
open PyProof.Rows hiding St
section
variable {X : Cx} {e : Expr} {te : TE} {pos p2 : Pos}
end
end Fr

set_option Elab.async false
set_option linter.all false
set_option maxRecDepth 100000
set_option maxHeartbeats 4000000
/-! isinstance of an exception of an own class; count and index of truths. -/
namespace Fr
open PySem PySem.Spec L2
open PyProof.Rows hiding St
open Sem (wp)

/-- what is asked of the class of an exception, over the text's fragment -/
structure ExcK (K : PySem.W.Frag) (C : Addr) : Prop where
  ga : PySem.W.findIn K (.ref C) "__getattribute__" = some (some (.builtin "BaseException.__getattribute__"))
  gt : PySem.W.findIn K (.ref C) "__getattr__" = some none
  cl : PySem.W.findIn K (.ref C) "__class__" = some (some (.builtin "object.__class__"))
  mb : PySem.W.mroIn K C (.type "BaseException") = some true
  mo : PySem.W.mroIn K C (.type "object") = some true
  is : ∃ c d cd sl, K.lookup C = some ⟨c, d, .cls cd, sl⟩

section
variable {prog : Program} {w : World} {A : Around} {E : Value → Shared → Prop} {h : Heap} {g : Array GenState} {d : Drawn} {t : Nat} {os : OsState} {a C : Addr} {o : Obj} {K : PySem.W.Frag}

end

def ExcAt (a C : Addr) (h : Heap) : Prop := ∃ o, h.get? a = some o ∧ o.cls = .ref C
/-- an exception of the class at C -/
def ExcO (a C : Addr) : HO := .ext (ExcAt a C)
section
variable {X : Cx}
/-! count and index of a truth in a list of truths -/
end
end Fr

set_option Elab.async false
set_option linter.all false
set_option maxRecDepth 100000
set_option maxHeartbeats 4000000
/-! Exceptions of own classes over the hand layer: raise, how one lies behind a call, try with one call and one clause. -/
namespace Fr
open PySem PySem.Spec L2
open PyProof.Rows hiding St

section
variable {P : Program} {w : World} {H H' : Hp} {h h' : Heap} {a : Addr} {o : HO}
theorem obj_got (x : ObjOk P w H h a o) : ∃ ob, h.get? a = some ob := by
  cases o with
  | lst xs => obtain ⟨_, _, _, _, e⟩ := x; exact ⟨_, e⟩
  | tup xs => obtain ⟨_, _, _, ob, e, _⟩ := x; exact ⟨_, e⟩
  | dK kvs => obtain ⟨_, _, _, _, o, _, _, e, _⟩ := x; exact ⟨_, e⟩
  | dT kvs => obtain ⟨_, _, _, _, o, _, _, e, _⟩ := x; exact ⟨_, e⟩
  | set S n => obtain ⟨o, _, _, _, e, _⟩ := x; exact ⟨_, e⟩
  | ins C dx fs => obtain ⟨_, _, _, e, _⟩ := x; exact ⟨_, e⟩
  | own y => exact x
  | xd fs => obtain ⟨_, ⟨_, _, _, e, _⟩, _⟩ := x; exact ⟨_, e⟩
  | rng lo hi => obtain ⟨_, _, _, e⟩ := x; exact ⟨_, e⟩
  | frz ob u => obtain ⟨e, _⟩ := x; exact ⟨_, e⟩
  | tbl ps => exact ⟨_, x⟩
  | met f y => exact ⟨_, x⟩
  | ext φ => exact x.2.1
theorem hok_none (x : HOk P w H h) (e : h.get? a = none) : H a = none := by
  cases q : H a with
  | none => rfl
  | some u =>
    obtain ⟨ob, z⟩ := obj_got (x a u q)
    rw [e] at z
    cases z
/-- all tracked objects are kept -/
theorem hok_keeps (x : HOk P w H h) (k : ∀ b u, H b ≠ none → h.get? b = some u → h'.get? b = some u) : HOk P w H h' := fun a o e =>
  (x a o e).stay (fun b u hb q => k b u (by rcases hb with rfl | hb <;> simp_all) q) (fun _ q => q) fun _ _ q => q
end
theorem ff_move {h h' base base' : Heap} : ∀ {l : List Env}, h.FunFrames base l → (∀ b ∈ frs l, base'.get? b = none) → (∀ b ∈ frs l, ∀ o, h.get? b = some o → ∃ o', h'.get? b = some o' ∧ o'.data = o.data) → h'.FunFrames base' l
  | [], _, _, _ => trivial
  | env :: r, ⟨hk, ⟨L, o, hf, hn, ho, hd⟩, hr⟩, hb, hc => by
    have hL : L ∈ frs (env :: r) := by unfold frs; rw [List.filterMap_cons, hf]; exact List.mem_cons_self
    have sub : ∀ b ∈ frs r, b ∈ frs (env :: r) := fun b hb => by unfold frs; rw [List.filterMap_cons, hf]; exact List.mem_cons_of_mem _ hb
    obtain ⟨o', e, d⟩ := hc L hL o ho
    exact ⟨hk, ⟨L, o', hf, hb L hL, e, fun vs => d ▸ hd vs⟩, ff_move hr (fun b z => hb b (sub b z)) fun b z => hc b (sub b z)⟩

/-- an exception flies: at x, of the class at C, its record not in base -/
structure Fly (base h : Heap) (H : Hp) (x C : Addr) : Prop where
  ex : ∃ oe vs T oT ts a0, h.get? x = some oe ∧ (oe.cls = .ref C ∧ vs[0]? = some a0) ∧ oe.data = .fields vs ∧ vs[1]? = some (.ref T) ∧ base.get? T = none ∧ T ≠ x ∧ h.get? T = some oT ∧ oT.data = .fields ts ∧ ts[3]? = some .none ∧ H T = none
  xn : base.get? x = none
  xh : H x = none
/-- how an exception lies behind a call -/
def CX1 (P : Program) (w : World) : CXT := fun outer H s E e s' => ∃ x C H', e = .ref x ∧ s'.os = s.os ∧ AllBare s'.gens ∧ Un (frs outer) [] H H' s.heap s'.heap ∧ HOk P w H' s'.heap ∧ Fly s.heap s'.heap H' x C ∧ E (.ref C) none H'
theorem pass1 {P : Program} {w : World} {X : Cx} : Passes (CX1 P w) X E0 := fun _ _ _ _ _ _ _ h => by
  obtain ⟨_, _, _, _, _, _, _, _, _, h⟩ := h
  exact h.elim

section
variable {X : Cx} {pins : List (Addr × Obj)} {σ : St} {H : Hp} {s : Shared}
theorem un_out {h'' : Heap} (I : Inv X pins σ H s) (hex : X.ex = []) (kept : ∀ b o, s.heap.get? b = some o → b ∉ frs X.stack → h''.get? b = some o)
    (slots : ∀ b o, b ∈ frs X.stack → s.heap.get? b = some o → ∃ sl, h''.get? b = some { o with slots := sl }) : Un X.fs [] X.H₀ H X.s₀.heap h'' := by
  have nx : ∀ b : Addr, b ∉ X.ex := fun b => by rw [hex]; simp
  have any : ∀ b o, s.heap.get? b = some o → ∃ sl, h''.get? b = some { o with slots := sl } := fun b o e => by
    by_cases hb : b ∈ frs X.stack
    · exact slots b o hb e
    · exact ⟨o.slots, kept b o e hb⟩
  refine ⟨fun b o e n hb _ => ?_, fun b o e n hb _ => ?_, fun b o e n _ => I.base.free b o e n (nx b), fun b o e _ => ?_, I.base.tups, I.base.frzs, I.base.tbls⟩
  · refine kept b o (I.base.keep b o e n hb (nx b)) fun z => ?_
    rcases List.mem_cons.mp (I.stkSub b z) with z | z
    · have := Nat.lt_of_lt_of_le (Heap.lt_size e) I.ok.above
      rw [z] at this
      exact absurd this (Nat.lt_irrefl _)
    · exact hb z
  · obtain ⟨sl, e1⟩ := I.base.slot b o e n hb (nx b)
    obtain ⟨sl2, e2⟩ := any b _ e1
    exact ⟨sl2, e2⟩
  · obtain ⟨o', e1⟩ := I.base.there b o e (nx b)
    obtain ⟨sl, e2⟩ := any b o' e1
    exact ⟨_, e2⟩
end

section
variable {P : Program} {w : World} {K : PySem.W.Frag} {mg : Str → Option Value} {base : Heap} {N : List Str} {qual : Str} {scope : Scope} {f : Addr} {cd : Value} {A : Around} {outer : List Env} {s : Shared} {H : Hp} {E : XK}
/-- a made exception leaves its def -/
theorem leave1 {pins : List (Addr × Obj)} {σ : St} {H2 : Hp} {s2 : Shared} {h' : Heap} {e C : Addr} {us : List Value} (I : Inv (cxOf (CX1 P w) P w K mg base N qual scope f cd A outer s H E) pins σ H2 s2)
    (hm : Heap.MadeExcOf s2.heap h' e (.ref C) us) (q : E (.ref C) none H2) : (cxOf (CX1 P w) P w K mg base N qual scope f cd A outer s H E).xe (.ref e) { s2 with heap := h' } := by
  have FF0 := I.stack
  have FF : s2.heap.FunFrames (PySem.W.hideAll s2.heap (frs (cxOf (CX1 P w) P w K mg base N qual scope f cd A outer s H E).stack)) (cxOf (CX1 P w) P w K mg base N qual scope f cd A outer s H E).stack :=
    ff_move FF0 (fun b hb => PySem.W.hideAll_none _ hb) fun b _ o e => ⟨o, e, rfl⟩
  refine wpAny_leaves_madeW (base := PySem.W.hideAll s2.heap (frs (cxOf (CX1 P w) P w K mg base N qual scope f cd A outer s H E).stack)) (h := s2.heap) (outer := outer) I.ok.frames rfl (fun b o hb => PySem.W.of_hideAll _ hb) FF hm fun h'' t fl tup tn us' => ?_
  have kept : ∀ b o, s2.heap.get? b = some o → b ∉ frs (cxOf (CX1 P w) P w K mg base N qual scope f cd A outer s H E).stack → h''.get? b = some o := fun b o e n => fl.1 b o (PySem.W.hideAll_get _ e n)
  have slots : ∀ b o, b ∈ frs (cxOf (CX1 P w) P w K mg base N qual scope f cd A outer s H E).stack → s2.heap.get? b = some o → ∃ sl, h''.get? b = some { o with slots := sl } := fun b o hb e => by
    obtain ⟨_, o', e', nf⟩ := FF.mem hb
    rw [e] at e'
    cases e'
    exact us' b o (hm.keeps b o e) nf
  have back : ∀ b, s2.heap.get? b = none → s.heap.get? b = none := fun b e => by
    cases z : s.heap.get? b with
    | none => rfl
    | some o =>
      obtain ⟨o', e1⟩ := I.base.there b o z (fun y => absurd (show b ∈ ([] : List Addr) from y) (by simp))
      rw [e] at e1
      cases e1
  obtain ⟨oe, vs, T, oT, ts, he, hc, hd, h1, hnT, hTe, hT, hdT, h3⟩ := fl.2.2.2
  have Tn : s2.heap.get? T = none := by
    cases z : s2.heap.get? T with
    | none => rfl
    | some o =>
      by_cases hb : T ∈ frs (cxOf (CX1 P w) P w K mg base N qual scope f cd A outer s H E).stack
      · obtain ⟨_, o', e', nf⟩ := FF.mem hb
        rw [z] at e'
        cases e'
        obtain ⟨sl, e2⟩ := slots T o hb z
        rw [hT] at e2
        cases e2
        exact absurd hdT (nf ts)
      · rw [PySem.W.hideAll_get _ z hb] at hnT
        cases hnT
  refine ⟨e, C, H2, rfl, I.os, I.bare, un_out I rfl kept slots, hok_keeps I.hok fun b u hb e => kept b u e fun z => hb (I.stkFree b z), ⟨⟨oe, vs, T, oT, ts, _, he, hc, hd, h1, back T Tn, hTe, hT, hdT, h3, hok_none I.hok Tn⟩, back e hm.new, hok_none I.hok hm.new⟩, q⟩
end
theorem exc_obj {K : PySem.W.Frag} {h₀ : Heap} {C : Addr} {bmB : List Value} {newId : String} (X : K.In h₀) (q : PySem.W.excIn K C bmB newId = true) :
    ∃ bm N nm q bs hdct sn sub ab col dd k0 k1 k2 k3 k5 mN, h₀.get? C = some (excClassObj nm q C N bs bm hdct sn sub ab col dd k0 k1 k2 k3 k5 newId) ∧ h₀.Ns N mN ∧ mN "__init__" = none ∧ OwnTail h₀ bmB bm := by
  cases hl : K.lookup C with
  | none => simp [PySem.W.excIn, hl] at q
  | some ob =>
    obtain ⟨cl, dct, dat', slots⟩ := ob
    have hG := X _ _ hl
    cases dat' with
    | cls info =>
      simp only [PySem.W.excIn, hl] at q
      split at q
      next dct' info' slots' hob =>
        cases hob
        split at q
        next C2 tl a0 a1 a2 a3 idn a5 hmro hslots =>
          simp only [Bool.and_eq_true, Bool.not_eq_true', beq_iff_eq] at q
          obtain ⟨⟨⟨⟨⟨hC2, hid⟩, hdl⟩, htl⟩, hns⟩, hini⟩ := q
          cases info
          simp only at hmro hdl hns hini
          cases hC2
          cases hid
          cases hmro
          cases hdl
          have hsl : slots = #[a0, a1, a2, a3, some (.builtin newId), a5] := Array.ext' (by simpa using hslots)
          cases hsl
          exact ⟨_, _, _, _, _, _, _, _, _, _, _, _, _, _, _, _, _, hG, Heap.Ns.of_isNs (PySem.W.isNs_of_in X hns), PySem.W.nsMap_none_of_in X hns hini, PySem.W.tail_of_in X htl⟩
        next => exact absurd q (by decide)
      next => exact absurd q (by decide)
    | _ => simp [PySem.W.excIn, hl] at q
abbrev bmVE : List Value := [.type "ValueError", .type "Exception", .type "BaseException", .type "object"]
/-- raise C(..), C an own class under ValueError -/
def tRaise (C : Addr) (E : XK) (ta : TA) : TS := fun _ σ H => ta σ H fun vs H1 => vs.length ≤ sizeLine ∧ E (.ref C) none H1
section
variable {P : Program} {w : World} {K : PySem.W.Frag} {mg : Str → Option Value} {base : Heap} {N : List Str} {qual : Str} {scope : Scope} {f : Addr} {cd : Value} {A : Around} {outer : List Env} {s : Shared} {H : Hp} {E : XK}
  {x : Str} {C : Addr} {np cpos pos : Pos} {e₀ : Expr} {rest : List Expr} {ta : TA}
theorem ps_raise (hg : Gl (cxOf (CX1 P w) P w K mg base N qual scope f cd A outer s H E) x) (hm : mg x = some (.ref C)) (q : PySem.W.excIn K C bmVE "ValueError.__new__" = true) (ha : PA (cxOf (CX1 P w) P w K mg base N qual scope f cd A outer s H E) (e₀ :: rest) ta)
    (he : starEach (e₀ :: rest) (cxOf (CX1 P w) P w K mg base N qual scope f cd A outer s H E).env = (false, eval e₀ (cxOf (CX1 P w) P w K mg base N qual scope f cd A outer s H E).env) :: starEach rest (cxOf (CX1 P w) P w K mg base N qual scope f cd A outer s H E).env := by rfl)
    (hpl : (backTo cpos (starEach rest (cxOf (CX1 P w) P w K mg base N qual scope f cd A outer s H E).env)).any (·.1) = false := by rfl) (hdb : (x == ("__debug__" : Str)) = false := by decide) :
    PS (cxOf (CX1 P w) P w K mg base N qual scope f cd A outer s H E) (.Raise (some (.Call (.Name x np) (e₀ :: rest) [] cpos)) none pos) (tRaise C E ta) := by
  intro pins s1 σ H1 D I h
  obtain ⟨tl, N', nm, q', bs, hdct, sn, sub, ab, col, dd, k0, k1, k2, k3, k5, mN, hC, hN, hni, T⟩ := exc_obj I.ok.mod.kin q
  refine wpAny_Raise_call_subT (C := C) (nm := nm) (q := q') (N := N') (bs := bs) (bm := tl) (hdct := hdct) (sn := sn) (sub := sub) (ab := ab) (col := col) (dd := dd) (k0 := k0) (k1 := k1) (k2 := k2) (k3 := k3) (k5 := k5)
    PySem.F.excBase_ValueError (mN := mN) (T.hasType PySem.F.excBase_ValueError.hasBase) (I.ok.hd rfl) (by rw [he]; show (false || (backTo cpos (starEach rest _)).any (·.1)) = false; rw [hpl]; rfl) hni (ld_glob I hg hm ⟨rfl, ?_⟩ hdb)
  have h2 := ha cpos pins s1 σ H1 _ I h
  rw [he] at h2 ⊢
  refine Calls.evalArgs_plain (wpAny_mono h2 (fun us s2 z => ?_) fun _ _ y => y)
  obtain ⟨vs, H2, I2, r, hz, hq⟩ := z
  exact ⟨rfl, (by rw [← r.length]; exact hz), I2.bk _ _ hC, hN.keeps I2.bk, T.keeps I2.bk, fun h' e hm => leave1 I2 hm hq⟩
end
end Fr

set_option Elab.async false
set_option linter.all false
set_option maxRecDepth 100000
set_option maxHeartbeats 4000000
/-! try: one call, one clause (an own class, as a name); defs that run within an except suite. -/
namespace Fr
open PySem PySem.Spec L2
open PyProof.Rows hiding St

abbrev _root_.L2.Cx.inex (X : Cx) (z : Addr) : Cx := { X with A := X.A.mark (some (.ref z)), calm := false, xe := fun _ _ => False }
section
variable {X : Cx} {pins : List (Addr × Obj)} {σ : St} {H : Hp} {s : Shared}
end
/-- the class of an except clause -/
structure ClauseK (K : PySem.W.Frag) (D : Addr) : Prop where
  is : ∃ d cd sl, K.lookup D = some ⟨.type "type", d, .cls cd, sl⟩
  mb : PySem.W.mroIn K D (.type "BaseException") = some true
section
variable {X : Cx} {pins : List (Addr × Obj)} {σ : St} {H H1 : Hp} {s s1 s' : Shared} {i : Nat} {n R : Str} {rp hpos : Pos} {b₀ : Stmt} {suite : List Stmt} {ts : TS} {D : Addr} {Dn : Ends} {e : Value} {Ee : Value → Shared → Prop}
end
section
variable {X : Cx} {k : Nat} {f : Addr} {fd : FuncData} {ps : List Str} {sp : Sp} {x n R : Str} {p pos p1 rp hpos tp : Pos} {ex : Expr} {es : List Expr} {t : TA} {i : Nat} {D : Addr} {b₀ : Stmt} {suite : List Stmt} {ts : TS}
end

/-! ### defs that run within an except suite -/
structure RoomN (k : Nat) (A : Around) : Prop where
  dp : A.depth + 3 * k + 5 < recursionLimit
  un : A.units + 16 * k + 200 < cLine
theorem RoomN.of {k : Nat} {A : Around} (r : Room k A) : RoomN k A := ⟨r.dp, r.un⟩
theorem RoomN.deeper {k : Nat} {A : Around} (r : RoomN (k + 1) A) (env : Env) : RoomN k (A.deeper env) :=
  ⟨by have := r.dp; show A.depth + 1 + 3 * k + 5 < _; omega, by have := r.un; show A.units + 3 + 16 * k + 200 < _; omega⟩
structure FnOkN (P : Program) (w : World) (K : PySem.W.Frag) (mg : Str → Option Value) (base : Heap) (k : Nat) (f : Addr) (fd : FuncData) (ps : List Str) (sp : Sp) : Prop where
  len : ∀ vs H Q E, sp vs H Q E → vs.length = ps.length
  run : ∀ (A : Around) (outer : List Env) (s : Shared) (H : Hp) (args : Args) (us : List Value) (vs : List V) (Q : VK), RoomN k A → Env0 P w K mg base A outer s H → BindsTo s fd args (ps.zip us) → Vals vs us → sp vs H Q E0 →
    codeAny (model P w) A (.call (.ref f) args) (CR CX0 outer P w H s Q E0) s
section
variable {P : Program} {w : World} {K : PySem.W.Frag} {mg : Str → Option Value} {base : Heap}
end
section
variable {X : Cx} {pos p : Pos} {k : Nat} {x : Str} {ps : List Str} {sp : Sp} {e : Expr} {es : List Expr} {t : TA}
end
/-- a def that may raise, where it doesn't -/
def Own1 (P : Program) (w : World) (K : PySem.W.Frag) (mg : Str → Option Value) (base : Heap) (k : Nat) (x : Str) (ps : List Str) (sp : Sp) : Prop :=
  ∃ (f : Addr) (fd : FuncData), FnOk P w K mg base (CX1 P w) k f fd ps sp ∧ mg x = some (.ref f) ∧ PySem.W.keepIn K (.ref f) = true ∧ Binds K fd ps []
theorem Own1.mono {P : Program} {w : World} {K : PySem.W.Frag} {mg : Str → Option Value} {base : Heap} {j k : Nat} {x : Str} {ps : List Str} {sp : Sp} (O : Own1 P w K mg base j x ps sp) (h : j ≤ k) : Own1 P w K mg base k x ps sp := by
  obtain ⟨f, fd, a, b, c, d⟩ := O
  exact ⟨f, fd, a.mono h, b, c, d⟩
section
variable {X : Cx} {pos p : Pos} {k : Nat} {x : Str} {ps : List Str} {sp : Sp} {e : Expr} {es : List Expr} {t : TA}
end
/-- a def that may raise -/
theorem ok1 {P : Program} {w : World} {K : PySem.W.Frag} {mg : Str → Option Value} {base : Heap} {x qual : Str} {st : Stmt} {f : Addr} {fd : FuncData} {N ps : List Str} {k : Nat} {sp : Sp} (F : Fun K x qual st f fd) (S : FnScope N ps (defScope st)) (len : ∀ vs H Q E, sp vs H Q E → vs.length = ps.length)
    (hbody : ∀ (cdv : Value) (A : Around) (outer : List Env) (s : Shared) (H : Hp) (vs : List V) (Q : VK) (E : XK), Room k (A.deeper (envOfC qual (defScope st) s.heap.objs.size f cdv)) → sp vs H Q E →
      ∃ t, PSs (cxOf (CX1 P w) P w K mg base N qual (defScope st) f cdv A outer s H E) (defBody st) t ∧ t { nx := fun _ H' => Q .non H', rt := Q } (start N vs) H) : FnOk P w K mg base (CX1 P w) (k + 1) f fd ps sp := by
  obtain ⟨oc, od, kV, doc, pm, an, cdv, ct, osl, rfl, lk, hcd⟩ := F.ex
  exact fn_of lk hcd S len fun A outer s H vs Q E hr hsp => hbody cdv A outer s H vs Q E hr hsp
end Fr

set_option Elab.async false
set_option linter.all false
set_option maxRecDepth 100000
set_option maxHeartbeats 4000000
/-! An exception of a callee passes through a def; try with one statement that calls: f(..), x = f(..), return f(..). -/
namespace Fr
open PySem PySem.Spec L2
open PyProof.Rows hiding St

section
variable {P : Program} {w : World} {K : PySem.W.Frag} {mg : Str → Option Value} {base : Heap} {N : List Str} {qual : Str} {scope : Scope} {f : Addr} {cd : Value} {A : Around} {outer : List Env} {s : Shared} {H : Hp} {E : XK}
/-- what a callee raises, this def raises -/
theorem pass_on : Passes (CX1 P w) (cxOf (CX1 P w) P w K mg base N qual scope f cd A outer s H E) E := by
  intro pins σ H1 s1 e s' I c
  obtain ⟨x, C, H', rfl, os, bare, un, hok, fly, q⟩ := c
  obtain ⟨oe, vs, T, oT, ts', a0, he, hc, hd, h1, hnT, hTe, hT, hdT, h3, hHT⟩ := fly.ex
  have FF : s'.heap.FunFrames (PySem.W.hideAll s'.heap (x :: T :: frs (cxOf (CX1 P w) P w K mg base N qual scope f cd A outer s H E).stack)) (cxOf (CX1 P w) P w K mg base N qual scope f cd A outer s H E).stack :=
    ff_move I.stack (fun b hb => PySem.W.hideAll_none _ (List.mem_cons_of_mem _ (List.mem_cons_of_mem _ hb))) fun b hb o e => by
      obtain ⟨sl, e2⟩ := un.any e (I.stkFree b hb) (by simp)
      exact ⟨_, e2, rfl⟩
  have fl : Heap.FlyingW (PySem.W.hideAll s'.heap (x :: T :: frs (cxOf (CX1 P w) P w K mg base N qual scope f cd A outer s H E).stack)) (cxOf (CX1 P w) P w K mg base N qual scope f cd A outer s H E).stack x (.ref C) a0 s'.heap :=
    ⟨fun b o hb => PySem.W.of_hideAll _ hb, PySem.W.hideAll_none _ List.mem_cons_self, FF, oe, vs, T, oT, ts', he, hc, hd, h1, PySem.W.hideAll_none _ (List.mem_cons_of_mem _ List.mem_cons_self), hTe, hT, hdT, h3⟩
  have I' : Inv (cxOf (CX1 P w) P w K mg base N qual scope f cd A outer s H E) pins σ H' s' := I.call' os un hok bare (fun _ z => nomatch z)
  refine wpAny_leaves_onW (outer := outer) (L := (cxOf (CX1 P w) P w K mg base N qual scope f cd A outer s H E).env.locals) I.ok.frames rfl fl fun h'' fl2 sm => ?_
  have nf : ∀ b o, b ∈ frs (cxOf (CX1 P w) P w K mg base N qual scope f cd A outer s H E).stack → s'.heap.get? b = some o → ∀ vs, o.data ≠ .fields vs := fun b o hb e => by
    obtain ⟨_, o', e', nf⟩ := FF.mem hb
    rw [e] at e'
    cases e'
    exact nf
  have back1 : ∀ b, s1.heap.get? b = none → s.heap.get? b = none := fun b e => by
    cases z : s.heap.get? b with
    | none => rfl
    | some o =>
      obtain ⟨o', e1⟩ := I.base.there b o z (fun y => absurd (show b ∈ ([] : List Addr) from y) (by simp))
      rw [e] at e1
      cases e1
  have kept : ∀ b o, s'.heap.get? b = some o → b ≠ x → b ≠ T → b ∉ frs (cxOf (CX1 P w) P w K mg base N qual scope f cd A outer s H E).stack → h''.get? b = some o := fun b o e n1 n2 n3 => fl2.1 b o (PySem.W.hideAll_get _ e (by simp [n1, n2, n3]))
  have slots : ∀ b o, b ∈ frs (cxOf (CX1 P w) P w K mg base N qual scope f cd A outer s H E).stack → s'.heap.get? b = some o → ∃ sl, h''.get? b = some { o with slots := sl } := fun b o hb e => sm b o e (nf b o hb e)
  have xs0 := back1 x fly.xn
  have Ts0 := back1 T hnT
  have nxT : ∀ b o, s.heap.get? b = some o → b ≠ x ∧ b ≠ T := fun b o e => ⟨(fun z => by rw [z, xs0] at e; cases e), (fun z => by rw [z, Ts0] at e; cases e)⟩
  have unO : Un (frs outer) [] H H' s.heap h'' := by
    have B := I'.base
    have any : ∀ b o, b ≠ x → b ≠ T → s'.heap.get? b = some o → ∃ sl, h''.get? b = some { o with slots := sl } := fun b o n1 n2 e => by
      by_cases hb : b ∈ frs (cxOf (CX1 P w) P w K mg base N qual scope f cd A outer s H E).stack
      · exact slots b o hb e
      · exact ⟨o.slots, kept b o e n1 n2 hb⟩
    have nx : ∀ b : Addr, b ∉ (cxOf (CX1 P w) P w K mg base N qual scope f cd A outer s H E).ex := fun b z => absurd (show b ∈ ([] : List Addr) from z) (by simp)
    refine ⟨fun b o e n hb hx => ?_, fun b o e n hb hx => ?_, fun b o e n hx => B.free b o e n (nx b), fun b o e hx => ?_, B.tups, B.frzs, B.tbls⟩
    · refine kept b o (B.keep b o e n hb (nx b)) (nxT b o e).1 (nxT b o e).2 fun z => ?_
      rcases List.mem_cons.mp (I'.stkSub b z) with z | z
      · have := Nat.lt_of_lt_of_le (Heap.lt_size e) I'.ok.above
        rw [z] at this
        exact absurd this (Nat.lt_irrefl _)
      · exact hb z
    · obtain ⟨sl, e1⟩ := B.slot b o e n hb (nx b)
      obtain ⟨sl2, e2⟩ := any b _ (nxT b o e).1 (nxT b o e).2 e1
      exact ⟨sl2, e2⟩
    · obtain ⟨o', e1⟩ := B.there b o e (nx b)
      obtain ⟨sl, e2⟩ := any b o' (nxT b o e).1 (nxT b o e).2 e1
      exact ⟨_, e2⟩
  have hok2 : HOk P w H' h'' := hok_keeps hok fun b u hb e => kept b u e (fun z => hb (by rw [z]; exact fly.xh)) (fun z => hb (by rw [z]; exact hHT)) (fun z => hb (I'.stkFree b z))
  obtain ⟨oe2, vs2, T2, oT2, ts2, he2, hc2, hd2, h12, hnT2, hTe2, hT2, hdT2, h32⟩ := fl2.2.2.2
  have T2n : s'.heap.get? T2 = none ∨ T2 = T := by
    by_cases e : T2 = T
    · exact .inr e
    · refine .inl ?_
      cases z : s'.heap.get? T2 with
      | none => rfl
      | some o =>
        by_cases hb : T2 ∈ frs (cxOf (CX1 P w) P w K mg base N qual scope f cd A outer s H E).stack
        · obtain ⟨sl, e2⟩ := slots T2 o hb z
          rw [hT2] at e2
          cases e2
          exact absurd hdT2 (nf T2 o hb z ts2)
        · rw [PySem.W.hideAll_get _ z (by simp [hTe2, e, hb])] at hnT2
          cases hnT2
  have backS : s.heap.get? T2 = none ∧ H' T2 = none := by
    rcases T2n with z | z
    · refine ⟨?_, hok_none hok z⟩
      cases u : s.heap.get? T2 with
      | none => rfl
      | some o =>
        obtain ⟨o', e1⟩ := I'.base.there T2 o u (fun y => absurd (show T2 ∈ ([] : List Addr) from y) (by simp))
        rw [z] at e1
        cases e1
    · rw [z]
      exact ⟨Ts0, hHT⟩
  exact ⟨x, C, H', rfl, I'.os, bare, unO, hok2, ⟨⟨oe2, vs2, T2, oT2, ts2, _, he2, hc2, hd2, h12, backS.1, hTe2, hT2, hdT2, h32, backS.2⟩, xs0, fly.xh⟩, q⟩
end

/-- an expression that may raise: its reading with a wish for the exception -/
abbrev TEX := St → Hp → VK → XK → Prop
section
variable {X : Cx} {k : Nat} {f : Addr} {fd : FuncData} {ps : List Str} {sp : Sp} {x : Str} {p pos : Pos} {ex : Expr} {es : List Expr} {t : TA}
end
section
variable {X : Cx} {n R : Str} {rp hpos tp p1 : Pos} {e : Expr} {te : TEX} {i : Nat} {D : Addr} {b₀ : Stmt} {suite : List Stmt} {ts : TS}
/-- the parts of a clause «except R as n: suite» -/
structure Clause (X : Cx) (i : Nat) (n R : Str) (D : Addr) (b₀ : Stmt) (suite : List Stmt) (ts : TS) : Prop where
  st : X.stack = X.env :: X.outer ∧ X.env.frame = some X.env.locals
  g : Gl X R
  m : X.mg R = some (.ref D)
  z : ClauseK X.K D
  nd : X.N.Nodup
  ix : X.N[i]? = some n
  lo : X.env.scope.names.lookup n = some .local
  su : ∀ z, PSs (X.inex z) (b₀ :: suite) ts
  db : (R == ("__debug__" : Str)) = false
end
end Fr

set_option Elab.async false
set_option linter.all false
set_option maxRecDepth 100000
namespace L2
open PySem PySem.Spec PyProof.Rows

/-! ### lists of pairs as tables -/
section
variable {κ : Type} [DecidableEq κ]
def valV (kvs : List (κ × V)) (k : κ) : Option V := (kvs.find? fun kv => decide (kv.1 = k)).map (·.2)
/-- in its place, or at the end -/
def putK (kvs : List (κ × V)) (k : κ) (v : V) : List (κ × V) :=
  if (kvs.any fun kv => decide (kv.1 = k)) = true then kvs.map (fun kv => if kv.1 = k then (kv.1, v) else kv) else kvs ++ [(k, v)]
def dropK (kvs : List (κ × V)) (k : κ) : List (κ × V) := kvs.filter fun kv => decide (kv.1 ≠ k)

theorem valV_pos {p : κ × V} {r : List (κ × V)} {k : κ} (e : p.1 = k) : valV (p :: r) k = some p.2 := by simp [valV, List.find?_cons, e]
theorem valV_neg {p : κ × V} {r : List (κ × V)} {k : κ} (e : ¬ p.1 = k) : valV (p :: r) k = valV r k := by simp [valV, List.find?_cons, e]
theorem valV_any (k : κ) : ∀ kvs : List (κ × V), (kvs.any fun kv => decide (kv.1 = k)) = (valV kvs k).isSome
  | [] => rfl
  | p :: r => by
    rw [List.any_cons]
    by_cases e : p.1 = k
    · simp only [valV_pos e, decide_eq_true e, Bool.true_or, Option.isSome_some]
    · rw [valV_neg e, decide_eq_false e, Bool.false_or]; exact valV_any k r
theorem RelO.isSome_eq {o : Option V} {u : Option Value} (r : RelO o u) : o.isSome = u.isSome := by
  cases o with
  | none => cases u with
    | none => rfl
    | some _ => exact (show False from r).elim
  | some _ => cases u with
    | none => exact (show False from r).elim
    | some _ => rfl
theorem RelO.getD {o : Option V} {u : Option Value} {d : V} {d' : Value} (r : RelO o u) (rd : RelV d d') : RelV (o.getD d) (u.getD d') := by
  cases o with
  | none => cases u with
    | none => exact rd
    | some _ => exact (show False from r).elim
  | some _ => cases u with
    | none => exact (show False from r).elim
    | some _ => exact r

/-- raw tables of the same keys -/
theorem KV.val {kvs : List (κ × V)} {vs : List (κ × Value)} (r : KV kvs vs) (k : κ) : RelO (valV kvs k) (valueAt vs k) := by
  unfold KV at r
  induction r with
  | nil => exact True.intro
  | @cons p q ps qs h t ih =>
    obtain ⟨h1, h2⟩ := h
    by_cases e : p.1 = k
    · have e' : q.1 = k := h1.symm.trans e
      have b : valueAt (q :: qs) k = some q.2 := by simp [valueAt, List.find?_cons, e']
      rw [valV_pos e, b]; exact h2
    · have e' : ¬ q.1 = k := fun z => e (h1.trans z)
      have b : valueAt (q :: qs) k = valueAt qs k := by simp [valueAt, List.find?_cons, e']
      rw [valV_neg e, b]; exact ih
theorem KV.any {kvs : List (κ × V)} {vs : List (κ × Value)} (r : KV kvs vs) (k : κ) : (kvs.any fun kv => decide (kv.1 = k)) = vs.any fun kv => decide (kv.1 = k) := by
  unfold KV at r
  induction r with
  | nil => rfl
  | cons h t ih => rw [List.any_cons, List.any_cons, ih, h.1]
theorem KV.repl {kvs : List (κ × V)} {vs : List (κ × Value)} (r : KV kvs vs) (k : κ) {y : V} {u : Value} (ry : RelV y u) :
    KV (kvs.map fun kv => if kv.1 = k then (kv.1, y) else kv) (vs.map fun kv => if kv.1 = k then (kv.1, u) else kv) := by
  unfold KV at r ⊢
  induction r with
  | nil => exact .nil
  | @cons p q ps qs h t ih =>
    rw [List.map_cons, List.map_cons]
    refine .cons ?_ ih
    obtain ⟨h1, h2⟩ := h
    by_cases e : p.1 = k
    · rw [if_pos e, if_pos (h1.symm.trans e)]; exact ⟨h1, ry⟩
    · rw [if_neg e, if_neg (fun z => e (h1.trans z))]; exact ⟨h1, h2⟩
theorem KV.put {kvs : List (κ × V)} {vs : List (κ × Value)} (r : KV kvs vs) (k : κ) {y : V} {u : Value} (ry : RelV y u) : KV (putK kvs k y) (stored vs k u) := by
  unfold putK stored
  rw [r.any k]
  by_cases e : (vs.any fun kv => decide (kv.1 = k)) = true
  · rw [if_pos e, if_pos e]; exact r.repl k ry
  · rw [if_neg e, if_neg e]; exact Paired.snoc r ⟨rfl, ry⟩
theorem KV.drop {kvs : List (κ × V)} {vs : List (κ × Value)} (r : KV kvs vs) (k : κ) : KV (dropK kvs k) (without vs k) := by
  unfold KV at r ⊢
  unfold dropK without
  induction r with
  | nil => exact .nil
  | @cons p q ps qs h t ih =>
    obtain ⟨h1, h2⟩ := h
    rw [List.filter_cons, List.filter_cons]
    by_cases e : p.1 = k
    · have a : ¬ decide (p.1 ≠ k) = true := by simp [e]
      have b : ¬ decide (q.1 ≠ k) = true := by simp [h1.symm.trans e]
      rw [if_neg a, if_neg b]; exact ih
    · have e' : ¬ q.1 = k := fun z => e (h1.trans z)
      have a : decide (p.1 ≠ k) = true := by simp [e]
      have b : decide (q.1 ≠ k) = true := by simp [e']
      rw [if_pos a, if_pos b]; exact .cons ⟨h1, h2⟩ ih
theorem KV.length {kvs : List (κ × V)} {vs : List (κ × Value)} (r : KV kvs vs) : kvs.length = vs.length := Paired.length r
end


/-! ### a tracked dict, its keys ints and texts or tuples of these -/
/-- raw entries of a dict with tuple keys -/
abbrev KT (H : Hp) : List (List Key × V) → List (List Key × Addr × Value) → Prop := Paired fun p q => p.1 = q.1 ∧ H q.2.1 = some (.tup (p.1.map kV)) ∧ RelV p.2 q.2.2
theorem KT.val {H : Hp} {kvs : List (List Key × V)} {xs : List (List Key × Addr × Value)} (r : KT H kvs xs) (k : List Key) : RelO (valV kvs k) ((atKey xs k).map (·.2)) := by
  induction r with
  | nil => exact True.intro
  | @cons p q ps qs h t ih =>
    obtain ⟨h1, _, h2⟩ := h
    by_cases e : p.1 = k
    · have e' : q.1 = k := h1.symm.trans e
      have b : atKey (q :: qs) k = some q.2 := by simp [atKey, List.find?_cons, e']
      rw [valV_pos e, b]; exact h2
    · have e' : ¬ q.1 = k := fun z => e (h1.trans z)
      have b : atKey (q :: qs) k = atKey qs k := by simp [atKey, List.find?_cons, e']
      rw [valV_neg e, b]; exact ih
theorem KT.repl {H : Hp} {kvs : List (List Key × V)} {xs : List (List Key × Addr × Value)} (r : KT H kvs xs) (k : List Key) {y : V} {u : Value} (ry : RelV y u) :
    KT H (kvs.map fun kv => if kv.1 = k then (kv.1, y) else kv) (xs.map (putAt k u)) := by
  induction r with
  | nil => exact .nil
  | @cons p q ps qs h t ih =>
    rw [List.map_cons, List.map_cons]
    refine .cons ?_ ih
    obtain ⟨h1, h2, h3⟩ := h
    unfold putAt
    by_cases e : p.1 = k
    · rw [if_pos e, if_pos (h1.symm.trans e)]; exact ⟨h1, h2, ry⟩
    · rw [if_neg e, if_neg (fun z => e (h1.trans z))]; exact ⟨h1, h2, h3⟩
theorem KT.put {H : Hp} {kvs : List (List Key × V)} {xs : List (List Key × Addr × Value)} (r : KT H kvs xs) (k : List Key) {b : Addr} {y : V} {u : Value} (hb : H b = some (.tup (k.map kV))) (ry : RelV y u) :
    KT H (putK kvs k y) (storedH xs k b u) := by
  have e : (kvs.any fun kv => decide (kv.1 = k)) = (atKey xs k).isSome := by
    rw [valV_any, (r.val k).isSome_eq, Option.isSome_map]
  unfold putK storedH
  rw [e]
  by_cases q : (atKey xs k).isSome = true
  · rw [if_pos q, if_pos q]; exact r.repl k ry
  · rw [if_neg q, if_neg q]; exact Paired.snoc r ⟨rfl, hb, ry⟩
theorem KT.keeps {H H' : Hp} {kvs : List (List Key × V)} {xs : List (List Key × Addr × Value)} (r : KT H kvs xs) (ht : ∀ b ys, H b = some (.tup ys) → H' b = some (.tup ys)) : KT H' kvs xs :=
  Paired.mapP r fun _ _ z => ⟨z.1, ht _ _ z.2.1, z.2.2⟩

section
variable {P : Program} {w : World} {H : Hp} {h : Heap} {a : Addr}
end

/-- what the dict at a holds at the key y -/
def DGet (H : Hp) (a : Addr) (y : V) (r : Option V) : Prop :=
  (∃ kvs k, Rd H a (.dK kvs) ∧ y = kV k ∧ r = valV kvs k) ∨ ∃ kvs k b, Rd H a (.dT kvs) ∧ y = .ref b ∧ H b = some (.tup (k.map kV)) ∧ r = valV kvs k
/-- the heap behind a[y] = v -/
def DPut (H : Hp) (a : Addr) (y v : V) (H' : Hp) : Prop :=
  (∃ kvs k, H a = some (.dK kvs) ∧ y = kV k ∧ kvs.length < sizeLine ∧ H' = upd H a (.dK (putK kvs k v))) ∨
  ∃ kvs k b, H a = some (.dT kvs) ∧ y = .ref b ∧ H b = some (.tup (k.map kV)) ∧ kvs.length < sizeLine ∧ H' = upd H a (.dT (putK kvs k v))
theorem DGet.k {H : Hp} {a : Addr} {kvs : List (Key × V)} {k : Key} (e : H a = some (.dK kvs)) : DGet H a (kV k) (valV kvs k) := .inl ⟨kvs, k, .inl e, rfl, rfl⟩
theorem DGet.t {H : Hp} {a b : Addr} {kvs : List (List Key × V)} {k : List Key} (e : H a = some (.dT kvs)) (eb : H b = some (.tup (k.map kV))) : DGet H a (.ref b) (valV kvs k) := .inr ⟨kvs, k, b, .inl e, rfl, eb, rfl⟩
theorem DPut.k {H : Hp} {a : Addr} {kvs : List (Key × V)} {k : Key} {v : V} (e : H a = some (.dK kvs)) (hl : kvs.length < sizeLine) : DPut H a (kV k) v (upd H a (.dK (putK kvs k v))) := .inl ⟨kvs, k, e, rfl, hl, rfl⟩
theorem DPut.t {H : Hp} {a b : Addr} {kvs : List (List Key × V)} {k : List Key} {v : V} (e : H a = some (.dT kvs)) (eb : H b = some (.tup (k.map kV))) (hl : kvs.length < sizeLine) :
    DPut H a (.ref b) v (upd H a (.dT (putK kvs k v))) := .inr ⟨kvs, k, b, e, rfl, eb, hl, rfl⟩


section
variable {X : Cx} {pins : List (Addr × Obj)} {σ : St} {H : Hp} {s : Shared} {a : Addr} {y v : V} {u r : Value} {o : Option V} {A : Around} {E : Value → Shared → Prop}

end

section
variable {X : Cx} {pins : List (Addr × Obj)} {σ : St} {H : Hp} {s : Shared} {a : Addr} {kvs : List (Key × V)} {k : Key} {u : Value} {A : Around} {E : Value → Shared → Prop}
end


/-! ### readings and rules -/
section
variable {X : Cx} {o i e value : Expr} {pos pos' tpos : Pos} {td ty tv : TE}
end


/-! ### displays -/
section
variable {X : Cx} {pos : Pos}
end

/-! ### methods -/
/-- a method call o.m(e) of a built-in, with one argument: what must be seen of the text -/
structure M1 (X : Cx) (o : Expr) (m : Str) (apos : Pos) (e : Expr) (cpos : Pos) : Prop where
  base : attributeBase o m X.env (eval o X.env) = eval o X.env
  few : ((backTo cpos (starEach [e] X.env)).all (fun x => !x.1) && (backToKw cpos (keywordEach [] X.env)).all (fun x => x.1.isSome)
    && decide (([e] : List Expr).length + ([] : List Keyword).length + (if ([] : List Keyword).isEmpty then 0 else 1) < 30)) = true
  line : (apos.endLine == cpos.line) = true
  trees : backTo cpos (starEach [e] X.env) = [(false, eval e X.env)]
structure M2 (X : Cx) (o : Expr) (m : Str) (apos : Pos) (e f : Expr) (cpos : Pos) : Prop where
  base : attributeBase o m X.env (eval o X.env) = eval o X.env
  few : ((backTo cpos (starEach [e, f] X.env)).all (fun x => !x.1) && (backToKw cpos (keywordEach [] X.env)).all (fun x => x.1.isSome)
    && decide (([e, f] : List Expr).length + ([] : List Keyword).length + (if ([] : List Keyword).isEmpty then 0 else 1) < 30)) = true
  line : (apos.endLine == cpos.line) = true
  trees : backTo cpos (starEach [e, f] X.env) = [(false, eval e X.env), (false, eval f X.env)]

/-- a is a dict, whatever its keys -/
def IsD (H : Hp) (a : Addr) : Prop := (∃ kvs, Rd H a (.dK kvs)) ∨ ∃ kvs, Rd H a (.dT kvs)
section
variable {X : Cx} {pins : List (Addr × Obj)} {σ : St} {H : Hp} {s : Shared} {a : Addr} {y d : V} {u r : Value} {o : Option V} {A : Around} {E : Value → Shared → Prop}
end

section
variable {X : Cx} {o e f : Expr} {apos cpos : Pos} {td ty tx : TE}
end

/-! ### dict(d): a copy -/
section
variable {X : Cx} {pins : List (Addr × Obj)} {σ : St} {H : Hp} {s : Shared} {a : Addr} {kvs : List (Key × V)} {A : Around} {E : Value → Shared → Prop}
end


section
variable {X : Cx} {pins : List (Addr × Obj)} {σ : St} {H : Hp} {s : Shared} {a : Addr} {y : V} {u : Value} {A : Around} {E : Value → Shared → Prop}
end
end L2


set_option Elab.async false
set_option linter.all false
set_option maxRecDepth 100000
set_option exponentiation.threshold 2000
/-! Wide numbers under one lid; tables of two pairs as values. -/
namespace Fr
open PySem PySem.Spec L2
open PyProof.Rows hiding St
section
variable {X : Cx}
end
/-! ### tables -/
def MatV (K : PySem.W.Frag) (H : Hp) (v : V) (a b c d : Int) : Prop := ∃ t r1 r2 : Addr, v = .ref t ∧ SqT K H t [.ref r1, .ref r2] ∧ SqT K H r1 [.int a, .int b] ∧ SqT K H r2 [.int c, .int d]
theorem MatV.same {K : PySem.W.Frag} {H H' : Hp} {v : V} {a b c d : Int} (m : MatV K H v a b c d) (e : Same H H') : MatV K H' v a b c d := by
  obtain ⟨t, r1, r2, rfl, h1, h2, h3⟩ := m
  exact ⟨t, r1, r2, rfl, sqT_same e h1, sqT_same e h2, sqT_same e h3⟩
theorem MatV.keep {K : PySem.W.Frag} {H H' : Hp} {v : V} {a b c d : Int} {l : Addr} {zs : List V} (m : MatV K H v a b c d) (hp : H l = some (.lst zs)) (e : Keep l H H') : MatV K H' v a b c d := by
  obtain ⟨t, r1, r2, rfl, h1, h2, h3⟩ := m
  exact ⟨t, r1, r2, rfl, sqT_keep hp e h1, sqT_keep hp e h2, sqT_keep hp e h3⟩
def matD (a b c d : Int) : PyData := .tuple [dat (a, b), dat (c, d)]
theorem MatV.isD {K : PySem.W.Frag} {H : Hp} {v : V} {a b c d : Int} (m : MatV K H v a b c d) : IsD K H v (matD a b c d) := by
  obtain ⟨t, r1, r2, rfl, h1, h2, h3⟩ := m
  exact .tup h1 (.cons (PairV.isD ⟨r1, rfl, h2⟩) (.cons (PairV.isD ⟨r2, rfl, h3⟩) .nil))
/-! ### where a turning leads -/
end Fr

set_option Elab.async false
set_option linter.all false
set_option maxRecDepth 100000
/-! A layer of plain data over the hand layer: tuples, lists, dicts and objects as data; lists, dicts and instances that a def owns change by name. -/
universe u1 u2 u3 u4
namespace Fr
open PySem PySem.Spec L2
/-- a code object's table, as it may stand -/
def TabAt (P : Addr) (h : Heap) : Prop := ∃ ps : Array Value, h.get? P = some { cls := .none, data := .fields ps } ∧ TriplesOk ps.toList
def TabP (P : Addr) : HO := .ext (TabAt P)
end Fr
namespace L3
open PySem PySem.Spec L2

theorem ex4 {α : Sort u1} {β : Sort u2} {γ : Sort u3} {ε : Sort u4} {A B C D : α → β → γ → ε → Prop} {G : Prop} (h : ∃ a b c d, A a b c d ∧ B a b c d ∧ C a b c d ∧ D a b c d) (k : ∀ a b c d, A a b c d → B a b c d → C a b c d → D a b c d → G) : G := by
  obtain ⟨a, b, c, d, h1, h2, h3, h4⟩ := h
  exact k a b c d h1 h2 h3 h4
inductive D where
  | non | bl (b : Bool) | int (i : Int) | str (x : Str) | ty (n : String) | adr (a : Addr)
  | tup (xs : List D) | lst (xs : List D)
  | dT (kvs : List (List Key × D)) | dK (kvs : List (Key × D))
  | obj (C : Addr) (fs : List (Str × D))
  | scr (ns : List Int)
  | exc (C : Addr)
instance : Inhabited D := ⟨.non⟩

theorem m1I {xs : List D} {P : Int → Prop} (h : match xs with
  | [.int j] => P j
  | _ => False) : ∃ j, xs = [.int j] ∧ P j := by
  split at h
  · exact ⟨_, rfl, h⟩
  · exact h.elim
mutual
inductive Rp (K : PySem.W.Frag) (F : Hp) : V → D → Prop
  | non : Rp K F .non .non
  | bl (b : Bool) : Rp K F (.bl b) (.bl b)
  | int (i : Int) : Rp K F (.int i) (.int i)
  | str (x : Str) : Rp K F (.str x) (.str x)
  | ty (n : String) : Rp K F (.ty n) (.ty n)
  | adr (a : Addr) : Rp K F (.ref a) (.adr a)
  | tup {a : Addr} {xs : List V} {ds : List D} : SqT K F a xs → Rps K F xs ds → Rp K F (.ref a) (.tup ds)
  | scr {a : Addr} {ns : List Int} : SqL K F a (ns.map V.int) → Rp K F (.ref a) (.scr ns)
  | lst {a : Addr} {xs : List V} {ds : List D} : F a = some (.lst xs) → Rps K F xs ds → Rp K F (.ref a) (.lst ds)
  | dT {a : Addr} {kvs : List (List Key × V)} {dvs : List (List Key × D)} : F a = some (.dT kvs) → kvs.map (·.1) = dvs.map (·.1) → Rps K F (kvs.map (·.2)) (dvs.map (·.2)) → Rp K F (.ref a) (.dT dvs)
  | dK {a : Addr} {kvs : List (Key × V)} {dvs : List (Key × D)} : F a = some (.dK kvs) → kvs.map (·.1) = dvs.map (·.1) → Rps K F (kvs.map (·.2)) (dvs.map (·.2)) → Rp K F (.ref a) (.dK dvs)
  | exc {a C : Addr} : F a = some (Fr.ExcO a C) → Rp K F (.ref a) (.exc C)
  | obj {a C dx : Addr} {fs : List (Str × V)} {dfs : List (Str × D)} : F a = some (.ins C dx fs) → fs.map (·.1) = dfs.map (·.1) → Rps K F (fs.map (·.2)) (dfs.map (·.2)) → Rp K F (.ref a) (.obj C dfs)
inductive Rps (K : PySem.W.Frag) (F : Hp) : List V → List D → Prop
  | nil : Rps K F [] []
  | cons {x : V} {d : D} {xs : List V} {ds : List D} : Rp K F x d → Rps K F xs ds → Rps K F (x :: xs) (d :: ds)
end
section
variable {K : PySem.W.Frag} {F F' : Hp}
mutual
theorem Rp.same (s : Same F F') : ∀ {v : V} {d : D}, Rp K F v d → Rp K F' v d
  | _, _, .non => .non
  | _, _, .bl b => .bl b
  | _, _, .int i => .int i
  | _, _, .str x => .str x
  | _, _, .ty n => .ty n
  | _, _, .adr a => .adr a
  | _, _, .tup h r => .tup (Fr.sqT_same s h) (Rps.same s r)
  | _, _, .lst h r => .lst (s _ _ h) (Rps.same s r)
  | _, _, .scr h => .scr (s.seq h)
  | _, _, .dT h e r => .dT (s _ _ h) e (Rps.same s r)
  | _, _, .dK h e r => .dK (s _ _ h) e (Rps.same s r)
  | _, _, .obj h e r => .obj (s _ _ h) e (Rps.same s r)
  | _, _, .exc h => .exc (s _ _ h)
theorem Rps.same (s : Same F F') : ∀ {vs : List V} {ds : List D}, Rps K F vs ds → Rps K F' vs ds
  | _, _, .nil => .nil
  | _, _, .cons h r => .cons (Rp.same s h) (Rps.same s r)
end
theorem Rp.inv_int {v : V} {i : Int} (h : Rp K F v (.int i)) : v = .int i := by cases h; rfl
theorem Rp.inv_bl {v : V} {b : Bool} (h : Rp K F v (.bl b)) : v = .bl b := by cases h; rfl
theorem Rp.inv_str {v : V} {x : Str} (h : Rp K F v (.str x)) : v = .str x := by cases h; rfl
theorem Rp.inv_non {v : V} (h : Rp K F v .non) : v = .non := by cases h; rfl
theorem Rp.inv_ty {v : V} {n : String} (h : Rp K F v (.ty n)) : v = .ty n := by cases h; rfl
theorem Rp.inv_tup {v : V} {ds : List D} (h : Rp K F v (.tup ds)) : ∃ a xs, v = .ref a ∧ SqT K F a xs ∧ Rps K F xs ds := by
  cases h with
  | tup h r => exact ⟨_, _, rfl, h, r⟩
theorem Rp.inv_lst {v : V} {ds : List D} (h : Rp K F v (.lst ds)) : ∃ a xs, v = .ref a ∧ F a = some (.lst xs) ∧ Rps K F xs ds := by
  cases h with
  | lst h r => exact ⟨_, _, rfl, h, r⟩
theorem Rp.inv_scr {v : V} {ns : List Int} (h : Rp K F v (.scr ns)) : ∃ a, v = .ref a ∧ SqL K F a (ns.map V.int) := by
  cases h with
  | scr h => exact ⟨_, rfl, h⟩
theorem Rps.inv_nil {vs : List V} (h : Rps K F vs []) : vs = [] := by cases h; rfl
theorem Rps.inv_cons {vs : List V} {d : D} {ds : List D} (h : Rps K F vs (d :: ds)) : ∃ v us, vs = v :: us ∧ Rp K F v d ∧ Rps K F us ds := by
  cases h with
  | cons h r => exact ⟨_, _, rfl, h, r⟩
theorem Rps.inv1 {vs : List V} {d : D} (h : Rps K F vs [d]) : ∃ v, vs = [v] ∧ Rp K F v d := by
  obtain ⟨v, us, rfl, h1, h2⟩ := h.inv_cons
  exact ⟨v, by rw [h2.inv_nil], h1⟩
theorem Rps.inv2 {vs : List V} {d e : D} (h : Rps K F vs [d, e]) : ∃ v u, vs = [v, u] ∧ Rp K F v d ∧ Rp K F u e := by
  obtain ⟨v, us, rfl, h1, h2⟩ := h.inv_cons
  obtain ⟨u, rfl, h3⟩ := h2.inv1
  exact ⟨v, u, rfl, h1, h3⟩
theorem Rps.len : ∀ {vs : List V} {ds : List D}, Rps K F vs ds → vs.length = ds.length
  | _, _, .nil => rfl
  | _, _, .cons _ r => by simp [Rps.len r]
theorem Rps.append : ∀ {vs us : List V} {ds es : List D}, Rps K F vs ds → Rps K F us es → Rps K F (vs ++ us) (ds ++ es)
  | _, _, _, _, .nil, s => s
  | _, _, _, _, .cons h r, s => .cons h (Rps.append r s)
theorem Rps.one {v : V} {d : D} (h : Rp K F v d) : Rps K F [v] [d] := .cons h .nil
theorem Rps.at : ∀ {vs : List V} {ds : List D} {i : Nat} {d : D}, Rps K F vs ds → ds[i]? = some d → ∃ v, vs[i]? = some v ∧ Rp K F v d
  | _, _, _, _, .nil, e => by simp at e
  | _, _, 0, _, .cons h _, e => by simp at e; subst e; exact ⟨_, rfl, h⟩
  | _, _, i + 1, d, .cons _ r, e => by
    obtain ⟨v, h1, h2⟩ := Rps.at (i := i) (d := d) r (by simpa using e)
    exact ⟨v, by simpa using h1, h2⟩
theorem Rps.at' : ∀ {vs : List V} {ds : List D} {i : Nat} {v : V}, Rps K F vs ds → vs[i]? = some v → ∃ d, ds[i]? = some d ∧ Rp K F v d
  | _, _, _, _, .nil, e => by simp at e
  | _, _, 0, _, .cons h _, e => by simp at e; subst e; exact ⟨_, rfl, h⟩
  | _, _, i + 1, d, .cons _ r, e => by
    obtain ⟨v, h1, h2⟩ := Rps.at' (i := i) (v := d) r (by simpa using e)
    exact ⟨v, by simpa using h1, h2⟩
theorem Rps.set {v : V} {d : D} (h : Rp K F v d) : ∀ {vs : List V} {ds : List D} (i : Nat), Rps K F vs ds → Rps K F (vs.set i v) (ds.set i d)
  | _, _, _, .nil => .nil
  | _, _, 0, .cons _ r => .cons h r
  | _, _, i + 1, .cons q r => .cons q (Rps.set h i r)
theorem Rps.take : ∀ {vs : List V} {ds : List D} (n : Nat), Rps K F vs ds → Rps K F (vs.take n) (ds.take n)
  | _, _, 0, _ => .nil
  | _, _, _ + 1, .nil => .nil
  | _, _, n + 1, .cons r t => .cons r (Rps.take n t)
theorem Rps.drop : ∀ {vs : List V} {ds : List D} (n : Nat), Rps K F vs ds → Rps K F (vs.drop n) (ds.drop n)
  | _, _, 0, r => r
  | _, _, _ + 1, .nil => .nil
  | _, _, n + 1, .cons _ t => Rps.drop n t
theorem Rps.reverse : ∀ {vs : List V} {ds : List D}, Rps K F vs ds → Rps K F vs.reverse ds.reverse
  | _, _, .nil => .nil
  | _, _, .cons h r => by
    rw [List.reverse_cons, List.reverse_cons]
    exact (Rps.reverse r).append (.one h)
end

/-- what a def owns -/
inductive Ob where
  | lst (xs : List D) | dT (kvs : List (List Key × D)) | dK (kvs : List (Key × D)) | ins (C : Addr) (fs : List (Str × D)) | pu
/-- what a name stands for -/
inductive Sl where
  | un | d (x : D) | own (o : Ob) | bor (o : Ob)
/-- a value of an expression -/
inductive Rv where
  | d (x : D) | own (o : Ob)
def Ob.frz : Ob → Option D
  | .lst xs => some (.lst xs)
  | .dT kvs => some (.dT kvs)
  | .dK kvs => some (.dK kvs)
  | .ins C fs => some (.obj C fs)
  | .pu => none
def Rv.frz : Rv → Option D
  | .d x => some x
  | .own o => o.frz
def Rv.sl : Rv → Sl
  | .d x => .d x
  | .own o => .own o
def OwnOk (K : PySem.W.Frag) (F H : Hp) (a : Addr) : Ob → Prop
  | .lst xs => ∃ vs, H a = some (.lst vs) ∧ Rps K F vs xs
  | .dT dvs => ∃ kvs : List (List Key × V), H a = some (.dT kvs) ∧ kvs.map (·.1) = dvs.map (·.1) ∧ Rps K F (kvs.map (·.2)) (dvs.map (·.2))
  | .dK dvs => ∃ kvs : List (Key × V), H a = some (.dK kvs) ∧ kvs.map (·.1) = dvs.map (·.1) ∧ Rps K F (kvs.map (·.2)) (dvs.map (·.2))
  | .ins C dfs => ∃ (dx : Addr) (fs : List (Str × V)), H a = some (.ins C dx fs) ∧ fs.map (·.1) = dfs.map (·.1) ∧ Rps K F (fs.map (·.2)) (dfs.map (·.2))
  | .pu => ∃ x y : Int, H a = some (.lst [.int x, .int y]) ∧ 0 ≤ x
theorem OwnOk.there {K : PySem.W.Frag} {F H : Hp} {a : Addr} {o : Ob} (h : OwnOk K F H a o) : ∃ ho, H a = some ho := by
  cases o with
  | lst xs => obtain ⟨vs, e, _⟩ := h; exact ⟨_, e⟩
  | dT kvs => obtain ⟨vs, e, _⟩ := h; exact ⟨_, e⟩
  | dK kvs => obtain ⟨vs, e, _⟩ := h; exact ⟨_, e⟩
  | ins C fs => obtain ⟨dx, vs, e, _⟩ := h; exact ⟨_, e⟩
  | pu => obtain ⟨x, y, e, _⟩ := h; exact ⟨_, e⟩
theorem OwnOk.same {K : PySem.W.Frag} {F F' H H' : Hp} {a : Addr} {o : Ob} (h : OwnOk K F H a o) (s : Same F F') (e : H' a = H a) : OwnOk K F' H' a o := by
  cases o with
  | lst xs => obtain ⟨vs, e1, r⟩ := h; exact ⟨vs, e.trans e1, r.same s⟩
  | dT kvs => obtain ⟨vs, e1, k, r⟩ := h; exact ⟨vs, e.trans e1, k, r.same s⟩
  | dK kvs => obtain ⟨vs, e1, k, r⟩ := h; exact ⟨vs, e.trans e1, k, r.same s⟩
  | ins C fs => obtain ⟨dx, vs, e1, k, r⟩ := h; exact ⟨dx, vs, e.trans e1, k, r.same s⟩
  | pu => obtain ⟨x, y, e1, p⟩ := h; exact ⟨x, y, e.trans e1, p⟩
theorem OwnOk.frz {K : PySem.W.Frag} {F H : Hp} {a : Addr} {o : Ob} {x : D} (h : OwnOk K F H a o) (e : o.frz = some x) (n : F a = none) : ∃ ho, H a = some ho ∧ Rp K (upd F a ho) (.ref a) x := by
  have s : ∀ ho, Same F (upd F a ho) := fun ho => Fr.Same.new n
  cases o with
  | lst xs => obtain ⟨vs, e1, r⟩ := h; cases e; exact ⟨_, e1, .lst upd_same (r.same (s _))⟩
  | dT kvs => obtain ⟨vs, e1, k, r⟩ := h; cases e; exact ⟨_, e1, .dT upd_same k (r.same (s _))⟩
  | dK kvs => obtain ⟨vs, e1, k, r⟩ := h; cases e; exact ⟨_, e1, .dK upd_same k (r.same (s _))⟩
  | ins C fs => obtain ⟨dx, vs, e1, k, r⟩ := h; cases e; exact ⟨_, e1, .obj upd_same k (r.same (s _))⟩
  | pu => cases e
def SlOk (K : PySem.W.Frag) (H0 : Hp) (B : Option Addr) (F H : Hp) (sv : Option (Option V)) : Sl → Prop
  | .un => True
  | .d x => ∃ v, sv = some (some v) ∧ Rp K F v x
  | .own o => ∃ a, sv = some (some (.ref a)) ∧ F a = none ∧ H0 a = none ∧ OwnOk K F H a o
  | .bor o => ∃ a, sv = some (some (.ref a)) ∧ B = some a ∧ F a = none ∧ OwnOk K F H a o
/-- the table of the code of the def whose generator is walked -/
def TabIn (K : PySem.W.Frag) (P : Addr) : Prop := ∃ (f c : Addr) (o oc : Obj) (fd : FuncData) (vs : Array Value), PySem.W.nsIn K mainGlobals "is_number_text" = some (some (.ref f)) ∧ K.lookup f = some o ∧ o.data = .func fd ∧ fd.code = .ref c ∧ K.lookup c = some oc ∧ oc.data = .fields vs ∧ vs[11]? = some (.ref P)
/-- it is known to the heap -/
def Tb (K : PySem.W.Frag) (F : Hp) : Prop := ∀ P, TabIn K P → F P = some (Fr.TabP P)
theorem Tb.same {K : PySem.W.Frag} {F F' : Hp} (h : Tb K F) (s : Same F F') : Tb K F' := fun P t => s _ _ (h P t)
theorem Tb.none {K : PySem.W.Frag} {F : Hp} (h : PySem.W.nsIn K mainGlobals "is_number_text" = some none) : Tb K F := fun P ⟨f, _, _, _, _, _, e, _⟩ => by rw [h] at e; cases e
/-- the state: F: what is data; F0, H0: at the entry; B: what is lent by the caller -/
structure Lk (K : PySem.W.Frag) (F0 H0 : Hp) (B : Option Addr) (σ : St) (δ : List Sl) (F H : Hp) : Prop where
  fh : Same F H
  f0 : Same F0 F
  h0 : ∀ a o, H0 a = some o → B ≠ some a → H a = some o
  ff : ∀ a, H0 a ≠ none → F a = F0 a
  bt : ∀ b, B = some b → H0 b ≠ none ∧ H b ≠ none
  len : δ.length = σ.length
  sl : ∀ (i : Nat) (s : Sl), δ[i]? = some s → SlOk K H0 B F H (σ[i]?) s
  ne : ∀ (i j : Nat) (o o' : Ob), δ[i]? = some (.own o) → δ[j]? = some (.own o') → σ[i]? = σ[j]? → i = j
  nb : ∀ (i j : Nat) (o o' : Ob), δ[i]? = some (.bor o) → δ[j]? = some (.bor o') → i = j
  tb : Tb K F0
def Rok (K : PySem.W.Frag) (H0 F H : Hp) (σ : St) (δ : List Sl) (r : Rv) (v : V) : Prop :=
  match r with
  | .d x => Rp K F v x
  | .own o => ∃ a, v = .ref a ∧ F a = none ∧ H0 a = none ∧ OwnOk K F H a o ∧ ∀ (i : Nat) (o' : Ob), δ[i]? = some (Sl.own o') → σ[i]? ≠ some (some (V.ref a))
section
variable {K : PySem.W.Frag} {F0 H0 F H F' H' : Hp} {B : Option Addr} {σ : St} {δ : List Sl}
theorem Lk.tbF (L : Lk K F0 H0 B σ δ F H) : Tb K F := L.tb.same L.f0
theorem Lk.tbH (L : Lk K F0 H0 B σ δ F H) : Tb K H := L.tbF.same L.fh
theorem Lk.nn (L : Lk K F0 H0 B σ δ F H) {a : Addr} (h : H0 a ≠ none) : H a ≠ none := by
  by_cases b : B = some a
  · exact (L.bt a b).2
  · cases e : H0 a with
    | none => exact absurd e h
    | some o => rw [L.h0 a o e b]; exact fun z => by cases z
theorem Lk.fr0 (L : Lk K F0 H0 B σ δ F H) {a : Addr} (h : H a = none) : H0 a = none ∧ F a = none := by
  constructor
  · cases e : H0 a with
    | none => rfl
    | some o => exact absurd h (L.nn (by rw [e]; intro z; cases z))
  · exact L.fh.free h
/-- the heap grows -/
theorem Lk.grow (L : Lk K F0 H0 B σ δ F H) (s1 : Same F F') (s2 : Same F' H') (s3 : Same H H') (nf : ∀ a, H a ≠ none → F' a = F a) : Lk K F0 H0 B σ δ F' H' := by
  refine ⟨s2, L.f0.trans s1, fun a o e b => s3 _ _ (L.h0 a o e b), fun a h => (nf a (L.nn h)).trans (L.ff a h), fun b e => ⟨(L.bt b e).1, ?_⟩, L.len, fun i s e => ?_, L.ne, L.nb, L.tb⟩
  · cases q : H b with
    | none => exact absurd q (L.bt b e).2
    | some o => rw [s3 _ _ q]; exact fun z => by cases z
  · have q := L.sl i s e
    cases s with
    | un => trivial
    | d x => obtain ⟨v, e1, r⟩ := q; exact ⟨v, e1, r.same s1⟩
    | own o =>
      obtain ⟨a, e1, f, h, w⟩ := q
      obtain ⟨ho, eh⟩ := w.there
      exact ⟨a, e1, by rw [nf a (by rw [eh]; intro z; cases z)]; exact f, h, w.same s1 (by rw [eh]; exact s3 _ _ eh)⟩
    | bor o =>
      obtain ⟨a, e1, b, f, w⟩ := q
      obtain ⟨ho, eh⟩ := w.there
      exact ⟨a, e1, b, by rw [nf a (by rw [eh]; intro z; cases z)]; exact f, w.same s1 (by rw [eh]; exact s3 _ _ eh)⟩
theorem getS {α : Type} {l : List α} {i j : Nat} {x y : α} (h : (l.set i x)[j]? = some y) : (i = j ∧ y = x ∧ i < l.length) ∨ (i ≠ j ∧ l[j]? = some y) := by
  rw [List.getElem?_set] at h
  by_cases e : i = j
  · rw [if_pos e] at h
    split at h
    · cases h; exact .inl ⟨e, rfl, by assumption⟩
    · cases h
  · rw [if_neg e] at h
    exact .inr ⟨e, h⟩
theorem nb_set {δ : List Sl} {i : Nat} {s : Sl} (h : ∀ (i j : Nat) (o o' : Ob), δ[i]? = some (.bor o) → δ[j]? = some (.bor o') → i = j) (n : ∀ o, s ≠ .bor o) : ∀ (j k : Nat) (o o' : Ob), (δ.set i s)[j]? = some (.bor o) → (δ.set i s)[k]? = some (.bor o') → j = k := by
  intro j k o o' e1 e2
  rcases getS e1 with ⟨_, z, _⟩ | ⟨_, e1⟩
  · exact absurd z.symm (n o)
  · rcases getS e2 with ⟨_, z, _⟩ | ⟨_, e2⟩
    · exact absurd z.symm (n o')
    · exact h j k o o' e1 e2
theorem Lk.set {i : Nat} {v : V} {x : D} (L : Lk K F0 H0 B σ δ F H) (r : Rp K F v x) : Lk K F0 H0 B (σ.set i (some v)) (δ.set i (.d x)) F H := by
  refine ⟨L.fh, L.f0, L.h0, L.ff, L.bt, by simp [L.len], fun j s e => ?_, fun j k o o' e1 e2 e3 => ?_, nb_set L.nb (fun _ z => by cases z), L.tb⟩
  · rcases getS e with ⟨rfl, rfl, lt⟩ | ⟨n, e⟩
    · exact ⟨v, by rw [List.getElem?_set_self (by rw [← L.len]; exact lt)], r⟩
    · have := L.sl j s e
      rwa [List.getElem?_set_ne n]
  · rcases getS e1 with ⟨_, z, _⟩ | ⟨n1, e1⟩
    · cases z
    · rcases getS e2 with ⟨_, z, _⟩ | ⟨n2, e2⟩
      · cases z
      · rw [List.getElem?_set_ne n1, List.getElem?_set_ne n2] at e3
        exact L.ne j k o o' e1 e2 e3
theorem Lk.setR {i : Nat} {v : V} {r : Rv} (L : Lk K F0 H0 B σ δ F H) (k : Rok K H0 F H σ δ r v) : Lk K F0 H0 B (σ.set i (some v)) (δ.set i r.sl) F H := by
  cases r with
  | d x => exact L.set k
  | own o =>
    obtain ⟨a, rfl, f, h, w, ap⟩ := k
    refine ⟨L.fh, L.f0, L.h0, L.ff, L.bt, by simp [L.len], fun j s e => ?_, fun j k o1 o2 e1 e2 e3 => ?_, nb_set L.nb (fun _ z => by cases z), L.tb⟩
    · rcases getS e with ⟨rfl, rfl, lt⟩ | ⟨n, e⟩
      · exact ⟨a, by rw [List.getElem?_set_self (by rw [← L.len]; exact lt)], f, h, w⟩
      · have := L.sl j s e
        rwa [List.getElem?_set_ne n]
    · rcases getS e1 with ⟨rfl, z, lt⟩ | ⟨n1, e1⟩
      · rcases getS e2 with ⟨rfl, z2, _⟩ | ⟨n2, e2⟩
        · rfl
        · rw [List.getElem?_set_self (by rw [← L.len]; exact lt), List.getElem?_set_ne n2] at e3
          exact absurd e3.symm (ap k o2 e2)
      · rcases getS e2 with ⟨rfl, z2, lt⟩ | ⟨n2, e2⟩
        · rw [List.getElem?_set_self (by rw [← L.len]; exact lt), List.getElem?_set_ne n1] at e3
          exact absurd e3 (ap j o1 e1)
        · rw [List.getElem?_set_ne n1, List.getElem?_set_ne n2] at e3
          exact L.ne j k o1 o2 e1 e2 e3
/-- what was owned becomes data -/
theorem Lk.froz {i : Nat} {o : Ob} {x : D} (L : Lk K F0 H0 B σ δ F H) (e : δ[i]? = some (.own o)) (f : o.frz = some x) : ∃ F' v, Lk K F0 H0 B σ (δ.set i (.d x)) F' H ∧ Same F F' ∧ σ[i]? = some (some v) ∧ Rp K F' v x := by
  obtain ⟨a, e1, fn, hn, w⟩ := L.sl i _ e
  obtain ⟨ho, eh, r⟩ := w.frz f fn
  have sf : Same F (upd F a ho) := Fr.Same.new fn
  refine ⟨upd F a ho, .ref a, ⟨fun b u q => ?_, L.f0.trans sf, L.h0, fun b q => ?_, L.bt, by simp [L.len], fun j s ej => ?_, fun j k o1 o2 e1 e2 e3 => ?_, nb_set L.nb (fun _ z => by cases z), L.tb⟩, sf, e1, r⟩
  · by_cases hb : b = a
    · subst hb; rw [upd_same] at q; cases q; exact eh
    · rw [upd_ne hb] at q; exact L.fh _ _ q
  · have : b ≠ a := by rintro rfl; exact q hn
    rw [upd_ne this]; exact L.ff b q
  · rcases getS ej with ⟨rfl, rfl, lt⟩ | ⟨n, ej⟩
    · exact ⟨_, e1, r⟩
    · have q := L.sl j s ej
      cases s with
      | un => trivial
      | d y => obtain ⟨v, e2, r2⟩ := q; exact ⟨v, e2, r2.same sf⟩
      | own o' =>
        obtain ⟨b, e2, f2, h2, w2⟩ := q
        have nb : b ≠ a := by
          rintro rfl
          exact n (L.ne i j o o' e ej (by rw [e1, e2]))
        exact ⟨b, e2, by rw [upd_ne nb]; exact f2, h2, w2.same sf rfl⟩
      | bor o' =>
        obtain ⟨b, e2, b2, f2, w2⟩ := q
        have nb : b ≠ a := by rintro rfl; exact (L.bt b b2).1 hn
        exact ⟨b, e2, b2, by rw [upd_ne nb]; exact f2, w2.same sf rfl⟩
  · rcases getS e1 with ⟨_, z, _⟩ | ⟨n1, e1⟩
    · cases z
    · rcases getS e2 with ⟨_, z, _⟩ | ⟨n2, e2⟩
      · cases z
      · exact L.ne j k o1 o2 e1 e2 e3
/-- what is owned changes -/
theorem Lk.mut {i : Nat} {o o' : Ob} {a : Addr} {ho : HO} (L : Lk K F0 H0 B σ δ F H) (e : δ[i]? = some (.own o)) (ea : σ[i]? = some (some (.ref a))) (w : OwnOk K F (upd H a ho) a o') : Lk K F0 H0 B σ (δ.set i (.own o')) F (upd H a ho) := by
  obtain ⟨a', e1, fn, hn, w0⟩ := L.sl i _ e
  rw [ea] at e1; cases e1
  have up : ∀ b, b ≠ a → upd H a ho b = H b := fun b n => upd_ne n
  refine ⟨fun b u q => ?_, L.f0, fun b u q1 q2 => ?_, L.ff, fun b q => ⟨(L.bt b q).1, ?_⟩, by simp [L.len], fun j s ej => ?_, fun j k o1 o2 e1 e2 e3 => ?_, nb_set L.nb (fun _ z => by cases z), L.tb⟩
  · have : b ≠ a := by rintro rfl; rw [fn] at q; cases q
    rw [up b this]; exact L.fh _ _ q
  · have : b ≠ a := by rintro rfl; rw [hn] at q1; cases q1
    rw [up b this]; exact L.h0 b u q1 q2
  · have : b ≠ a := by rintro rfl; exact (L.bt b q).1 hn
    rw [up b this]; exact (L.bt b q).2
  · rcases getS ej with ⟨rfl, rfl, lt⟩ | ⟨n, ej⟩
    · exact ⟨a, ea, fn, hn, w⟩
    · have q := L.sl j s ej
      cases s with
      | un => trivial
      | d y => exact q
      | own o3 =>
        obtain ⟨b, e2, f2, h2, w2⟩ := q
        have nb : b ≠ a := by
          rintro rfl
          exact n (L.ne i j o o3 e ej (by rw [ea, e2]))
        exact ⟨b, e2, f2, h2, w2.same (Same.refl _) (up b nb)⟩
      | bor o3 =>
        obtain ⟨b, e2, b2, f2, w2⟩ := q
        have nb : b ≠ a := by rintro rfl; exact (L.bt b b2).1 hn
        exact ⟨b, e2, b2, f2, w2.same (Same.refl _) (up b nb)⟩
  · rcases getS e1 with ⟨rfl, z, _⟩ | ⟨n1, e1⟩
    · rcases getS e2 with ⟨rfl, z2, _⟩ | ⟨n2, e2⟩
      · rfl
      · exact L.ne i k o o2 e e2 e3
    · rcases getS e2 with ⟨rfl, z2, _⟩ | ⟨n2, e2⟩
      · exact L.ne j i o1 o e1 e e3
      · exact L.ne j k o1 o2 e1 e2 e3
theorem Lk.mutB {i : Nat} {o o' : Ob} {a : Addr} {ho : HO} (L : Lk K F0 H0 B σ δ F H) (e : δ[i]? = some (.bor o)) (ea : σ[i]? = some (some (.ref a))) (w : OwnOk K F (upd H a ho) a o') :
    Lk K F0 H0 B σ (δ.set i (.bor o')) F (upd H a ho) := by
  obtain ⟨a', e1, hB, fn, w0⟩ := L.sl i _ e
  rw [ea] at e1; cases e1
  have up : ∀ b, b ≠ a → upd H a ho b = H b := fun b n => upd_ne n
  have hn := (L.bt a hB).1
  refine ⟨fun b u q => ?_, L.f0, fun b u q1 q2 => ?_, L.ff, fun b q => ⟨(L.bt b q).1, ?_⟩, by simp [L.len], fun j s ej => ?_, fun j k o1 o2 e1 e2 e3 => ?_, fun j k o1 o2 e1 e2 => ?_, L.tb⟩
  · have : b ≠ a := by rintro rfl; rw [fn] at q; cases q
    rw [up b this]; exact L.fh _ _ q
  · have : b ≠ a := by rintro rfl; exact q2 hB
    rw [up b this]; exact L.h0 b u q1 q2
  · by_cases hb : b = a
    · subst hb; rw [upd_same]; intro z; cases z
    · rw [up b hb]; exact (L.bt b q).2
  · rcases getS ej with ⟨rfl, rfl, lt⟩ | ⟨n, ej⟩
    · exact ⟨a, ea, hB, fn, w⟩
    · have q := L.sl j s ej
      cases s with
      | un => trivial
      | d y => exact q
      | own o3 =>
        obtain ⟨b, e2, f2, h2, w2⟩ := q
        have nb : b ≠ a := by rintro rfl; exact hn h2
        exact ⟨b, e2, f2, h2, w2.same (Same.refl _) (up b nb)⟩
      | bor o3 => exact absurd (L.nb i j o o3 e ej) n
  · rcases getS e1 with ⟨rfl, z, _⟩ | ⟨n1, e1⟩
    · cases z
    · rcases getS e2 with ⟨rfl, z2, _⟩ | ⟨n2, e2⟩
      · cases z2
      · exact L.ne j k o1 o2 e1 e2 e3
  · rcases getS e1 with ⟨rfl, z, _⟩ | ⟨n1, e1⟩
    · rcases getS e2 with ⟨rfl, z2, _⟩ | ⟨n2, e2⟩
      · rfl
      · exact L.nb i k o o2 e e2
    · rcases getS e2 with ⟨rfl, z2, _⟩ | ⟨n2, e2⟩
      · exact L.nb j i o1 o e1 e
      · exact L.nb j k o1 o2 e1 e2
/-- a new object that is owned -/
theorem Lk.newO {p : Addr} {ho : HO} {o : Ob} (L : Lk K F0 H0 B σ δ F H) (hp : H p = none) (w : OwnOk K F (upd H p ho) p o) : Lk K F0 H0 B σ δ F (upd H p ho) ∧ Rok K H0 F (upd H p ho) σ δ (.own o) (.ref p) := by
  have s := Fr.Same.new (o := ho) hp
  refine ⟨L.grow (Same.refl _) (L.fh.trans s) s fun _ _ => rfl, p, rfl, (L.fr0 hp).2, (L.fr0 hp).1, w, fun i o' e z => ?_⟩
  obtain ⟨a, e1, _, _, w'⟩ := L.sl i _ e
  rw [z] at e1; cases e1
  obtain ⟨ho, eh⟩ := w'.there
  rw [hp] at eh; cases eh
/-- a new object that is data -/
theorem Lk.newD {p : Addr} {ho : HO} (L : Lk K F0 H0 B σ δ F H) (hp : H p = none) : Lk K F0 H0 B σ δ (upd F p ho) (upd H p ho) ∧ Same F (upd F p ho) := by
  have s := Fr.Same.new (o := ho) hp
  have sf : Same F (upd F p ho) := Fr.Same.new (L.fr0 hp).2
  refine ⟨L.grow sf (fun b u q => ?_) s fun a h => ?_, sf⟩
  · by_cases hb : b = p
    · subst hb; rw [upd_same] at q ⊢; exact q
    · rw [upd_ne hb] at q ⊢; exact L.fh _ _ q
  · have : a ≠ p := by rintro rfl; exact h hp
    rw [upd_ne this]
/-- an owned temporary becomes data -/
theorem Lk.thaw {r : Rv} {v : V} {x : D} (L : Lk K F0 H0 B σ δ F H) (k : Rok K H0 F H σ δ r v) (e : r.frz = some x) : ∃ F', Lk K F0 H0 B σ δ F' H ∧ Same F F' ∧ Rp K F' v x := by
  cases r with
  | d y => cases e; exact ⟨F, L, Same.refl _, k⟩
  | own o =>
    obtain ⟨a, rfl, fn, hn, w, ap⟩ := k
    obtain ⟨ho, eh, r⟩ := w.frz e fn
    have sf : Same F (upd F a ho) := Fr.Same.new fn
    refine ⟨upd F a ho, ⟨fun b u q => ?_, L.f0.trans sf, L.h0, fun b q => ?_, L.bt, L.len, fun j s ej => ?_, L.ne, L.nb, L.tb⟩, sf, r⟩
    · by_cases hb : b = a
      · subst hb; rw [upd_same] at q; cases q; exact eh
      · rw [upd_ne hb] at q; exact L.fh _ _ q
    · have : b ≠ a := by rintro rfl; exact q hn
      rw [upd_ne this]; exact L.ff b q
    · have q := L.sl j s ej
      cases s with
      | un => trivial
      | d y => obtain ⟨v, e2, r2⟩ := q; exact ⟨v, e2, r2.same sf⟩
      | own o' =>
        obtain ⟨b, e2, f2, h2, w2⟩ := q
        have nb : b ≠ a := by rintro rfl; exact ap j o' ej e2
        exact ⟨b, e2, by rw [upd_ne nb]; exact f2, h2, w2.same sf rfl⟩
      | bor o' =>
        obtain ⟨b, e2, b2, f2, w2⟩ := q
        have nb : b ≠ a := by rintro rfl; exact (L.bt b b2).1 hn
        exact ⟨b, e2, b2, by rw [upd_ne nb]; exact f2, w2.same sf rfl⟩
end
end L3

set_option Elab.async false
set_option linter.all false
set_option maxRecDepth 100000
/-! The judgements over data, and the plain rules. -/
namespace L3
open PySem PySem.Spec L2

abbrev Zk := Addr → List Sl → Prop
abbrev T3E := Zk → List Sl → (Rv → List Sl → Prop) → Prop
abbrev T3D := Zk → List Sl → (D → List Sl → Prop) → Prop
abbrev T3T := Zk → List Sl → (Bool → List Sl → Prop) → Prop
abbrev T3A := Zk → List Sl → (List D → List Sl → Prop) → Prop
structure En where
  nx : List Sl → Prop
  rt : Rv → List Sl → Prop
  bk : List Sl → Prop := fun _ => False
  ct : List Sl → Prop := fun _ => False
abbrev T3S := Zk → En → List Sl → Prop

def ZOk (K : PySem.W.Frag) (E : XK) (F0 H0 : Hp) (B : Option Addr) (Z : Zk) : Prop := ∀ C σ δ F H, Lk K F0 H0 B σ δ F H → Z C δ → E (.ref C) none H
section
variable (K : PySem.W.Frag) (E : XK) (F0 H0 : Hp) (B : Option Addr)
def LE (t : T3E) : TE := fun σ H Q => ∃ δ F Z P, Lk K F0 H0 B σ δ F H ∧ ZOk K E F0 H0 B Z ∧ t Z δ P ∧ ∀ r δ' v F' H', P r δ' → Lk K F0 H0 B σ δ' F' H' → Same F F' → Rok K H0 F' H' σ δ' r v → Q v H'
def LD (t : T3D) : TE := fun σ H Q => ∃ δ F Z P, Lk K F0 H0 B σ δ F H ∧ ZOk K E F0 H0 B Z ∧ t Z δ P ∧ ∀ x δ' v F' H', P x δ' → Lk K F0 H0 B σ δ' F' H' → Same F F' → Rp K F' v x → Q v H'
def LT (t : T3T) : TT := fun σ H Q => ∃ δ F Z P, Lk K F0 H0 B σ δ F H ∧ ZOk K E F0 H0 B Z ∧ t Z δ P ∧ ∀ b δ' F' H', P b δ' → Lk K F0 H0 B σ δ' F' H' → Same F F' → Q b H'
def LA (t : T3A) : TA := fun σ H Q => ∃ δ F Z P, Lk K F0 H0 B σ δ F H ∧ ZOk K E F0 H0 B Z ∧ t Z δ P ∧ ∀ xs δ' vs F' H', P xs δ' → Lk K F0 H0 B σ δ' F' H' → Same F F' → Rps K F' vs xs → Q vs H'
structure EnOk (Fb : Hp) (En : En) (Dn : Ends) : Prop where
  nx : ∀ σ δ F H, En.nx δ → Lk K F0 H0 B σ δ F H → Same Fb F → Dn.nx σ H
  rt : ∀ r v σ δ F H, En.rt r δ → Lk K F0 H0 B σ δ F H → Same Fb F → Rok K H0 F H σ δ r v → Dn.rt v H
  bk : ∀ σ δ F H, En.bk δ → Lk K F0 H0 B σ δ F H → Same Fb F → Dn.bk σ H
  ct : ∀ σ δ F H, En.ct δ → Lk K F0 H0 B σ δ F H → Same Fb F → Dn.ct σ H
theorem EnOk.up {K : PySem.W.Frag} {F0 H0 Fb Fb' : Hp} {B : Option Addr} {En : En} {Dn : Ends} (h : EnOk K F0 H0 B Fb En Dn) (s : Same Fb Fb') : EnOk K F0 H0 B Fb' En Dn :=
  ⟨fun σ δ F H p L s' => h.nx σ δ F H p L (s.trans s'), fun r v σ δ F H p L s' k => h.rt r v σ δ F H p L (s.trans s') k, fun σ δ F H p L s' => h.bk σ δ F H p L (s.trans s'), fun σ δ F H p L s' => h.ct σ δ F H p L (s.trans s')⟩
def LS (t : T3S) : TS := fun Dn σ H => ∃ δ F Z En, Lk K F0 H0 B σ δ F H ∧ ZOk K E F0 H0 B Z ∧ t Z En δ ∧ EnOk K F0 H0 B F En Dn
end
structure E3 (X : Cx) (E : XK) (e : Expr) (t : T3E) : Prop where
  h : ∀ F0 H0 B, PE X e (LE X.K E F0 H0 B t)
structure D3 (X : Cx) (E : XK) (e : Expr) (t : T3D) : Prop where
  h : ∀ F0 H0 B, PE X e (LD X.K E F0 H0 B t)
structure C3 (X : Cx) (E : XK) (e : Expr) (t : T3T) : Prop where
  h : ∀ F0 H0 B, PT X e (LT X.K E F0 H0 B t)
structure W3 (X : Cx) (E : XK) (e : Expr) (t : T3T) : Prop where
  h : ∀ F0 H0 B, PW X e (LT X.K E F0 H0 B t)
structure A3 (X : Cx) (E : XK) (es : List Expr) (t : T3A) : Prop where
  h : ∀ F0 H0 B, PA X es (LA X.K E F0 H0 B t)
structure S3 (X : Cx) (E : XK) (st : Stmt) (t : T3S) : Prop where
  h : ∀ F0 H0 B, PS X st (LS X.K E F0 H0 B t)
structure B3 (X : Cx) (E : XK) (sts : List Stmt) (t : T3S) : Prop where
  h : ∀ F0 H0 B, PSs X sts (LS X.K E F0 H0 B t)
theorem pe_imp {X : Cx} {e : Expr} {t t' : TE} (h : PE X e t) (i : ∀ σ H Q, t' σ H Q → t σ H Q) : PE X e t' := fun pins s σ H Q I w => h pins s σ H Q I (i _ _ _ w)
theorem pt_imp {X : Cx} {e : Expr} {t t' : TT} (h : PT X e t) (i : ∀ σ H Q, t' σ H Q → t σ H Q) : PT X e t' := fun pins s σ H Q I w => h pins s σ H Q I (i _ _ _ w)
theorem pw_imp {X : Cx} {e : Expr} {t t' : TT} (h : PW X e t) (i : ∀ σ H Q, t' σ H Q → t σ H Q) : PW X e t' := fun wh pins s σ H Q I w => h wh pins s σ H Q I (i _ _ _ w)
theorem pa_imp {X : Cx} {e : List Expr} {t t' : TA} (h : PA X e t) (i : ∀ σ H Q, t' σ H Q → t σ H Q) : PA X e t' := fun pos pins s σ H Q I w => h pos pins s σ H Q I (i _ _ _ w)
theorem ps_imp {X : Cx} {e : Stmt} {t t' : TS} (h : PS X e t) (i : ∀ D σ H, t' D σ H → t D σ H) : PS X e t' := fun pins s σ H Q I w => h pins s σ H Q I (i _ _ _ w)
theorem pss_imp {X : Cx} {e : List Stmt} {t t' : TS} (h : PSs X e t) (i : ∀ D σ H, t' D σ H → t D σ H) : PSs X e t' := fun pins s σ H Q I w => h pins s σ H Q I (i _ _ _ w)

section
variable {X : Cx} {E : XK} {e a b c : Expr} {pos : Pos}

/-! ### data and owned values -/
def rv (t : T3D) : T3E := fun Z δ Q => t Z δ fun x δ' => Q (.d x) δ'
def fz (t : T3E) : T3D := fun Z δ Q => t Z δ fun r δ' => match r.frz with
  | some x => Q x δ'
  | none => False
theorem D3.toE {t : T3D} (h : D3 X E e t) : E3 X E e (rv t) := ⟨fun F0 H0 B => pe_imp (h.h F0 H0 B) fun σ H Q hh => ex4 hh fun δ F Z P L z w q =>
  ⟨δ, F, Z, _, L, z, w, fun x δ' v F' H' p L' s r => q (.d x) δ' v F' H' p L' s r⟩⟩
theorem E3.toD {t : T3E} (h : E3 X E e t) : D3 X E e (fz t) := ⟨fun F0 H0 B => pe_imp (h.h F0 H0 B) fun σ H Q hh => ex4 hh fun δ F Z P L z w q =>
  ⟨δ, F, Z, _, L, z, w, fun r δ' v F' H' p L' s k => by
    cases e : r.frz with
    | none => rw [e] at p; exact p.elim
    | some x =>
      rw [e] at p
      obtain ⟨F2, L2, s2, r2⟩ := L'.thaw k e
      exact q x δ' v F2 H' p L2 (s.trans s2) r2⟩⟩

/-! ### names, constants -/
def tN (i : Nat) : T3D := fun _ δ Q => match δ[i]? with
  | some (.d x) => Q x δ
  | some (.own o) => (match o.frz with
    | some x => Q x (δ.set i (.d x))
    | none => False)
  | _ => False
theorem d_name {i : Nat} {x : Str} (hN : X.N[i]? = some x) (hv : Vis X.env.scope x) (hd : (x == ("__debug__" : Str)) = false) (hcd : (x == ("__classdict__" : Str)) = false) : D3 X E (.Name x pos) (tN i) := ⟨fun F0 H0 B =>
  pe_imp (pe_var hN hv hd hcd) fun σ H Q hh => ex4 hh fun δ F Z P L z w q => by
    unfold tN at w
    cases e : δ[i]? with
    | none => rw [e] at w; exact w.elim
    | some s =>
      rw [e] at w
      cases s with
      | un => exact w.elim
      | bor o => exact w.elim
      | d x =>
        obtain ⟨v, e1, r⟩ := L.sl i _ e
        exact ⟨v, e1, q x δ v F H w L (Same.refl _) r⟩
      | own o =>
        dsimp only at w
        cases e2 : o.frz with
        | none => rw [e2] at w; exact w.elim
        | some y =>
          rw [e2] at w
          obtain ⟨F', v, L', s, e1, r⟩ := L.froz e e2
          exact ⟨v, e1, q y _ v F' H w L' s r⟩⟩
theorem dv (i : Nat) {x : Str} (hN : X.N[i]? = some x := by rfl) (hv : Vis X.env.scope x := by first | exact Or.inl rfl | exact Or.inr (Or.inl rfl) | exact Or.inr (Or.inr rfl)) (hd : (x == ("__debug__" : Str)) = false := by decide)
    (hcd : (x == ("__classdict__" : Str)) = false := by decide) : D3 X E (.Name x pos) (tN i) := d_name hN hv hd hcd
/-- a name handed on as it is (owned or data); the name stands for nothing behind it -/
def tM (i : Nat) : T3E := fun _ δ Q => match δ[i]? with
  | some (.d x) => Q (.d x) δ
  | some (.own o) => Q (.own o) (δ.set i .un)
  | _ => False
theorem Lk.out {K : PySem.W.Frag} {F0 H0 F H : Hp} {B : Option Addr} {σ : St} {δ : List Sl} {i : Nat} (L : Lk K F0 H0 B σ δ F H) : Lk K F0 H0 B σ (δ.set i .un) F H := by
  refine ⟨L.fh, L.f0, L.h0, L.ff, L.bt, by simp [L.len], fun j s e => ?_, fun j k o o' e1 e2 e3 => ?_, nb_set L.nb (fun _ z => by cases z), L.tb⟩
  · rcases getS e with ⟨rfl, rfl, lt⟩ | ⟨n, e⟩
    · trivial
    · exact L.sl j s e
  · rcases getS e1 with ⟨_, z, _⟩ | ⟨n1, e1⟩
    · cases z
    · rcases getS e2 with ⟨_, z, _⟩ | ⟨n2, e2⟩
      · cases z
      · exact L.ne j k o o' e1 e2 e3
theorem e_move (i : Nat) {x : Str} (hN : X.N[i]? = some x := by rfl) (hv : Vis X.env.scope x := by first | exact Or.inl rfl | exact Or.inr (Or.inl rfl) | exact Or.inr (Or.inr rfl)) (hd : (x == ("__debug__" : Str)) = false := by decide)
    (hcd : (x == ("__classdict__" : Str)) = false := by decide) : E3 X E (.Name x pos) (tM i) := ⟨fun F0 H0 B =>
  pe_imp (pe_var hN hv hd hcd) fun σ H Q hh => ex4 hh fun δ F Z P L z w q => by
    unfold tM at w
    cases e : δ[i]? with
    | none => rw [e] at w; exact w.elim
    | some s =>
      rw [e] at w
      cases s with
      | un => exact w.elim
      | bor o => exact w.elim
      | d x =>
        obtain ⟨v, e1, r⟩ := L.sl i _ e
        exact ⟨v, e1, q (.d x) δ v F H w L (Same.refl _) r⟩
      | own o =>
        obtain ⟨a, e1, fn, hn, ow⟩ := L.sl i _ e
        refine ⟨.ref a, e1, q (.own o) _ _ F H w L.out (Same.refl _) ⟨a, rfl, fn, hn, ow, fun j o' ej z => ?_⟩⟩
        rcases getS ej with ⟨_, z', _⟩ | ⟨n, ej⟩
        · cases z'
        · exact n (L.ne i j o o' e ej (by rw [e1, z]))⟩
def tK (x : D) : T3D := fun _ δ Q => Q x δ
theorem d_const {v : V} {x : D} (h : PE X e (tC v)) (r : ∀ F, Rp X.K F v x) : D3 X E e (tK x) := ⟨fun F0 H0 B => pe_imp h fun σ H Q hh => ex4 hh fun δ F Z P L z w q => q x δ v F H w L (Same.refl _) (r F)⟩
theorem d_int {i j} : D3 X E (.Constant (.int i) j pos) (tK (.int i)) := d_const pe_int fun _ => .int i
theorem d_bl {b j} : D3 X E (.Constant (.bool b) j pos) (tK (.bl b)) := d_const pe_bl fun _ => .bl b
theorem d_str {x j} : D3 X E (.Constant (.str x) j pos) (tK (.str x)) := d_const pe_str fun _ => .str x
theorem d_glob {x : Str} {u : Value} {v : V} {y : D} (hg : Gl X x) (hm : X.mg x = some u) (r : RelV v u) (p : ∀ F, Rp X.K F v y) (hd : (x == ("__debug__" : Str)) = false := by decide) : D3 X E (.Name x pos) (tK y) := d_const (pe_glob hg hm r hd) p

/-! ### operators -/
def R3 (K : PySem.W.Frag) (r : R2) (r3 : D → D → (D → Prop) → Prop) : Prop := ∀ F H x y v u (Q : VK) (P : D → Prop), Same F H → Rp K F v x → Rp K F u y → r3 x y P → (∀ z w, P z → Rp K F w z → Q w H) → r v u H Q
def tO (r3 : D → D → (D → Prop) → Prop) (a b : T3D) : T3D := fun Z δ Q => a Z δ fun x δ1 => b Z δ1 fun y δ2 => r3 x y fun z => Q z δ2
theorem lo_op {K : PySem.W.Frag} {F0 H0 : Hp} {B : Option Addr} {ta tb : T3D} {r : R2} {r3 : D → D → (D → Prop) → Prop} (rel : R3 K r r3) {σ : St} {H : Hp} {Q : VK} (h : LD K E F0 H0 B (tO r3 ta tb) σ H Q) : tOp r (LD K E F0 H0 B ta) (LD K E F0 H0 B tb) σ H Q := by
  obtain ⟨δ, F, Z, P, L, z, w, q⟩ := h
  refine ⟨δ, F, Z, _, L, z, w, fun x δ1 v F1 H1 p1 L1 s1 r1 => ⟨δ1, F1, Z, _, L1, z, p1, fun y δ2 u F2 H2 p2 L2 s2 r2 => ?_⟩⟩
  exact rel F2 H2 x y v u Q _ L2.fh (r1.same s2) r2 p2 fun zz ww pz rz => q zz δ2 ww F2 H2 pz L2 (s1.trans s2) rz
theorem d_op {op : Operator} {r : R2} {r3 : D → D → (D → Prop) → Prop} {ta tb : T3D} (ho : OpR X (binaryOp op) r) (rel : R3 X.K r r3) (ha : D3 X E a ta) (hb : D3 X E b tb) : D3 X E (.BinOp a op b pos) (tO r3 ta tb) :=
  ⟨fun F0 H0 B => pe_imp (pe_op ho (ha.h F0 H0 B) (hb.h F0 H0 B)) fun _ _ _ h => lo_op rel h⟩
theorem d_cmp {op : CmpOp} {r : R2} {r3 : D → D → (D → Prop) → Prop} {ta tb : T3D} (ho : OpR X (compareOp op) r) (rel : R3 X.K r r3) (ha : D3 X E a ta) (hb : D3 X E b tb) (hm : behindInMarks op b = false) : D3 X E (.Compare a [op] [b] pos) (tO r3 ta tb) :=
  ⟨fun F0 H0 B => pe_imp (pe_cmpR ho (ha.h F0 H0 B) (hb.h F0 H0 B) hm) fun _ _ _ h => lo_op rel h⟩
theorem d_ix {r : R2} {r3 : D → D → (D → Prop) → Prop} {ta tb : T3D} (ho : IxR X r) (rel : R3 X.K r r3) (ha : D3 X E a ta) (hb : D3 X E b tb) (hs : PlainIx b) : D3 X E (.Subscript a b pos) (tO r3 ta tb) :=
  ⟨fun F0 H0 B => pe_imp (pe_ix ho (ha.h F0 H0 B) (hb.h F0 H0 B) hs) fun _ _ _ h => lo_op rel h⟩
/-- a value as a test -/
def tB3 (t : T3D) : T3T := fun Z δ Q => t Z δ fun x δ' => match x with
  | .bl c => Q c δ'
  | _ => False
theorem bl_inv {x : D} {P : Bool → Prop} (h : match x with
  | .bl c => P c
  | _ => False) : ∃ c, x = .bl c ∧ P c := by
  cases x with
  | bl c => exact ⟨c, rfl, h⟩
  | _ => exact h.elim
theorem c_cmp {op : CmpOp} {r : R2} {r3 : D → D → (D → Prop) → Prop} {ta tb : T3D} (ho : OpR X (compareOp op) r) (rel : R3 X.K r r3) (ha : D3 X E a ta) (hb : D3 X E b tb) (hm : behindInMarks op b = false) : C3 X E (.Compare a [op] [b] pos) (tB3 (tO r3 ta tb)) :=
  ⟨fun F0 H0 B => pt_imp (pt_cmpR ho (ha.h F0 H0 B) (hb.h F0 H0 B) hm) fun σ H Q hh => ex4 hh fun δ F Z P L z w q => lo_op rel ⟨δ, F, Z, _, L, z, w, fun x δ' v F' H' p L' s r => by
    obtain ⟨c, rfl, k⟩ := bl_inv p
    exact ⟨c, r.inv_bl, q _ δ' F' H' k L' s⟩⟩⟩
theorem c_val {t : T3D} (h : D3 X E e t) (he : ∀ whole, isTrue e X.env whole = (do let v ← whole; standAt e.pos; holding [v] (truthy v)) := by intro _; rfl) : C3 X E e (tB3 t) :=
  ⟨fun F0 H0 B => pt_imp (pt_val (h.h F0 H0 B) he) fun σ H Q hh => ex4 hh fun δ F Z P L z w q => ⟨δ, F, Z, _, L, z, w, fun x δ' v F' H' p L' s r => by
    obtain ⟨c, rfl, k⟩ := bl_inv p
    exact ⟨c, r.inv_bl, q _ δ' F' H' k L' s⟩⟩⟩
/-- a branch -/
def Br : Bool → Prop → Prop → Prop
  | true, A, _ => A
  | false, _, B => B
theorem br {b : Bool} {A B : Prop} (h1 : b = true → A) (h2 : b = false → B) : Br b A B := by
  cases b with
  | true => exact h1 rfl
  | false => exact h2 rfl
theorem brd {p : Prop} [Decidable p] {A B : Prop} (h1 : p → A) (h2 : ¬ p → B) : Br (decide p) A B := br (fun h => h1 (of_decide_eq_true h)) fun h => h2 (of_decide_eq_false h)
theorem brn {p : Prop} [Decidable p] {A B : Prop} (h1 : ¬ p → A) (h2 : p → B) : Br (!decide p) A B := br (fun h => h1 (by simpa using h)) fun h => h2 (by simpa using h)
def tNot3 (t : T3T) : T3T := fun Z δ Q => t Z δ fun c δ' => Q (!c) δ'
theorem c_not {t : T3T} (h : C3 X E a t) : C3 X E (.UnaryOp .Not a pos) (tNot3 t) :=
  ⟨fun F0 H0 B => pt_imp (pt_not (h.h F0 H0 B)) fun σ H Q hh => ex4 hh fun δ F Z P L z w q => ⟨δ, F, Z, _, L, z, w, fun b δ' F' H' p L' s => q _ δ' F' H' p L' s⟩⟩
def tAnd3 (t u : T3T) : T3T := fun Z δ Q => t Z δ fun c δ' => Br c (u Z δ' Q) (Q false δ')
def tOr3 (t u : T3T) : T3T := fun Z δ Q => t Z δ fun c δ' => Br c (Q true δ') (u Z δ' Q)
theorem w_and1 {t : T3T} (h : C3 X E a t) : W3 X E (.BoolOp .And [a] pos) t := ⟨fun F0 H0 B => pw_and1 (h.h F0 H0 B)⟩
theorem w_or1 {t : T3T} (h : C3 X E a t) : W3 X E (.BoolOp .Or [a] pos) t := ⟨fun F0 H0 B => pw_or1 (h.h F0 H0 B)⟩
theorem w_and {t u : T3T} {rest : List Expr} (h : C3 X E a t) (k : W3 X E (.BoolOp .And (b :: rest) pos) u) : W3 X E (.BoolOp .And (a :: b :: rest) pos) (tAnd3 t u) :=
  ⟨fun F0 H0 B => pw_imp (pw_and (h.h F0 H0 B) (k.h F0 H0 B)) fun σ H Q hh => ex4 hh fun δ F Z P L z w q => ⟨δ, F, Z, _, L, z, w, fun c δ' F' H' p L' s => by
    cases c with
    | true =>
      rw [if_pos rfl]
      exact ⟨δ', F', Z, P, L', z, p, fun c2 δ2 F2 H2 p2 L2 s2 => q c2 δ2 F2 H2 p2 L2 (s.trans s2)⟩
    | false =>
      rw [if_neg Bool.false_ne_true]
      exact q _ δ' F' H' p L' s⟩⟩
theorem w_or {t u : T3T} {rest : List Expr} (h : C3 X E a t) (k : W3 X E (.BoolOp .Or (b :: rest) pos) u) : W3 X E (.BoolOp .Or (a :: b :: rest) pos) (tOr3 t u) :=
  ⟨fun F0 H0 B => pw_imp (pw_or (h.h F0 H0 B) (k.h F0 H0 B)) fun σ H Q hh => ex4 hh fun δ F Z P L z w q => ⟨δ, F, Z, _, L, z, w, fun c δ' F' H' p L' s => by
    cases c with
    | true =>
      rw [if_pos rfl]
      exact q _ δ' F' H' p L' s
    | false =>
      rw [if_neg Bool.false_ne_true]
      exact ⟨δ', F', Z, P, L', z, p, fun c2 δ2 F2 H2 p2 L2 s2 => q c2 δ2 F2 H2 p2 L2 (s.trans s2)⟩⟩⟩
theorem W3.toC {t : T3T} (h : W3 X E e t) : C3 X E e t := ⟨fun F0 H0 B => (h.h F0 H0 B).pt⟩
/-! and, or, not as values (of truths) -/
def tAndD (t u : T3D) : T3D := fun Z δ Q => t Z δ fun x δ' => match x with
  | .bl c => Br c (u Z δ' Q) (Q (.bl false) δ')
  | _ => False
def tOrD (t u : T3D) : T3D := fun Z δ Q => t Z δ fun x δ' => match x with
  | .bl c => Br c (Q (.bl true) δ') (u Z δ' Q)
  | _ => False
def tNotD (t : T3D) : T3D := fun Z δ Q => t Z δ fun x δ' => match x with
  | .bl c => Q (.bl (!c)) δ'
  | _ => False
theorem d_one {op} {t : T3D} (h : D3 X E a t) : D3 X E (.BoolOp op [a] pos) t := ⟨fun F0 H0 B => pe_one (h.h F0 H0 B)⟩
theorem d_and {t u : T3D} {rest : List Expr} (h : D3 X E a t) (k : D3 X E (.BoolOp .And (b :: rest) pos) u) : D3 X E (.BoolOp .And (a :: b :: rest) pos) (tAndD t u) :=
  ⟨fun F0 H0 B => pe_imp (pe_and (h.h F0 H0 B) (k.h F0 H0 B)) fun σ H Q hh => ex4 hh fun δ F Z P L z w q => ⟨δ, F, Z, _, L, z, w, fun x δ' v F' H' p L' s r => by
    cases x with
    | bl c =>
      obtain rfl := r.inv_bl
      refine ⟨c, rfl, ?_⟩
      cases c with
      | true =>
        rw [if_pos rfl]
        exact ⟨δ', F', Z, P, L', z, p, fun c2 δ2 v2 F2 H2 p2 L2 s2 r2 => q c2 δ2 v2 F2 H2 p2 L2 (s.trans s2) r2⟩
      | false =>
        rw [if_neg Bool.false_ne_true]
        exact q _ δ' _ F' H' p L' s (.bl false)
    | _ => exact p.elim⟩⟩
theorem d_or {t u : T3D} {rest : List Expr} (h : D3 X E a t) (k : D3 X E (.BoolOp .Or (b :: rest) pos) u) : D3 X E (.BoolOp .Or (a :: b :: rest) pos) (tOrD t u) :=
  ⟨fun F0 H0 B => pe_imp (pe_or (h.h F0 H0 B) (k.h F0 H0 B)) fun σ H Q hh => ex4 hh fun δ F Z P L z w q => ⟨δ, F, Z, _, L, z, w, fun x δ' v F' H' p L' s r => by
    cases x with
    | bl c =>
      obtain rfl := r.inv_bl
      refine ⟨c, rfl, ?_⟩
      cases c with
      | true =>
        rw [if_pos rfl]
        exact q _ δ' _ F' H' p L' s (.bl true)
      | false =>
        rw [if_neg Bool.false_ne_true]
        exact ⟨δ', F', Z, P, L', z, p, fun c2 δ2 v2 F2 H2 p2 L2 s2 r2 => q c2 δ2 v2 F2 H2 p2 L2 (s.trans s2) r2⟩
    | _ => exact p.elim⟩⟩
theorem d_not {t : T3D} (h : D3 X E a t) : D3 X E (.UnaryOp .Not a pos) (tNotD t) :=
  ⟨fun F0 H0 B => pe_imp (pe_not (h.h F0 H0 B)) fun σ H Q hh => ex4 hh fun δ F Z P L z w q => ⟨δ, F, Z, _, L, z, w, fun x δ' v F' H' p L' s r => by
    cases x with
    | bl c =>
      obtain rfl := r.inv_bl
      exact ⟨c, rfl, q _ δ' _ F' H' p L' s (.bl _)⟩
    | _ => exact p.elim⟩⟩
/-! ### rows of ints -/
def i2 (g : Int → Int → D) : D → D → (D → Prop) → Prop := fun x y P => match x, y with
  | .int i, .int j => P (g i j)
  | _, _ => False
def i2c (C : Int → Int → Prop) (g : Int → Int → D) : D → D → (D → Prop) → Prop := fun x y P => match x, y with
  | .int i, .int j => C i j ∧ P (g i j)
  | _, _ => False
theorem i2_inv {g : Int → Int → D} {x y : D} {P : D → Prop} (h : i2 g x y P) : ∃ i j, x = .int i ∧ y = .int j ∧ P (g i j) := by
  cases x with
  | int i =>
    cases y with
    | int j => exact ⟨i, j, rfl, rfl, h⟩
    | _ => exact h.elim
  | _ => exact h.elim
theorem i2c_inv {C : Int → Int → Prop} {g : Int → Int → D} {x y : D} {P : D → Prop} (h : i2c C g x y P) : ∃ i j, x = .int i ∧ y = .int j ∧ C i j ∧ P (g i j) := by
  cases x with
  | int i =>
    cases y with
    | int j => exact ⟨i, j, rfl, rfl, h⟩
    | _ => exact h.elim
  | _ => exact h.elim
theorem r3_i2 {K : PySem.W.Frag} {g : Int → Int → V} {g3 : Int → Int → D} (hg : ∀ F i j, Rp K F (g i j) (g3 i j)) : R3 K (rI0 g) (i2 g3) := by
  intro F H x y v u Q P fh rx ry h q
  obtain ⟨i, j, rfl, rfl, p⟩ := i2_inv h
  exact ⟨i, j, rx.inv_int, ry.inv_int, q _ _ p (hg _ _ _)⟩
theorem r3_i2c {K : PySem.W.Frag} {C C3 : Int → Int → Prop} {g : Int → Int → V} {g3 : Int → Int → D} (hC : ∀ i j, C3 i j → C i j) (hg : ∀ F i j, Rp K F (g i j) (g3 i j)) : R3 K (rI C g) (i2c C3 g3) := by
  intro F H x y v u Q P fh rx ry h q
  obtain ⟨i, j, rfl, rfl, c, p⟩ := i2c_inv h
  exact ⟨i, j, rx.inv_int, ry.inv_int, hC _ _ c, q _ _ p (hg _ _ _)⟩
theorem r_add {K : PySem.W.Frag} : R3 K (rI0 fun i j => .int (i + j)) (i2 fun i j => .int (i + j)) := r3_i2 fun _ _ _ => .int _
theorem r_sub {K : PySem.W.Frag} : R3 K (rI0 fun i j => .int (i - j)) (i2 fun i j => .int (i - j)) := r3_i2 fun _ _ _ => .int _
/-- a number of at most 2 ^ 16 bits -/
def Fit (i : Int) : Prop := i.natAbs < 2 ^ 65536
def FitM (i j : Int) : Prop := Fit i ∧ Fit j
theorem fit_w {i j : Int} (h : FitM i j) : Fr.CW i j := ⟨65536, h.1, h.2, by decide⟩
theorem r_mul {K : PySem.W.Frag} : R3 K (rI Fr.CW fun i j => .int (i * j)) (i2c FitM fun i j => .int (i * j)) := r3_i2c (fun _ _ h => fit_w h) fun _ _ _ => .int _
def DivM (_ j : Int) : Prop := 0 < j ∧ j < 2 ^ 250
theorem r_fdiv {K : PySem.W.Frag} : R3 K (rI (fun _ j => 0 < j ∧ j < 2 ^ 250) fun i j => .int (i / j)) (i2c DivM fun i j => .int (i / j)) := r3_i2c (fun _ _ h => h) fun _ _ _ => .int _
def ModM (_ j : Int) : Prop := 0 < j
theorem r_mod {K : PySem.W.Frag} : R3 K (rI (fun _ j => 0 < j) fun i j => .int (i % j)) (i2c ModM fun i j => .int (i % j)) := r3_i2c (fun _ _ h => h) fun _ _ _ => .int _
def ModZ (_ j : Int) : Prop := j ≠ 0
theorem r_modN {K : PySem.W.Frag} : R3 K (rI (fun _ j => j ≠ 0) fun i j => .int (i.fmod j)) (i2c ModZ fun i j => .int (i.fmod j)) := r3_i2c (fun _ _ h => h) fun _ _ _ => .int _
def DivZ (_ j : Int) : Prop := j ≠ 0 ∧ j.natAbs < 2 ^ 250
theorem r_fdivZ {K : PySem.W.Frag} : R3 K (rI (fun _ j => j ≠ 0 ∧ j.natAbs < 2 ^ 250) fun i j => .int (i.fdiv j)) (i2c DivZ fun i j => .int (i.fdiv j)) := r3_i2c (fun _ _ h => h) fun _ _ _ => .int _
theorem r_pow {K : PySem.W.Frag} : R3 K (rI CPow fun i j => .int (i ^ j.toNat)) (i2c CPow fun i j => .int (i ^ j.toNat)) := r3_i2c (fun _ _ h => h) fun _ _ _ => .int _
theorem r_lt {K : PySem.W.Frag} : R3 K (rI0 fun i j => .bl (decide (i < j))) (i2 fun i j => .bl (decide (i < j))) := r3_i2 fun _ _ _ => .bl _
theorem r_gt {K : PySem.W.Frag} : R3 K (rI0 fun i j => .bl (decide (j < i))) (i2 fun i j => .bl (decide (j < i))) := r3_i2 fun _ _ _ => .bl _
theorem r_ge {K : PySem.W.Frag} : R3 K (rI0 fun i j => .bl (decide (j ≤ i))) (i2 fun i j => .bl (decide (j ≤ i))) := r3_i2 fun _ _ _ => .bl _
def i2eq : D → D → (D → Prop) → Prop := i2 fun i j => .bl (decide (i = j))
def i2ne : D → D → (D → Prop) → Prop := i2 fun i j => .bl (!decide (i = j))
theorem dec_int (i j : Int) : decide (V.int i = V.int j) = decide (i = j) := by
  by_cases h : i = j
  · rw [h]; simp
  · rw [decide_eq_false h, decide_eq_false fun z => h (by injection z)]
theorem r_eq {K : PySem.W.Frag} : R3 K rEq i2eq := by
  intro F H x y v u Q P fh rx ry h q
  obtain ⟨i, j, rfl, rfl, p⟩ := i2_inv h
  obtain rfl := rx.inv_int
  obtain rfl := ry.inv_int
  exact ⟨rfl, by rw [dec_int]; exact q _ _ p (.bl _)⟩
theorem r_ne {K : PySem.W.Frag} : R3 K rNe i2ne := by
  intro F H x y v u Q P fh rx ry h q
  obtain ⟨i, j, rfl, rfl, p⟩ := i2_inv h
  obtain rfl := rx.inv_int
  obtain rfl := ry.inv_int
  exact ⟨rfl, by rw [dec_int]; exact q _ _ p (.bl _)⟩
end
end L3

set_option Elab.async false
set_option linter.all false
set_option maxRecDepth 100000
namespace L3
open PySem PySem.Spec L2
section
variable {X : Cx} {E : XK} {e a b c o : Expr} {es : List Expr} {pos : Pos}

/-! ### argument lists, displays -/
def tA0 : T3A := fun _ δ Q => Q [] δ
def tAc (t : T3D) (u : T3A) : T3A := fun Z δ Q => t Z δ fun x δ1 => u Z δ1 fun xs δ2 => Q (x :: xs) δ2
theorem a_nil : A3 X E [] tA0 := ⟨fun F0 H0 B => pa_imp pa_nil fun σ H Q hh => ex4 hh fun δ F Z P L z w q => q [] δ [] F H w L (Same.refl _) .nil⟩
theorem a_cons {t : T3D} {u : T3A} (h : D3 X E e t) (r : A3 X E es u) (hs : starEach (e :: es) X.env = (false, eval e X.env) :: starEach es X.env := by rfl) : A3 X E (e :: es) (tAc t u) :=
  ⟨fun F0 H0 B => pa_imp (pa_cons (h.h F0 H0 B) (r.h F0 H0 B) hs) fun σ H Q hh => ex4 hh fun δ F Z P L z w q => ⟨δ, F, Z, _, L, z, w, fun x δ1 v F1 H1 p1 L1 s1 r1 =>
    ⟨δ1, F1, Z, _, L1, z, p1, fun xs δ2 vs F2 H2 p2 L2 s2 r2 => q _ δ2 _ F2 H2 p2 L2 (s1.trans s2) (.cons (r1.same s2) r2)⟩⟩⟩
/-- a length that is no matter -/
def Few (n : Nat) (P : Prop) : Prop := match Nat.ble n 1000000 with
  | true => P
  | false => False
theorem few {n : Nat} {P : Prop} (h : Few n P) : n ≤ 1000000 ∧ P := by
  unfold Few at h
  cases e : Nat.ble n 1000000 with
  | true => rw [e] at h; exact ⟨Nat.le_of_ble_eq_true e, h⟩
  | false => rw [e] at h; exact h.elim
theorem line_big {n : Nat} (h : n ≤ 1000000) : n < sizeLine := Nat.lt_of_le_of_lt h (by decide)
def tTu (t : T3A) : T3D := fun Z δ Q => t Z δ fun xs δ' => Few xs.length (Q (.tup xs) δ')
theorem d_tup {t : T3A} {x1} (h : A3 X E es t) : D3 X E (.Tuple es x1 pos) (tTu t) :=
  ⟨fun F0 H0 B => pe_imp (pe_tup (h.h F0 H0 B)) fun σ H Q hh => ex4 hh fun δ F Z P L z w q => ⟨δ, F, Z, _, L, z, w, fun xs δ' vs F' H' p L' s r => by
    obtain ⟨n, p⟩ := few p
    refine ⟨by rw [r.len]; exact Nat.le_of_lt (line_big n), fun a ha => ?_⟩
    obtain ⟨L2, s2⟩ := L'.newD (ho := .tup vs) ha
    exact q _ δ' _ _ _ p L2 (s.trans s2) (.tup (SqT.of upd_same) (r.same s2))⟩⟩
def tLs (t : T3A) : T3E := fun Z δ Q => t Z δ fun xs δ' => Few xs.length (Q (.own (.lst xs)) δ')
theorem e_lst {t : T3A} (h : A3 X E es t) : E3 X E (.List es pos) (tLs t) :=
  ⟨fun F0 H0 B => pe_imp (pe_lst (h.h F0 H0 B)) fun σ H Q hh => ex4 hh fun δ F Z P L z w q => ⟨δ, F, Z, _, L, z, w, fun xs δ' vs F' H' p L' s r => by
    obtain ⟨n, p⟩ := few p
    refine ⟨by rw [r.len]; exact Nat.le_of_lt (line_big n), fun a ha => ?_⟩
    obtain ⟨L2, k2⟩ := L'.newO (ho := .lst vs) ha (o := .lst xs) ⟨vs, upd_same, r⟩
    exact q _ δ' _ _ _ p L2 s k2⟩⟩

/-! ### items -/
def ixL : D → D → (D → Prop) → Prop := fun x y P => match x, y with
  | .lst xs, .int i => ∃ v, atI xs i = some v ∧ P v
  | _, _ => False
def ixT : D → D → (D → Prop) → Prop := fun x y P => match x, y with
  | .tup xs, .int i => ∃ v, atI xs i = some v ∧ P v
  | _, _ => False
theorem at_rp {K : PySem.W.Frag} {F : Hp} {vs : List V} {xs : List D} {i : Int} {x : D} (r : Rps K F vs xs) (h : atI xs i = some x) : ∃ v, atI vs i = some v ∧ Rp K F v x := by
  unfold atI at h ⊢
  rw [r.len]
  cases e : ixN xs.length i with
  | none => rw [e] at h; cases h
  | some j =>
    rw [e] at h
    exact r.at h
theorem ixL_inv {x y : D} {P : D → Prop} (h : ixL x y P) : ∃ xs i, x = .lst xs ∧ y = .int i ∧ ∃ v, atI xs i = some v ∧ P v := by
  cases x with
  | lst xs =>
    cases y with
    | int i => exact ⟨xs, i, rfl, rfl, h⟩
    | _ => exact h.elim
  | _ => exact h.elim
theorem ixT_inv {x y : D} {P : D → Prop} (h : ixT x y P) : ∃ xs i, x = .tup xs ∧ y = .int i ∧ ∃ v, atI xs i = some v ∧ P v := by
  cases x with
  | tup xs =>
    cases y with
    | int i => exact ⟨xs, i, rfl, rfl, h⟩
    | _ => exact h.elim
  | _ => exact h.elim
theorem r_ixL {K : PySem.W.Frag} : R3 K (rIxL K) ixL := by
  intro F H x y v u Q P fh rx ry h q
  obtain ⟨xs, i, rfl, rfl, z, hz, p⟩ := ixL_inv h
  obtain ⟨a, vs, rfl, hs, rs⟩ := rx.inv_lst
  obtain rfl := ry.inv_int
  obtain ⟨w, hw, rw'⟩ := at_rp rs hz
  exact ⟨_, _, _, w, rfl, rfl, SqL.of (fh _ _ hs), hw, q z w p rw'⟩
theorem r_ixT {K : PySem.W.Frag} : R3 K (rIxT K) ixT := by
  intro F H x y v u Q P fh rx ry h q
  obtain ⟨xs, i, rfl, rfl, z, hz, p⟩ := ixT_inv h
  obtain ⟨a, vs, rfl, hs, rs⟩ := rx.inv_tup
  obtain rfl := ry.inv_int
  obtain ⟨w, hw, rw'⟩ := at_rp rs hz
  exact ⟨_, _, _, w, rfl, rfl, Fr.sqT_same fh hs, hw, q z w p rw'⟩
theorem d_ixL {ta tb : T3D} (ha : D3 X E a ta) (hb : D3 X E b tb) (hs : PlainIx b := by exact fun _ _ => rfl) : D3 X E (.Subscript a b pos) (tO ixL ta tb) := d_ix ix_list r_ixL ha hb hs
theorem d_ixT {ta tb : T3D} (ha : D3 X E a ta) (hb : D3 X E b tb) (hs : PlainIx b := by exact fun _ _ => rfl) : D3 X E (.Subscript a b pos) (tO ixT ta tb) := d_ix ix_tup r_ixT ha hb hs
/-- the list that a name stands for, owned or not -/
def Sl.list : Sl → Option (List D)
  | .d (.lst xs) => some xs
  | .own (.lst xs) => some xs
  | .bor (.lst xs) => some xs
  | _ => none
theorem Lk.list {K : PySem.W.Frag} {F0 H0 F H : Hp} {B : Option Addr} {σ : St} {δ : List Sl} {i : Nat} {s : Sl} {xs : List D} (L : Lk K F0 H0 B σ δ F H) (e : δ[i]? = some s) (l : s.list = some xs) : ∃ a vs, σ[i]? = some (some (.ref a)) ∧ SqL K H a vs ∧ Rps K F vs xs := by
  have q := L.sl i s e
  cases s with
  | un => cases l
  | d x =>
    cases x with
    | lst ys =>
      cases l
      obtain ⟨v, e1, r⟩ := q
      cases r with
      | lst hs rs => exact ⟨_, _, e1, SqL.of (L.fh _ _ hs), rs⟩
    | _ => cases l
  | own o =>
    cases o with
    | lst ys =>
      cases l
      obtain ⟨a, e1, _, _, vs, hh, rs⟩ := q
      exact ⟨a, vs, e1, SqL.of hh, rs⟩
    | _ => cases l
  | bor o =>
    cases o with
    | lst ys =>
      cases l
      obtain ⟨a, e1, _, _, vs, hh, rs⟩ := q
      exact ⟨a, vs, e1, SqL.of hh, rs⟩
    | _ => cases l
def gl (δ : List Sl) (i : Nat) : Option (List D) := match δ[i]? with
  | some s => s.list
  | none => none
theorem Lk.gl {K : PySem.W.Frag} {F0 H0 F H : Hp} {B : Option Addr} {σ : St} {δ : List Sl} {i : Nat} {xs : List D} (L : Lk K F0 H0 B σ δ F H) (l : gl δ i = some xs) : ∃ a vs, σ[i]? = some (some (.ref a)) ∧ SqL K H a vs ∧ Rps K F vs xs := by
  unfold L3.gl at l
  cases e : δ[i]? with
  | none => rw [e] at l; cases l
  | some s => rw [e] at l; exact L.list e l
def tIxN (i : Nat) (t : T3D) : T3D := fun Z δ Q => match gl δ i with
  | some _ => t Z δ fun y δ2 => match gl δ2 i, y with
    | some xs, .int k => ∃ v, atI xs k = some v ∧ Q v δ2
    | _, _ => False
  | none => False
theorem d_ixN (i : Nat) {x : Str} {p : Pos} {t : T3D} (hb : D3 X E b t) (hN : X.N[i]? = some x := by rfl) (hv : Vis X.env.scope x := by first | exact Or.inl rfl | exact Or.inr (Or.inl rfl) | exact Or.inr (Or.inr rfl)) (hd : (x == ("__debug__" : Str)) = false := by decide)
    (hcd : (x == ("__classdict__" : Str)) = false := by decide) (hs : PlainIx b := by exact fun _ _ => rfl) : D3 X E (.Subscript (.Name x p) b pos) (tIxN i t) :=
  ⟨fun F0 H0 B => pe_imp (pe_ix ix_list (pe_var (pos := p) hN hv hd hcd) (hb.h F0 H0 B) hs) fun σ H Q hh => ex4 hh fun δ F Z P L z w q => by
    unfold tIxN at w
    cases e0 : L3.gl δ i with
    | none => rw [e0] at w; exact w.elim
    | some xs0 =>
      rw [e0] at w
      obtain ⟨a0, vs0, e1, _, _⟩ := L.gl e0
      refine ⟨.ref a0, e1, δ, F, Z, _, L, z, w, fun y δ2 u F2 H2 p2 L2 s2 r2 => ?_⟩
      cases e : L3.gl δ2 i with
      | none => rw [e] at p2; exact p2.elim
      | some xs =>
        rw [e] at p2
        obtain ⟨a, vs, e2, sq, rs⟩ := L2.gl e
        rw [e1] at e2
        cases e2
        cases r2 with
        | int k =>
          obtain ⟨v, hv3, pv3⟩ := p2
          obtain ⟨w', hw, rw'⟩ := at_rp rs hv3
          exact ⟨_, vs, k, w', rfl, rfl, sq, hw, q v δ2 w' F2 H2 pv3 L2 s2 rw'⟩
        | _ => exact p2.elim⟩
/-! ### built-in functions of data -/
def CR3 (K : PySem.W.Frag) (r : List V → Hp → VK → Prop) (r3 : List D → (D → Prop) → Prop) : Prop := ∀ F H xs vs (Q : VK) (P : D → Prop), Same F H → Rps K F vs xs → r3 xs P → (∀ z w, P z → Rp K F w z → Q w H) → r vs H Q
def tCB3 (r3 : List D → (D → Prop) → Prop) (t : T3A) : T3D := fun Z δ Q => t Z δ fun xs δ' => r3 xs fun z => Q z δ'
theorem lo_cb {K : PySem.W.Frag} {F0 H0 : Hp} {B : Option Addr} {t : T3A} {r : List V → Hp → VK → Prop} {r3 : List D → (D → Prop) → Prop} (rel : CR3 K r r3) {σ : St} {H : Hp} {Q : VK} (h : LD K E F0 H0 B (tCB3 r3 t) σ H Q) : tCB r (LA K E F0 H0 B t) σ H Q := by
  obtain ⟨δ, F, Z, P, L, z, w, q⟩ := h
  exact ⟨δ, F, Z, _, L, z, w, fun xs δ' vs F' H' p L' s rs => rel F' H' xs vs Q _ L'.fh rs p fun zz ww pz rz => q zz δ' ww F' H' pz L' s rz⟩
theorem d_callB {x : Str} {p : Pos} {id : String} {r : List V → Hp → VK → Prop} {r3 : List D → (D → Prop) → Prop} {t : T3A} (hc : CallR X (.builtin id) r) (rel : CR3 X.K r r3) (hg : Gl X x) (hm : X.mg x = none) (hv : bootBuiltins x = some (.builtin id)) (ha : A3 X E (e :: es) t) (hn : x ≠ "__name__" := by decide) (hdb : (x == ("__debug__" : Str)) = false := by decide)
    (he : starEach (e :: es) X.env = (false, eval e X.env) :: starEach es X.env := by rfl) (hpl : (backTo pos (starEach es X.env)).any (·.1) = false := by rfl) : D3 X E (.Call (.Name x p) (e :: es) [] pos) (tCB3 r3 t) :=
  ⟨fun F0 H0 B => pe_imp (pe_callB hc hg hm hv (ha.h F0 H0 B) hn hdb he hpl) fun _ _ _ h => lo_cb rel h⟩
theorem d_callTy {x : Str} {p : Pos} {id : String} {r : List V → Hp → VK → Prop} {r3 : List D → (D → Prop) → Prop} {t : T3A} (hc : CallR X (.type id) r) (rel : CR3 X.K r r3) (hg : Gl X x) (hm : X.mg x = none) (hv : bootBuiltins x = some (.type id)) (ha : A3 X E (e :: es) t) (hn : x ≠ "__name__" := by decide) (hdb : (x == ("__debug__" : Str)) = false := by decide)
    (he : starEach (e :: es) X.env = (false, eval e X.env) :: starEach es X.env := by rfl) (hpl : (backTo pos (starEach es X.env)).any (·.1) = false := by rfl) : D3 X E (.Call (.Name x p) (e :: es) [] pos) (tCB3 r3 t) :=
  ⟨fun F0 H0 B => pe_imp (pe_callTy hc hg hm hv (ha.h F0 H0 B) hn hdb he hpl) fun _ _ _ h => lo_cb rel h⟩
def rAbs : List D → (D → Prop) → Prop := fun xs P => match xs with
  | [.int i] => P (.int (if i < 0 then -i else i))
  | _ => False
theorem rAbs_inv {xs : List D} {P : D → Prop} (h : rAbs xs P) : ∃ i, xs = [.int i] ∧ P (.int (if i < 0 then -i else i)) := by
  unfold rAbs at h
  split at h
  · exact ⟨_, rfl, h⟩
  · exact h.elim
theorem cr_abs {K : PySem.W.Frag} : CR3 K (fun xs H Q => ∃ i, xs = [.int i] ∧ Q (.int (if i < 0 then -i else i)) H) rAbs := by
  intro F H xs vs Q P fh rs h q
  obtain ⟨i, rfl, p⟩ := rAbs_inv h
  obtain ⟨v, rfl, r⟩ := rs.inv1
  exact ⟨i, by rw [r.inv_int], q _ _ p (.int _)⟩
def rTwo (g : Int → Int → Int) : List D → (D → Prop) → Prop := fun xs P => match xs with
  | [.int i, .int j] => P (.int (g i j))
  | _ => False
theorem rTwo_inv {g : Int → Int → Int} {xs : List D} {P : D → Prop} (h : rTwo g xs P) : ∃ i j, xs = [.int i, .int j] ∧ P (.int (g i j)) := by
  unfold rTwo at h
  split at h
  · exact ⟨_, _, rfl, h⟩
  · exact h.elim
theorem cr_two {K : PySem.W.Frag} {g : Int → Int → Int} : CR3 K (fun xs H Q => ∃ i j, xs = [.int i, .int j] ∧ Q (.int (g i j)) H) (rTwo g) := by
  intro F H xs vs Q P fh rs h q
  obtain ⟨i, j, rfl, p⟩ := rTwo_inv h
  obtain ⟨v, u, rfl, r1, r2⟩ := rs.inv2
  exact ⟨i, j, by rw [r1.inv_int, r2.inv_int], q _ _ p (.int _)⟩
def rLen : List D → (D → Prop) → Prop := fun xs P => match xs with
  | [.lst ys] => P (.int ys.length)
  | [.tup ys] => P (.int ys.length)
  | [.scr ys] => P (.int ys.length)
  | _ => False
theorem cr_len {K : PySem.W.Frag} : CR3 K (fun xs H Q => ∃ p ys, xs = [.ref p] ∧ (SqL K H p ys ∨ SqT K H p ys) ∧ Q (.int ys.length) H) rLen := by
  intro F H xs vs Q P fh rs h q
  cases rs with
  | nil => exact h.elim
  | cons r rs =>
    cases rs with
    | cons r2 rs => cases r <;> exact h.elim
    | nil =>
      cases r with
      | lst hs rr => exact ⟨_, _, rfl, .inl (SqL.of (fh _ _ hs)), q _ _ h (by rw [rr.len]; exact .int _)⟩
      | tup hs rr => exact ⟨_, _, rfl, .inr (Fr.sqT_same fh hs), q _ _ h (by rw [rr.len]; exact .int _)⟩
      | scr hs => exact ⟨_, _, rfl, .inl (fh.seq hs), q _ _ h (by rw [List.length_map]; exact .int _)⟩
      | _ => exact h.elim
/-- len of a name's list -/
def tLenN (i : Nat) : T3D := fun Z δ Q => match gl δ i with
  | some xs => Q (.int xs.length) δ
  | none => False
theorem d_lenN (i : Nat) {x : Str} {p p2 : Pos} (hg : Gl X "len") (hm : X.mg "len" = none) (hN : X.N[i]? = some x := by rfl) (hv : Vis X.env.scope x := by first | exact Or.inl rfl | exact Or.inr (Or.inl rfl) | exact Or.inr (Or.inr rfl)) (hd : (x == ("__debug__" : Str)) = false := by decide)
    (hcd : (x == ("__classdict__" : Str)) = false := by decide) : D3 X E (.Call (.Name "len" p2) [.Name x p] [] pos) (tLenN i) :=
  ⟨fun F0 H0 B => pe_imp (pe_callB call_len_seq hg hm PySem.boot_len (pa_cons (pe_var (pos := p) hN hv hd hcd) pa_nil)) fun σ H Q hh => ex4 hh fun δ F Z P L z w q => by
    unfold tLenN at w
    cases e0 : L3.gl δ i with
    | none => rw [e0] at w; exact w.elim
    | some xs =>
      rw [e0] at w
      obtain ⟨a, vs, e1, sq, rs⟩ := L.gl e0
      exact ⟨.ref a, e1, a, vs, rfl, .inl sq, q _ δ _ F H w L (Same.refl _) (by rw [rs.len]; exact .int _)⟩⟩
end
end L3

set_option Elab.async false
set_option linter.all false
set_option maxRecDepth 100000
/-! Statements over data. -/
namespace L3
open PySem PySem.Spec L2
section
variable {X : Cx} {E : XK} {e a b c o : Expr} {es : List Expr} {pos : Pos} {st : Stmt} {rest : List Stmt}

def tNx : T3S := fun _ En δ => En.nx δ
def tSq (t u : T3S) : T3S := fun Z En δ => t Z { En with nx := fun δ' => u Z En δ' } δ
theorem b_nil : B3 X E [] tNx := ⟨fun F0 H0 B => pss_imp pss_nil fun Dn σ H hh => ex4 hh fun δ F Z En L z w ok => ok.nx σ δ F H w L (Same.refl _)⟩
theorem b_one {t : T3S} (h : S3 X E st t) : B3 X E [st] t := ⟨fun F0 H0 B => pss_one (h.h F0 H0 B)⟩
theorem b_cons {t u : T3S} (h : S3 X E st t) (k : B3 X E rest u) : B3 X E (st :: rest) (tSq t u) :=
  ⟨fun F0 H0 B => pss_imp (pss_cons (h.h F0 H0 B) (k.h F0 H0 B)) fun Dn σ H hh => ex4 hh fun δ F Z En L z w ok =>
    ⟨δ, F, Z, _, L, z, w, fun σ' δ' F' H' p L' s => ⟨δ', F', Z, En, L', z, p, ok.up s⟩, ok.rt, ok.bk, ok.ct⟩⟩
def tSt (i : Nat) (t : T3E) : T3S := fun Z En δ => t Z δ fun r δ' => En.nx (δ'.set i r.sl)
theorem s_set (i : Nat) {x : Str} {pos' : Pos} {t : T3E} (hN : X.N.Nodup) (hi : X.N[i]? = some x) (hx : Loc X.env.scope x) (he : E3 X E e t) (hs : swapsWith e (some (.Name x pos')) pos.line X.env = pure false := by rfl) (hf : X.fn x = true ∨ X.env.scope.names.lookup x = some .local := by first | exact .inl rfl | exact .inr rfl | assumption) :
    S3 X E (.Assign [.Name x pos'] e pos) (tSt i t) :=
  ⟨fun F0 H0 B => ps_imp (ps_set hN hi hx (he.h F0 H0 B) hs hf) fun Dn σ H hh => ex4 hh fun δ F Z En L z w ok => ⟨δ, F, Z, _, L, z, w, fun r δ' v F' H' p L' s k => ok.nx _ _ F' H' p (L'.setR k) s⟩⟩
def tRt (t : T3E) : T3S := fun Z En δ => t Z δ fun r δ' => En.rt r δ'
theorem s_ret {t : T3E} (he : E3 X E e t) : S3 X E (.Return (some e) pos) (tRt t) :=
  ⟨fun F0 H0 B => ps_imp (ps_ret (he.h F0 H0 B)) fun Dn σ H hh => ex4 hh fun δ F Z En L z w ok => ⟨δ, F, Z, _, L, z, w, fun r δ' v F' H' p L' s k => ok.rt r v σ δ' F' H' p L' s k⟩⟩
def tIf3 (c : T3T) (t u : T3S) : T3S := fun Z En δ => c Z δ fun k δ' => Br k (t Z En δ') (u Z En δ')
theorem s_if {A' B' : List Stmt} {tc : T3T} {t u : T3S} (hc : C3 X E c tc) (ha : B3 X E A' t) (hb : B3 X E B' u) : S3 X E (.If c A' B' pos) (tIf3 tc t u) :=
  ⟨fun F0 H0 B => ps_imp (ps_if (hc.h F0 H0 B) (ha.h F0 H0 B) (hb.h F0 H0 B)) fun Dn σ H hh => ex4 hh fun δ F Z En L z w ok => ⟨δ, F, Z, _, L, z, w, fun k δ' F' H' p L' s => by
    cases k with
    | true => rw [if_pos rfl]; exact ⟨δ', F', Z, En, L', z, p, ok.up s⟩
    | false => rw [if_neg Bool.false_ne_true]; exact ⟨δ', F', Z, En, L', z, p, ok.up s⟩⟩⟩
/-- while: P the word with its measure -/
def tWh (c : T3T) (tb : T3S) : T3S := fun Z En δ => ∃ P : Nat → List Sl → Prop, (∃ m, P m δ) ∧ ∀ m δ, P m δ →
  c Z δ fun k δ' => Br k (tb Z { En with nx := fun δ2 => ∃ m', m' < m ∧ P m' δ2, ct := fun δ2 => ∃ m', m' < m ∧ P m' δ2, bk := En.nx } δ') (En.nx δ')
theorem s_while {body : List Stmt} {tc : T3T} {tb : T3S} (hp : PassesOwn (model X.prog X.w) X.A X.env X.xe) (hc : C3 X E c tc) (hb : B3 X E body tb) : S3 X E (.While c body [] pos) (tWh tc tb) :=
  ⟨fun F0 H0 B => ps_imp (ps_while hp (hc.h F0 H0 B) (hb.h F0 H0 B)) fun Dn σ H hh => ex4 hh fun δ F Z En L z w ok => by
    obtain ⟨P, ⟨m0, p0⟩, turn⟩ := w
    refine ⟨fun m σ H => ∃ δ F1, Lk X.K F0 H0 B σ δ F1 H ∧ Same F F1 ∧ P m δ, ⟨m0, δ, F, L, Same.refl _, p0⟩, ?_⟩
    rintro m σ1 H1 ⟨δ1, F1, L1, s1, p1⟩
    refine ⟨δ1, F1, Z, _, L1, z, turn m δ1 p1, fun k δ2 F2 H2 p2 L2 s2 => ?_⟩
    cases k with
    | true =>
      rw [if_pos rfl]
      refine ⟨fun σ' H' => ∃ δ' F' m', m' < m ∧ Lk X.K F0 H0 B σ' δ' F' H' ∧ Same F F' ∧ P m' δ', ?_, δ2, F2, Z, _, L2, z, p2, ?_⟩
      · rintro σ' H' ⟨δ', F', m', hm, L', s', p'⟩
        exact ⟨m', hm, δ', F', L', s', p'⟩
      · exact ⟨fun σ' δ' F' H' ⟨m', hm, p'⟩ L' s' => ⟨δ', F', m', hm, L', (s1.trans s2).trans s', p'⟩, (ok.up (s1.trans s2)).rt, (ok.up (s1.trans s2)).nx, fun σ' δ' F' H' ⟨m', hm, p'⟩ L' s' => ⟨δ', F', m', hm, L', (s1.trans s2).trans s', p'⟩⟩
    | false =>
      rw [if_neg Bool.false_ne_true]
      exact ok.nx _ _ _ _ p2 L2 (s1.trans s2)⟩

/-! ### targets -/
abbrev T3G := D → List Sl → (List Sl → Prop) → Prop
abbrev T3Gs := List D → List Sl → (List Sl → Prop) → Prop
def LG (K : PySem.W.Frag) (F0 H0 : Hp) (B : Option Addr) (g : T3G) : TG := fun v σ H Q => ∃ δ F x P, Lk K F0 H0 B σ δ F H ∧ Rp K F v x ∧ g x δ P ∧ ∀ σ' δ' F' H', P δ' → Lk K F0 H0 B σ' δ' F' H' → Same F F' → Q σ' H'
def LGs (K : PySem.W.Frag) (F0 H0 : Hp) (B : Option Addr) (g : T3Gs) : TGs := fun vs σ H Q => ∃ δ F xs P, Lk K F0 H0 B σ δ F H ∧ Rps K F vs xs ∧ g xs δ P ∧ ∀ σ' δ' F' H', P δ' → Lk K F0 H0 B σ' δ' F' H' → Same F F' → Q σ' H'
structure G3 (X : Cx) (tg : Expr) (g : T3G) : Prop where
  h : ∀ F0 H0 B, PG X tg (LG X.K F0 H0 B g)
structure Gs3 (X : Cx) (tgs : List Expr) (g : T3Gs) : Prop where
  h : ∀ F0 H0 B, PGs X tgs (LGs X.K F0 H0 B g)
theorem pg_imp {tg : Expr} {t t' : TG} (h : PG X tg t) (i : ∀ v σ H Q, t' v σ H Q → t v σ H Q) : PG X tg t' := fun pins s σ H v u Q I r w => h pins s σ H v u Q I r (i _ _ _ _ w)
theorem pgs_imp {tg : List Expr} {t t' : TGs} (h : PGs X tg t) (i : ∀ v σ H Q, t' v σ H Q → t v σ H Q) : PGs X tg t' := fun pins s σ H v u Q I r w => h pins s σ H v u Q I r (i _ _ _ _ w)
def gNm (i : Nat) : T3G := fun x δ Q => Q (δ.set i (.d x))
theorem g_name (i : Nat) {x : Str} (hN : X.N.Nodup) (hi : X.N[i]? = some x) (hx : Loc X.env.scope x) (hf : X.fn x = true ∨ X.env.scope.names.lookup x = some .local := by first | exact .inl rfl | exact .inr rfl | assumption) : G3 X (.Name x pos) (gNm i) :=
  ⟨fun F0 H0 B => pg_imp (pg_name hN hi hx hf) fun v σ H Q hh => ex4 hh fun δ F x P L r w q => q _ _ F H w (L.set r) (Same.refl _)⟩
def gNil3 : T3Gs := fun xs δ Q => match xs with
  | [] => Q δ
  | _ => False
def gCons3 (g : T3G) (gs : T3Gs) : T3Gs := fun xs δ Q => match xs with
  | x :: r => g x δ fun δ' => gs r δ' Q
  | [] => False
theorem gs_nil : Gs3 X [] gNil3 := ⟨fun F0 H0 B => pgs_imp pgs_nil fun vs σ H Q hh => ex4 hh fun δ F xs P L r w q => by
  cases r with
  | nil => exact ⟨rfl, q σ δ F H w L (Same.refl _)⟩
  | cons _ _ => exact w.elim⟩
theorem gs_cons {g : T3G} {gs : T3Gs} (h1 : G3 X e g) (h2 : Gs3 X es gs) (hs : (assignEach (e :: es) X.env).map (·.2) = assign e X.env :: (assignEach es X.env).map (·.2) := by rfl) : Gs3 X (e :: es) (gCons3 g gs) :=
  ⟨fun F0 H0 B => pgs_imp (pgs_cons (h1.h F0 H0 B) (h2.h F0 H0 B) hs) fun vs σ H Q hh => ex4 hh fun δ F xs P L r w q => by
    cases r with
    | nil => exact w.elim
    | cons r1 r2 => exact ⟨_, _, rfl, δ, F, _, _, L, r1, w, fun σ1 δ1 F1 H1 p1 L1 s1 => ⟨δ1, F1, _, _, L1, r2.same s1, p1, fun σ2 δ2 F2 H2 p2 L2 s2 => q σ2 δ2 F2 H2 p2 L2 (s1.trans s2)⟩⟩⟩
def gTu (n : Nat) (gs : T3Gs) : T3G := fun x δ Q => match x with
  | .tup xs => (match Nat.beq xs.length n with
    | true => gs xs δ Q
    | false => False)
  | _ => False
theorem g_tup {k : Nat} {gs : T3Gs} {n : Nat} (hc : X.calm = true) (h : Gs3 X es gs) (hn : (assignEach es X.env).length = n := by rfl) (hst : (assignEach es X.env).findIdx? (·.1) = none := by rfl) : G3 X (.Tuple es k pos) (gTu n gs) :=
  ⟨fun F0 H0 B => pg_imp (pg_tup hc (h.h F0 H0 B) hn hst) fun v σ H Q hh => ex4 hh fun δ F x P L r w q => by
    cases r with
    | tup hs rs =>
      unfold gTu at w
      dsimp only at w
      cases e : Nat.beq _ n with
      | false => rw [e] at w; exact w.elim
      | true =>
        rw [e] at w
        exact ⟨_, _, rfl, Fr.sqT_same L.fh hs, by rw [rs.len]; exact Nat.eq_of_beq_eq_true e, δ, F, _, P, L, rs, w, q⟩
    | _ => exact w.elim⟩
def tAs (t : T3D) (g : T3G) : T3S := fun Z En δ => t Z δ fun x δ' => g x δ' En.nx
theorem s_asg {tg : Expr} {t : T3D} {g : T3G} (he : D3 X E e t) (hg : G3 X tg g) (hs : swapsWithSole [tg] e pos.line X.env = pure false := by rfl) (hw : swappedStores [tg] e X.env = pure none := by rfl)
    (h1 : (assignEach [tg] X.env).map (·.2) = [assign tg X.env] := by rfl) : S3 X E (.Assign [tg] e pos) (tAs t g) :=
  ⟨fun F0 H0 B => ps_imp (ps_asg (he.h F0 H0 B) (hg.h F0 H0 B) hs hw h1) fun Dn σ H hh => ex4 hh fun δ F Z En L z w ok => ⟨δ, F, Z, _, L, z, w, fun x δ' v F' H' p L' s r =>
    ⟨δ', F', x, _, L', r, p, fun σ2 δ2 F2 H2 p2 L2 s2 => ok.nx σ2 δ2 F2 H2 p2 L2 (s.trans s2)⟩⟩⟩
def tPr (i j : Nat) (t : T3A) : T3S := fun Z En δ => t Z δ fun xs δ' => match xs with
  | [x, y] => En.nx ((δ'.set i (.d x)).set j (.d y))
  | _ => False
theorem s_par (i j : Nat) {x y : Str} {t : T3A} {px py pt : Pos} {kt k2 pt2} (hc : X.calm = true) (hN : X.N.Nodup) (hi : X.N[i]? = some x) (hj : X.N[j]? = some y) (hij : i ≠ j)
    (hx : X.env.scope.names.lookup x = some .local) (hy : X.env.scope.names.lookup y = some .local) (ha : A3 X E [a, b] t)
    (hw : swappedStores [.Tuple [.Name x px, .Name y py] kt pt] (.Tuple [a, b] k2 pt2) X.env = pure (some [x, y]) := by rfl)
    (hs : swapsWithSole [.Tuple [.Name x px, .Name y py] kt pt] (.Tuple [a, b] k2 pt2) pos.line X.env = pure false := by rfl) :
    S3 X E (.Assign [.Tuple [.Name x px, .Name y py] kt pt] (.Tuple [a, b] k2 pt2) pos) (tPr i j t) :=
  ⟨fun F0 H0 B => ps_imp (ps_par hc hN hi hj hij hx hy (ha.h F0 H0 B) hw hs) fun Dn σ H hh => ex4 hh fun δ F Z En L z w ok => ⟨δ, F, Z, _, L, z, w, fun xs δ' vs F' H' p L' s r => by
    cases r with
    | nil => exact p.elim
    | cons r1 r =>
      cases r with
      | nil => exact p.elim
      | cons r2 r =>
        cases r with
        | cons _ _ => exact p.elim
        | nil => exact ⟨_, _, rfl, ok.nx _ _ F' H' p ((L'.set r1).set r2) s⟩⟩⟩
/-! ### x += e of ints -/
/-! ### for -/
abbrev T3I := Zk → List Sl → (List D → List Sl → Prop) → Prop
structure ItOk (K : PySem.W.Frag) (F1 : Hp) (J : It) (xs : List D) : Prop where
  go : ∀ i F H, Same F1 F → Same F H → i < xs.length → J.go i H
  yld : ∀ i F H x H', Same F1 F → Same F H → i < xs.length → J.yld i H x H' → ∃ F' d, Same F F' ∧ Same F' H' ∧ Same H H' ∧ (∀ a, H a ≠ none → F' a = F a) ∧ xs[i]? = some d ∧ Rp K F' x d
  stop : ∀ F H, Same F1 F → Same F H → J.stop xs.length H
def LI (K : PySem.W.Frag) (E : XK) (F0 H0 : Hp) (B : Option Addr) (t : T3I) : TI := fun σ H R => ∃ δ F Z P, Lk K F0 H0 B σ δ F H ∧ ZOk K E F0 H0 B Z ∧ t Z δ P ∧ ∀ xs δ' F' H' J, P xs δ' → Lk K F0 H0 B σ δ' F' H' → Same F F' → ItOk K F' J xs → R J H'
structure I3 (X : Cx) (E : XK) (tg iter : Expr) (t : T3I) : Prop where
  h : ∀ F0 H0 B, PI X tg iter (LI X.K E F0 H0 B t)
theorem pi_imp {tg iter : Expr} {t t' : TI} (h : PI X tg iter t) (i : ∀ σ H R, t' σ H R → t σ H R) : PI X tg iter t' := fun pins s σ H R I w => h pins s σ H R I (i _ _ _ w)
def forL (g : T3G) (tb : T3S) (Z : Zk) (En : En) : List D → List Sl → Prop
  | [], δ => En.nx δ
  | x :: xs, δ => g x δ fun δ1 => tb Z { nx := fun δ2 => forL g tb Z En xs δ2, ct := fun δ2 => forL g tb Z En xs δ2, bk := En.nx, rt := En.rt } δ1
def tFr (ti : T3I) (g : T3G) (tb : T3S) : T3S := fun Z En δ => ti Z δ fun xs δ' => forL g tb Z En xs δ'
theorem s_for {tg iter : Expr} {body : List Stmt} {ti : T3I} {g : T3G} {tb : T3S} (hp : PassesOwn (model X.prog X.w) X.A X.env X.xe) (hc : X.calm = true) (hi : I3 X E tg iter ti) (hg : G3 X tg g) (hb : B3 X E body tb)
    (hs : ∀ x, foldedSetIterable iter X.env x = pure x := by intro _; rfl) : S3 X E (.For tg iter body [] pos) (tFr ti g tb) :=
  ⟨fun F0 H0 B => ps_imp (ps_for hp hc (hi.h F0 H0 B) (hg.h F0 H0 B) (hb.h F0 H0 B) hs) fun Dn σ H hh => ex4 hh fun δ F Z En L z w ok => by
    refine ⟨δ, F, Z, _, L, z, w, fun xs δ1 F1 H1 J p1 L1 s1 it => ?_⟩
    refine ⟨fun i m σ H => m = xs.length - i ∧ i ≤ xs.length ∧ ∃ δ F, Lk X.K F0 H0 B σ δ F H ∧ Same F1 F ∧ forL g tb Z En (xs.drop i) δ, ⟨xs.length, by simp, Nat.zero_le _, δ1, F1, L1, Same.refl _, p1⟩, ?_⟩
    rintro i m σ2 H2 ⟨rfl, hi2, δ2, F2, L2, s2, p2⟩
    by_cases lt : i < xs.length
    · refine .inr ⟨it.go i F2 H2 s2 L2.fh lt, fun σ' H' => ∃ δ' F', Lk X.K F0 H0 B σ' δ' F' H' ∧ Same F1 F' ∧ forL g tb Z En (xs.drop (i + 1)) δ', ?_, fun x H3 y => ?_⟩
      · rintro σ' H' ⟨δ', F', L', s', p'⟩
        exact ⟨xs.length - (i + 1), by omega, rfl, lt, δ', F', L', s', p'⟩
      · obtain ⟨F3, d, a1, a2, a3, a4, a5, a6⟩ := it.yld i F2 H2 x H3 s2 L2.fh lt y
        have L3 := L2.grow a1 a2 a3 a4
        have ed : xs.drop i = d :: xs.drop (i + 1) := by
          rw [List.drop_eq_getElem_cons lt]
          rw [(List.getElem?_eq_some_iff.mp a5).2]
        rw [ed] at p2
        refine ⟨δ2, F3, d, _, L3, a6, p2, fun σ4 δ4 F4 H4 p4 L4 s4 => ⟨δ4, F4, Z, _, L4, z, p4, ?_⟩⟩
        have sf : Same F F4 := s1.trans (s2.trans (a1.trans s4))
        have s14 : Same F1 F4 := s2.trans (a1.trans s4)
        exact ⟨fun σ5 δ5 F5 H5 p5 L5 s5 => ⟨δ5, F5, L5, s14.trans s5, p5⟩, (ok.up sf).rt, (ok.up sf).nx, fun σ5 δ5 F5 H5 p5 L5 s5 => ⟨δ5, F5, L5, s14.trans s5, p5⟩⟩
    · have e : i = xs.length := by omega
      subst e
      rw [List.drop_length] at p2
      exact .inl ⟨it.stop F2 H2 s2 L2.fh, ok.nx _ _ _ _ p2 L2 (s1.trans s2)⟩⟩
/-! what is walked -/
/-- lo, lo + 1, .. -/
def rngD (lo : Int) (n : Nat) : List D := (List.range n).map fun k : Nat => D.int (lo + (k : Int))
theorem rngD_len (lo : Int) (n : Nat) : (rngD lo n).length = n := by simp [rngD]
theorem rngD_at {lo : Int} {n i : Nat} (h : i < n) : (rngD lo n)[i]? = some (.int (lo + (i : Int))) := by simp [rngD, h]
theorem it_range {K : PySem.W.Frag} {F : Hp} {lo : Int} {n : Nat} : ItOk K F (Itr lo n) (rngD lo n) :=
  ⟨fun i F2 H2 _ _ lt => by rw [rngD_len] at lt; exact lt, fun i F2 H2 y H3 a1 a2 lt yy => by
    rw [rngD_len] at lt
    obtain ⟨rfl, rfl⟩ := yy
    exact ⟨F2, _, Same.refl _, a2, Same.refl _, fun _ _ => rfl, rngD_at lt, .int _⟩, fun F2 H2 _ _ => by rw [rngD_len]; exact Nat.le_refl _⟩
/-- a number that a range takes -/
def InR (i : Int) : Prop := -(2 ^ 62) ≤ i ∧ i < 2 ^ 62
def tIR1 (t : T3A) : T3I := fun Z δ Q => t Z δ fun xs δ' => match xs with
  | [.int j] => InR j ∧ Q (rngD 0 j.toNat) δ'
  | _ => False
theorem i_range1 {tg : Expr} {t : T3A} {p : Pos} (hg : Gl X "range") (hm : X.mg "range" = none) (ha : A3 X E [a] t) (hs : starEach [a] X.env = [(false, eval a X.env)] := by rfl) : I3 X E tg (.Call (.Name "range" p) [a] [] pos) (tIR1 t) :=
  ⟨fun F0 H0 B => pi_imp (pi_range1 hg hm (ha.h F0 H0 B) hs) fun σ H R hh => ex4 hh fun δ F Z P L z w q => ⟨δ, F, Z, _, L, z, w, fun xs δ' vs F' H' p L' s r => by
    obtain ⟨j, rfl, k⟩ := m1I p
    obtain ⟨v, rfl, r0⟩ := r.inv1
    exact ⟨j, by rw [r0.inv_int], k.1.1, k.1.2, q _ δ' F' H' _ k.2 L' s it_range⟩⟩⟩
end
end L3

set_option Elab.async false
set_option linter.all false
set_option maxRecDepth 100000
/-! What a def owns is changed; new lists. -/
namespace L3
open PySem PySem.Spec L2
section
variable {K : PySem.W.Frag} {F0 H0 F H F' H' : Hp} {B : Option Addr} {σ : St} {δ : List Sl}
/-- the object that a name owns or was lent -/
def Sl.ob : Sl → Option Ob
  | .own o => some o
  | .bor o => some o
  | _ => none
def Sl.put (s : Sl) (o : Ob) : Sl := match s with
  | .own _ => .own o
  | .bor _ => .bor o
  | x => x
theorem Lk.ob {i : Nat} {s : Sl} {o : Ob} (L : Lk K F0 H0 B σ δ F H) (e : δ[i]? = some s) (h : s.ob = some o) : ∃ a, σ[i]? = some (some (.ref a)) ∧ F a = none ∧ OwnOk K F H a o := by
  have q := L.sl i s e
  cases s with
  | own o' => cases h; obtain ⟨a, e1, f, _, w⟩ := q; exact ⟨a, e1, f, w⟩
  | bor o' => cases h; obtain ⟨a, e1, _, f, w⟩ := q; exact ⟨a, e1, f, w⟩
  | un => cases h
  | d x => cases h
theorem Lk.mutS {i : Nat} {s : Sl} {o o' : Ob} {a : Addr} {ho : HO} (L : Lk K F0 H0 B σ δ F H) (e : δ[i]? = some s) (h : s.ob = some o) (ea : σ[i]? = some (some (.ref a))) (w : OwnOk K F (upd H a ho) a o') :
    Lk K F0 H0 B σ (δ.set i (s.put o')) F (upd H a ho) := by
  cases s with
  | own o1 => exact L.mut e ea w
  | bor o1 => exact L.mutB e ea w
  | un => cases h
  | d x => cases h
def go (δ : List Sl) (i : Nat) : Option Ob := match δ[i]? with
  | some s => s.ob
  | none => none
def upS (f : Sl → Sl) : List Sl → Nat → List Sl
  | [], _ => []
  | s :: l, 0 => f s :: l
  | s :: l, n + 1 => s :: upS f l n
def pt (δ : List Sl) (i : Nat) (o : Ob) : List Sl := upS (fun s => s.put o) δ i
def upM (f : Sl → Sl) (δ : List Sl) (i : Nat) : List Sl := match δ[i]? with
  | some s => δ.set i (f s)
  | none => δ
theorem upS_eq (f : Sl → Sl) : ∀ (δ : List Sl) (i : Nat), upS f δ i = upM f δ i
  | [], _ => rfl
  | s :: l, 0 => rfl
  | s :: l, n + 1 => by
    show s :: upS f l n = _
    rw [upS_eq f l n]
    unfold upM
    rw [List.getElem?_cons_succ]
    cases l[n]? <;> rfl
theorem pt_eq (δ : List Sl) (i : Nat) (o : Ob) : pt δ i o = match δ[i]? with
  | some s => δ.set i (s.put o)
  | none => δ := upS_eq _ δ i
theorem Lk.go {i : Nat} {o : Ob} (L : Lk K F0 H0 B σ δ F H) (e : go δ i = some o) : ∃ a, σ[i]? = some (some (.ref a)) ∧ F a = none ∧ OwnOk K F H a o ∧
    ∀ o' ho, OwnOk K F (upd H a ho) a o' → Lk K F0 H0 B σ (pt δ i o') F (upd H a ho) := by
  unfold L3.go at e
  cases q : δ[i]? with
  | none => rw [q] at e; cases e
  | some s =>
    rw [q] at e
    obtain ⟨a, e1, f, w⟩ := L.ob q e
    refine ⟨a, e1, f, w, fun o' ho w' => ?_⟩
    rw [pt_eq]
    rw [q]
    exact L.mutS q e e1 w'
end
section
variable {X : Cx} {E : XK} {e a b c o : Expr} {es : List Expr} {pos : Pos}
/-- xs.append(e) -/
def tAp (i : Nat) (t : T3D) : T3S := fun Z En δ => match go δ i with
  | some (.lst _) => t Z δ fun x δ' => (match go δ' i with
    | some (.lst xs) => xs.length ≤ 1000000 ∧ En.nx (pt δ' i (.lst (xs ++ [x])))
    | _ => False)
  | _ => False
theorem s_append (i : Nat) {x : Str} {p apos cpos : Pos} {t : T3D} (he : D3 X E e t) (hN : X.N[i]? = some x := by rfl) (hv : Vis X.env.scope x := by first | exact Or.inl rfl | exact Or.inr (Or.inl rfl) | exact Or.inr (Or.inr rfl))
    (hd : (x == ("__debug__" : Str)) = false := by decide) (hcd : (x == ("__classdict__" : Str)) = false := by decide) (hs : starEach [e] X.env = (false, eval e X.env) :: starEach [] X.env := by rfl)
    (hsw : swapsWith (.Call (.Attribute (.Name x p) "append" apos) [e] [] cpos) none pos.line X.env = pure false := by rfl)
    (hfew : ((backTo cpos (starEach [e] X.env)).all (fun x => !x.1) && (backToKw cpos (keywordEach [] X.env)).all (fun x => x.1.isSome)
      && decide ([e].length + ([] : List Keyword).length + (if ([] : List Keyword).isEmpty then 0 else 1) < 30)) = true := by rfl) (hline : (apos.endLine == cpos.line) = true := by rfl) :
    S3 X E (.Expr (.Call (.Attribute (.Name x p) "append" apos) [e] [] cpos) pos) (tAp i t) :=
  ⟨fun F0 H0 B => ps_imp (ps_expr (pe_bm PySem.F.plainAttrs_list PySem.F.slot_list_append PySem.F.type_list_append mt_append (pe_var (pos := p) hN hv hd hcd) (pa_cons (he.h F0 H0 B) pa_nil hs) rfl hfew hline hs rfl) hsw) fun Dn σ H hh => ex4 hh fun δ F Z En L z w ok => by
    unfold tAp at w
    cases e0 : L3.go δ i with
    | none => rw [e0] at w; exact w.elim
    | some ob =>
      rw [e0] at w
      cases ob with
      | lst xs0 =>
        obtain ⟨a, e1, f1, ⟨vs0, h1, r1⟩, _⟩ := L.go e0
        refine ⟨_, e1, .inl ⟨rfl, _, SqL.of h1⟩, δ, F, Z, _, L, z, w, fun y δ' v F' H' p' L' s r => ?_⟩
        cases e2 : L3.go δ' i with
        | none => rw [e2] at p'; exact p'.elim
        | some ob2 =>
          rw [e2] at p'
          cases ob2 with
          | lst xs =>
            obtain ⟨a', e3, f3, ⟨vs, h3, r3⟩, up⟩ := L'.go e2
            rw [e1] at e3
            cases e3
            refine ⟨_, _, _, rfl, rfl, h3, by rw [r3.len]; exact line_big p'.1, ?_⟩
            exact ok.nx _ _ F' _ p'.2 (up _ _ ⟨_, upd_same, r3.append (.one r)⟩) s
          | _ => exact p'.elim
      | _ => exact w.elim⟩
/-! ### new lists -/
theorem Rps.repl {K : PySem.W.Frag} {F : Hp} {vs : List V} {xs : List D} (r : Rps K F vs xs) : ∀ n : Nat, Rps K F (List.replicate n vs).flatten (List.replicate n xs).flatten
  | 0 => .nil
  | n + 1 => r.append (Rps.repl r n)
/-- list(..) -/
def tCN (r3 : List D → (List D → Prop) → Prop) (t : T3A) : T3E := fun Z δ Q => t Z δ fun xs δ' => r3 xs fun ys => Q (.own (.lst ys)) δ'
def NC (K : PySem.W.Frag) (r : List V → Hp → VK → Prop) (r3 : List D → (List D → Prop) → Prop) : Prop := ∀ F H xs vs (Q : VK) (P : List D → Prop), Same F H → Rps K F vs xs → r3 xs P →
  (∀ ys us p, P ys → Rps K F us ys → H p = none → Q (.ref p) (upd H p (.lst us))) → r vs H Q
theorem lo_cn {K : PySem.W.Frag} {F0 H0 : Hp} {B : Option Addr} {t : T3A} {r : List V → Hp → VK → Prop} {r3 : List D → (List D → Prop) → Prop} (rel : NC K r r3) {σ : St} {H : Hp} {Q : VK} (h : LE K E F0 H0 B (tCN r3 t) σ H Q) : tCB r (LA K E F0 H0 B t) σ H Q := by
  obtain ⟨δ, F, Z, P, L, z, w, q⟩ := h
  refine ⟨δ, F, Z, _, L, z, w, fun xs δ' vs F' H' p L' s rs => rel F' H' xs vs Q _ L'.fh rs p fun ys us a py ru ha => ?_⟩
  obtain ⟨L3, k3⟩ := L'.newO (ho := .lst us) ha (o := .lst ys) ⟨us, upd_same, ru⟩
  exact q _ δ' _ _ _ py L3 s k3
theorem e_callTyN {x : Str} {p : Pos} {id : String} {r : List V → Hp → VK → Prop} {r3 : List D → (List D → Prop) → Prop} {t : T3A} (hc : CallR X (.type id) r) (rel : NC X.K r r3) (hg : Gl X x) (hm : X.mg x = none) (hv : bootBuiltins x = some (.type id)) (ha : A3 X E (e :: es) t) (hn : x ≠ "__name__" := by decide) (hdb : (x == ("__debug__" : Str)) = false := by decide)
    (he : starEach (e :: es) X.env = (false, eval e X.env) :: starEach es X.env := by rfl) (hpl : (backTo pos (starEach es X.env)).any (·.1) = false := by rfl) : E3 X E (.Call (.Name x p) (e :: es) [] pos) (tCN r3 t) :=
  ⟨fun F0 H0 B => pe_imp (pe_callTy hc hg hm hv (ha.h F0 H0 B) hn hdb he hpl) fun _ _ _ h => lo_cn rel h⟩
def nList : List D → (List D → Prop) → Prop := fun xs P => match xs with
  | [.lst ys] => P ys
  | [.tup ys] => P ys
  | _ => False
theorem n_list {K : PySem.W.Frag} : NC K (fun xs H Q => ∃ p ys, xs = [.ref p] ∧ (SqL K H p ys ∨ SqT K H p ys) ∧ ∀ l, H l = none → Q (.ref l) (upd H l (.lst ys))) nList := by
  intro F H xs vs Q P fh rs h q
  cases rs with
  | nil => exact h.elim
  | cons r rs =>
    cases rs with
    | cons r2 rs => cases r <;> exact h.elim
    | nil =>
      cases r with
      | lst hs rr => exact ⟨_, _, rfl, .inl (SqL.of (fh _ _ hs)), fun l hl => q _ _ l h rr hl⟩
      | tup hs rr => exact ⟨_, _, rfl, .inr (Fr.sqT_same fh hs), fun l hl => q _ _ l h rr hl⟩
      | _ => exact h.elim
/-- xs[lo:hi] -/
abbrev T3O := Zk → List Sl → (Option Int → List Sl → Prop) → Prop
def LO (K : PySem.W.Frag) (E : XK) (F0 H0 : Hp) (B : Option Addr) (t : T3O) : TO := fun σ H Q => ∃ δ F Z P, Lk K F0 H0 B σ δ F H ∧ ZOk K E F0 H0 B Z ∧ t Z δ P ∧ ∀ b δ' F' H', P b δ' → Lk K F0 H0 B σ δ' F' H' → Same F F' → Q b H'
structure O3 (X : Cx) (E : XK) (e : Option Expr) (t : T3O) : Prop where
  h : ∀ F0 H0 B, PO X e (LO X.K E F0 H0 B t)
end
end L3

set_option Elab.async false
set_option linter.all false
set_option maxRecDepth 100000
/-! Defs and calls over data. -/
namespace L3
open PySem PySem.Spec L2
/-- a def's promise over data: the slots of its parameters; what comes back and what the lent object is then; what is raised -/
abbrev Sp3 := List Sl → (Rv → Option Ob → Prop) → (Addr → Option Ob → Prop) → Prop
def borOf : List Sl → Option Ob
  | [] => none
  | .bor o :: _ => some o
  | _ :: l => borOf l
structure Fin (K : PySem.W.Frag) (F0 H0 : Hp) (B : Option Addr) (F H : Hp) (ob : Option Ob) : Prop where
  fh : Same F H
  f0 : Same F0 F
  h0 : ∀ a o, H0 a = some o → B ≠ some a → H a = some o
  ff : ∀ a, H0 a ≠ none → F a = F0 a
  bt : ∀ b, B = some b → H b ≠ none
  ob : ∀ o, ob = some o → ∃ a, B = some a ∧ F a = none ∧ OwnOk K F H a o
def Rk (K : PySem.W.Frag) (H0 F H : Hp) (r : Rv) (v : V) : Prop :=
  match r with
  | .d x => Rp K F v x
  | .own o => ∃ a, v = .ref a ∧ F a = none ∧ H0 a = none ∧ OwnOk K F H a o
def lsp (K : PySem.W.Frag) (sp : Sp3) : Sp := fun vs H Q E => ∃ F B δ P Zx, Lk K F H B (vs.map some) δ F H ∧ sp δ P Zx ∧ (∀ r ob v F' H', P r ob → Fin K F H B F' H' ob → Rk K H F' H' r v → Q v H') ∧ (∀ C ob F' H', Zx C ob → Fin K F H B F' H' ob → E (.ref C) none H')
theorem borOf_some : ∀ {δ : List Sl} {o : Ob}, borOf δ = some o → ∃ i : Nat, δ[i]? = some (.bor o)
  | [], _, h => by cases h
  | .bor o :: _, _, h => by cases h; exact ⟨0, rfl⟩
  | .un :: l, _, h => by obtain ⟨i, e⟩ := borOf_some (δ := l) h; exact ⟨i + 1, by simpa using e⟩
  | .d _ :: l, _, h => by obtain ⟨i, e⟩ := borOf_some (δ := l) h; exact ⟨i + 1, by simpa using e⟩
  | .own _ :: l, _, h => by obtain ⟨i, e⟩ := borOf_some (δ := l) h; exact ⟨i + 1, by simpa using e⟩
theorem Lk.fin {K : PySem.W.Frag} {F0 H0 F H : Hp} {B : Option Addr} {σ : St} {δ : List Sl} (L : Lk K F0 H0 B σ δ F H) : Fin K F0 H0 B F H (borOf δ) :=
  ⟨L.fh, L.f0, L.h0, L.ff, fun b e => (L.bt b e).2, fun o e => by
    obtain ⟨i, ei⟩ := borOf_some e
    obtain ⟨a, _, hB, f, w⟩ := L.sl i _ ei
    exact ⟨a, hB, f, w⟩⟩
theorem Rok.rk {K : PySem.W.Frag} {H0 F H : Hp} {σ : St} {δ : List Sl} {r : Rv} {v : V} (k : Rok K H0 F H σ δ r v) : Rk K H0 F H r v := by
  cases r with
  | d x => exact k
  | own o => obtain ⟨a, e, f, h, w, _⟩ := k; exact ⟨a, e, f, h, w⟩
theorem Lk.entry {K : PySem.W.Frag} {F H : Hp} {B : Option Addr} {vs : List V} {δ : List Sl} {N : List Str} (L : Lk K F H B (vs.map some) δ F H) : Lk K F H B (L2.start N vs) (δ ++ List.replicate (N.length - vs.length) .un) F H := by
  have len : δ.length = vs.length := by rw [L.len, List.length_map]
  have at' : ∀ (i : Nat) (s : Sl), (δ ++ List.replicate (N.length - vs.length) .un)[i]? = some s → s = .un ∨ (δ[i]? = some s ∧ (L2.start N vs)[i]? = (vs.map some)[i]?) := fun i s e => by
    by_cases h : i < δ.length
    · rw [List.getElem?_append_left h] at e
      refine .inr ⟨e, ?_⟩
      unfold L2.start
      rw [List.getElem?_append_left (by rw [List.length_map]; omega)]
    · rw [List.getElem?_append_right (by omega), List.getElem?_replicate] at e
      split at e
      · cases e; exact .inl rfl
      · cases e
  refine ⟨L.fh, L.f0, L.h0, L.ff, L.bt, by unfold L2.start; simp [len], fun i s e => ?_, fun i j o o' e1 e2 e3 => ?_, fun i j o o' e1 e2 => ?_, L.tb⟩
  · rcases at' i s e with rfl | ⟨e1, e2⟩
    · trivial
    · rw [e2]; exact L.sl i s e1
  · rcases at' i _ e1 with z | ⟨a1, a2⟩
    · cases z
    · rcases at' j _ e2 with z | ⟨b1, b2⟩
      · cases z
      · rw [a2, b2] at e3; exact L.ne i j o o' a1 b1 e3
  · rcases at' i _ e1 with z | ⟨a1, a2⟩
    · cases z
    · rcases at' j _ e2 with z | ⟨b1, b2⟩
      · cases z
      · exact L.nb i j o o' a1 b1
/-- THE RULE for a def -/
theorem ok3 {P : Program} {w : World} {K : PySem.W.Frag} {mg : Str → Option Value} {base : Heap} {x qual : Str} {st : Stmt} {f : Addr} {fd : FuncData} {N ps : List Str} {k : Nat} {sp : Sp3} (F : Fun K x qual st f fd) (S : FnScope N ps (defScope st))
    (len : ∀ δ Q Z, sp δ Q Z → δ.length = ps.length)
    (hbody : ∀ (cdv : Value) (A : Around) (outer : List Env) (s : Shared) (H : Hp) (E : XK), Room k (A.deeper (PyProof.Rows.envOfC qual (defScope st) s.heap.objs.size f cdv)) →
      ∃ t, B3 (cxOf (Fr.CX1 P w) P w K mg base N qual (defScope st) f cdv A outer s H E) E (defBody st) t ∧
        ∀ δ Q Z, sp δ Q Z → t (fun C δ' => Z C (borOf δ')) { nx := fun δ' => Q (.d .non) (borOf δ'), rt := fun r δ' => Q r (borOf δ') } (δ ++ List.replicate (N.length - ps.length) .un)) :
    FnOk P w K mg base (Fr.CX1 P w) (k + 1) f fd ps (lsp K sp) := by
  have len2 : ∀ vs H Q E, lsp K sp vs H Q E → vs.length = ps.length := fun vs H Q E ⟨F, B, δ, P', Zx, L, h, _⟩ => by
    have := L.len
    rw [List.length_map] at this
    rw [← this]
    exact len δ _ _ h
  refine Fr.ok1 F S len2 fun cdv A outer s H vs Q E hr h => ?_
  have hl := len2 vs H Q E h
  obtain ⟨t, hb, run⟩ := hbody cdv A outer s H E hr
  obtain ⟨F', B, δ, P', Zx, L, h, q, qe⟩ := h
  refine ⟨_, hb.h F' H B, _, F', (fun C δ' => Zx C (borOf δ')), { nx := fun δ' => P' (.d .non) (borOf δ'), rt := fun r δ' => P' r (borOf δ') }, L.entry (N := N), ?_, ?_⟩
  · exact fun C σ' δ' F2 H2 L2 z => qe C _ F2 H2 z L2.fin
  · refine ⟨by rw [hl]; exact run δ P' Zx h, ⟨fun σ' δ' F2 H2 p L2 _ => q _ _ _ F2 H2 p L2.fin Rp.non, fun r v σ' δ' F2 H2 p L2 _ k => q _ _ _ F2 H2 p L2.fin k.rk, fun _ _ _ _ z => z.elim, fun _ _ _ _ z => z.elim⟩⟩

/-- the slots of a call's arguments that are data -/
theorem Lk.args {K : PySem.W.Frag} {F H : Hp} (tb : Tb K F) (fh : Same F H) {vs : List V} {xs : List D} (r : Rps K F vs xs) : Lk K F H none (vs.map some) (xs.map Sl.d) F H := by
  refine ⟨fh, Same.refl _, fun _ _ e _ => e, fun _ _ => rfl, fun _ e => (by cases e), by simp [r.len], fun i s e => ?_, fun i j o o' e1 _ _ => ?_, fun i j o o' e1 _ => ?_, tb⟩
  · rw [List.getElem?_map] at e
    cases q : xs[i]? with
    | none => rw [q] at e; cases e
    | some x =>
      rw [q] at e
      cases e
      obtain ⟨v, hv, rv⟩ := r.at q
      exact ⟨v, by rw [List.getElem?_map, hv]; rfl, rv⟩
  · rw [List.getElem?_map] at e1
    cases q : xs[i]? with
    | none => rw [q] at e1; cases e1
    | some x => rw [q] at e1; cases e1
  · rw [List.getElem?_map] at e1
    cases q : xs[i]? with
    | none => rw [q] at e1; cases e1
    | some x => rw [q] at e1; cases e1
/-- behind a call that was lent nothing -/
theorem Lk.after {K : PySem.W.Frag} {F0 H0 F H F2 H2 : Hp} {B : Option Addr} {σ : St} {δ : List Sl} {ob : Option Ob} (L : Lk K F0 H0 B σ δ F H) (f : Fin K F H none F2 H2 ob) : Lk K F0 H0 B σ δ F2 H2 :=
  L.grow f.f0 f.fh (fun a o e => f.h0 a o e fun z => by cases z) f.ff
theorem Lk.rok {K : PySem.W.Frag} {F0 H0 F H F2 H2 : Hp} {B : Option Addr} {σ : St} {δ : List Sl} {r : Rv} {v : V} (L : Lk K F0 H0 B σ δ F H) (k : Rk K H F2 H2 r v) : Rok K H0 F2 H2 σ δ r v := by
  cases r with
  | d x => exact k
  | own o =>
    obtain ⟨a, e, f, h, w⟩ := k
    refine ⟨a, e, f, (L.fr0 h).1, w, fun i o' ei z => ?_⟩
    obtain ⟨a', e1, _, _, w'⟩ := L.sl i _ ei
    rw [z] at e1
    cases e1
    obtain ⟨ho, eh⟩ := w'.there
    rw [h] at eh
    cases eh
section
variable {X : Cx} {E : XK} {e a b c o : Expr} {es : List Expr} {pos p : Pos}
/-- a def of the text, over data -/
abbrev Own3 (P : Program) (w : World) (K : PySem.W.Frag) (mg : Str → Option Value) (base : Heap) (k : Nat) (x : Str) (ps : List Str) (sp : Sp3) : Prop := Fr.Own1 P w K mg base k x ps (lsp K sp)
def tCl (sp : Sp3) (t : T3A) : T3E := fun Z δ Q => t Z δ fun xs δ' => sp (xs.map Sl.d) (fun r _ => Q r δ') (fun C _ => Z C δ')
theorem e_call {x : Str} {k : Nat} {ps : List Str} {sp : Sp3} {t : T3A} (O : Own3 X.prog X.w X.K X.mg X.base k x ps sp) (hx : Passes (Fr.CX1 X.prog X.w) X E) (hr : Room k X.A) (hg : Gl X x) (ha : A3 X E (e :: es) t) (hdb : (x == ("__debug__" : Str)) = false := by decide)
    (he : starEach (e :: es) X.env = (false, eval e X.env) :: starEach es X.env := by rfl) (hpl : (backTo pos (starEach es X.env)).any (·.1) = false := by rfl) : E3 X E (.Call (.Name x p) (e :: es) [] pos) (tCl sp t) :=
  ⟨fun F0 H0 B => by
    obtain ⟨f, fd, FF, hm, hk, hb⟩ := O
    refine pe_imp (pe_call (E := E) FF hr hg hm hk hb .nil hx (ha.h F0 H0 B) hdb he hpl) fun σ H Q hh => ex4 hh fun δ F Z P L z w q => ⟨δ, F, Z, _, L, z, w, fun xs δ' vs F' H' p L' s r => ?_⟩
    show lsp X.K sp (vs ++ []) H' Q E
    rw [List.append_nil]
    exact ⟨F', none, _, _, _, Lk.args L'.tbF L'.fh r, p, fun rr ob v F2 H2 p2 f2 k2 => q rr δ' v F2 H2 p2 (L'.after f2) (s.trans f2.f0) (L'.rok k2), fun C ob F2 H2 z2 f2 => z C σ δ' F2 H2 (L'.after f2) z2⟩⟩
end
end L3

set_option Elab.async false
set_option linter.all false
namespace Fr
open PySem L2
section
variable {es : List Expr} {env : Env}
theorem star_tup {a b c} : starEach (.Tuple a b c :: es) env = (false, eval (.Tuple a b c) env) :: starEach es env := by rfl
theorem star_lst {a b} : starEach (.List a b :: es) env = (false, eval (.List a b) env) :: starEach es env := by rfl
theorem star_name {a b} : starEach (.Name a b :: es) env = (false, eval (.Name a b) env) :: starEach es env := by rfl
theorem star_const {a b c} : starEach (.Constant a b c :: es) env = (false, eval (.Constant a b c) env) :: starEach es env := by rfl
theorem star_bin {a b c d} : starEach (.BinOp a b c d :: es) env = (false, eval (.BinOp a b c d) env) :: starEach es env := by rfl
theorem star_call {a b c d} : starEach (.Call a b c d :: es) env = (false, eval (.Call a b c d) env) :: starEach es env := by rfl
end
end Fr
namespace Fr
open PySem L2
/-! the same rules behind a fence: what stands in them is not looked through -/
structure WE (X : Cx) (e : Expr) (t : TE) : Prop where
  h : PE X e t
structure WA (X : Cx) (es : List Expr) (t : TA) : Prop where
  h : PA X es t
structure WS (X : Cx) (st : Stmt) (t : TS) : Prop where
  h : PS X st t
structure WSs (X : Cx) (sts : List Stmt) (t : TS) : Prop where
  h : PSs X sts t
section
variable {X : Cx} {e : Expr} {es : List Expr} {te : TE} {t : TA} {pos : Pos} {st : Stmt} {sts : List Stmt} {ts ts' : TS}
end
end Fr
namespace Fr
open PySem L2
section
variable {X : Cx} {e a b : Expr} {te ta tb : TE} {pos pos' : Pos} {sts : List Stmt} {i : Nat} {x : Str}
end
end Fr

set_option Elab.async false
set_option linter.all false
set_option maxRecDepth 100000
namespace L3
open PySem PySem.Spec L2
section
variable {X : Cx} {E : XK} {e a b c o : Expr} {es : List Expr} {pos p : Pos}
/-! ### attributes -/
/-! ### methods of data, instances made -/
/-- a method of a class of the text -/
structure MtOk (P : Program) (w : World) (K : PySem.W.Frag) (mg : Str → Option Value) (base : Heap) (k : Nat) (C : Addr) (m : Str) (ps : List Str) (sp : Sp3) : Prop where
  cl : Cls K C
  ex : ∃ (f : Addr) (fd : FuncData), FnOk P w K mg base (Fr.CX1 P w) k f fd ps (lsp K sp) ∧ Meth K C m f ∧ Binds K fd ps []
structure MkOk (P : Program) (w : World) (K : PySem.W.Frag) (mg : Str → Option Value) (base : Heap) (k : Nat) (x : Str) (C : Addr) (ps : List Str) (sp : Sp3) : Prop where
  ex : ∃ (f : Addr) (fd : FuncData), FnOk P w K mg base (Fr.CX1 P w) k f fd ps (lsp K sp) ∧ Mk K C f ∧ Binds K fd ps []
  m : mg x = some (.ref C)
end
end L3

set_option Elab.async false
set_option linter.all false
set_option maxRecDepth 100000
/-! A list comprehension with one name, whose element also reads names of the def around it. -/
namespace Fr
open PySem PySem.Spec L2
open PyProof.Rows hiding St
def clOf (cells : List (Str × Addr)) : List (Str × NameKind) → List (Str × Addr) → List (Str × Addr)
  | [], cs => cs
  | (n, k) :: r, cs => if k == .free then (match cells.lookup n with
    | some c => clOf cells r ((n, c) :: cs)
    | none => clOf cells r cs) else clOf cells r cs
theorem clOf_mem {cells : List (Str × Addr)} : ∀ (ns : List (Str × NameKind)) (cs : List (Str × Addr)), (∀ p ∈ cs, cells.lookup p.1 = some p.2) → ∀ p ∈ clOf cells ns cs, cells.lookup p.1 = some p.2
  | [], cs, h => h
  | (n, k) :: r, cs, h => by
    unfold clOf
    split
    · split
      · rename_i c e
        exact clOf_mem r _ fun p hp => by
          rcases List.mem_cons.mp hp with rfl | hp
          · exact e
          · exact h p hp
      · exact clOf_mem r _ h
    · exact clOf_mem r _ h
theorem clOf_sub {cells : List (Str × Addr)} : ∀ (ns : List (Str × NameKind)) (cs : List (Str × Addr)), ∀ p ∈ cs, p ∈ clOf cells ns cs
  | [], cs, p, hp => hp
  | (n, k) :: r, cs, p, hp => by
    unfold clOf
    split
    · split
      · exact clOf_sub r _ p (List.mem_cons_of_mem _ hp)
      · exact clOf_sub r _ p hp
    · exact clOf_sub r _ p hp
theorem clOf_has {cells : List (Str × Addr)} : ∀ (ns : List (Str × NameKind)) (cs : List (Str × Addr)) (y : Str) (c : Addr), (y, NameKind.free) ∈ ns → cells.lookup y = some c → (y, c) ∈ clOf cells ns cs
  | (n, k) :: r, cs, y, c, hm, e => by
    unfold clOf
    rcases List.mem_cons.mp hm with h | h
    · cases h
      rw [if_pos (show (NameKind.free == NameKind.free) = true from rfl), e]
      exact clOf_sub r _ _ List.mem_cons_self
    · split
      · split
        · exact clOf_has r _ y c h e
        · exact clOf_has r _ y c h e
      · exact clOf_has r _ y c h e
theorem closure_is {scope : Scope} {env : Env} (h : ∀ y ∈ scope.names, y.2 = .free → ∃ c, env.cells.lookup y.1 = some c) : closureFor scope env = pure (clOf env.cells scope.names []) := by
  unfold closureFor
  generalize ([] : List (Str × Addr)) = cs
  revert h cs
  generalize scope.names = ns
  induction ns with
  | nil => intro h cs; rfl
  | cons x r ih =>
    intro h cs
    obtain ⟨n, k⟩ := x
    have ih' := ih fun y hy => h y (List.mem_cons_of_mem _ hy)
    unfold clOf
    by_cases hk : (k == NameKind.free) = true
    · obtain ⟨c, e⟩ := h (n, k) List.mem_cons_self (by simpa using hk)
      have e' : env.cells.lookup n = some c := e
      rw [if_pos hk, e']
      show _ = pure (clOf env.cells r ((n, c) :: cs))
      rw [← ih' ((n, c) :: cs)]
      simp only [List.forIn_cons, hk, if_true, cellOf, e']
      rfl
    · rw [if_neg hk]
      rw [← ih' cs]
      simp only [List.forIn_cons, hk]
      rfl
/-- the context of the block: its own name, the names that it reads around it -/
def cxCF (X : Cx) (scope : Scope) (x : Str) (fr : List (Str × Nat)) (s₀ : Shared) (H₀ : Hp) (fp : List Addr) (pn : List (Addr × Obj)) : Cx where
  prog := X.prog
  w := X.w
  K := X.K
  mg := X.mg
  base := X.base
  A := X.A
  N := x :: fr.map (·.1)
  s₀ := s₀
  H₀ := H₀
  env := compEnvC scope (clOf X.env.cells scope.names []) s₀.heap.objs.size X.env
  outer := X.stack
  stack := X.stack
  ex := fp
  fn := fun _ => false
  calm := X.calm
  pn := pn
  xe := fun _ _ => False
def stF (fr : List (Str × Nat)) (σ : St) : List (Option V) := fr.map fun q => (σ[q.2]?).join
/-- the names around the block are kept in cells -/
structure FrOk (X : Cx) (scope : Scope) (x : Str) (fr : List (Str × Nat)) : Prop where
  kind : scope.kind = .function
  names : ∀ y ∈ scope.names, y.2 = .local → scope.names.lookup y.1 = some .local
  own : scope.names.lookup x = some .local
  nocell : ∀ y ∈ scope.names, y.2 ≠ .cell
  frees : ∀ y ∈ scope.names, y.2 = .free → X.env.scope.names.lookup y.1 = some .cell
  at_ : ∀ q ∈ fr, X.N[q.2]? = some q.1 ∧ (q.1, NameKind.free) ∈ scope.names ∧ (relabel scope X.env).names.lookup q.1 = some .cell
  nd : (x :: fr.map (·.1)).Nodup
section
variable {X : Cx} {pins : List (Addr × Obj)} {σ : St} {H : Hp} {s : Shared} {scope : Scope} {x : Str} {fp : List Addr} {fr : List (Str × Nat)}
theorem cl_look {cells : List (Str × Addr)} {ns : List (Str × NameKind)} {y : Str} {c : Addr} (e : (clOf cells ns []).lookup y = some c) : cells.lookup y = some c :=
  clOf_mem ns [] (fun p hp => by cases hp) (y, c) (PySem.mem_of_lookup e)
theorem look_mem {β : Type} : ∀ {l : List (Str × β)} {y : Str} {c : β}, (y, c) ∈ l → ∃ c', l.lookup y = some c'
  | (n, k) :: r, y, c, h => by
    by_cases e : (y == n) = true
    · exact ⟨k, by simp [List.lookup_cons, e]⟩
    · rcases List.mem_cons.mp h with h | h
      · cases h
        exact absurd (by simp) e
      · obtain ⟨c', q⟩ := look_mem h
        exact ⟨c', by simp [List.lookup_cons, e, q]⟩
theorem relabel_kind {env : Env} : ∀ {ns : List (Str × NameKind)} {y : Str} {k : NameKind}, (ns.map fun (n, k) => if (k == NameKind.free && env.scope.kind == .function && env.kindOf n == some .cell) then (n, NameKind.cell) else (n, k)).lookup y = some k → (k = .cell ∨ k = .free) → (∀ z ∈ ns, z.2 ≠ .cell) → (y, NameKind.free) ∈ ns
  | (n, k0) :: r, y, k, h, hk, hc => by
    simp only [List.map_cons] at h
    by_cases e : (y == n) = true
    · have en : y = n := by simpa using e
      subst en
      by_cases c : (k0 == NameKind.free && env.scope.kind == .function && env.kindOf y == some .cell) = true
      · have : k0 = .free := by
          simp only [Bool.and_eq_true, beq_iff_eq] at c
          exact c.1.1
        rw [this]
        exact List.mem_cons_self
      · rw [if_neg c] at h
        simp only [List.lookup_cons, e] at h
        cases h
        rcases hk with rfl | rfl
        · exact absurd rfl (hc _ List.mem_cons_self)
        · exact List.mem_cons_self
    · have h' : (r.map fun (n, k) => if (k == NameKind.free && env.scope.kind == .function && env.kindOf n == some .cell) then (n, NameKind.cell) else (n, k)).lookup y = some k := by
        split at h
        · simpa [List.lookup_cons, e] using h
        · simpa [List.lookup_cons, e] using h
      exact List.mem_cons_of_mem _ (relabel_kind h' hk fun z hz => hc z (List.mem_cons_of_mem _ hz))
end
section
variable {X : Cx}
end
end Fr

set_option Elab.async false
set_option linter.all false
set_option maxRecDepth 100000
/-! Comprehensions over a range; when a block's names are as they should be. -/
namespace Fr
open PySem PySem.Spec L2
open PyProof.Rows hiding St
theorem lookup_relabel_free {env : Env} (h1 : env.scope.kind = .function) : ∀ {names : List (Str × NameKind)} {x : Str}, names.lookup x = some .free → env.kindOf x = some .cell →
    (names.map fun (n, k) => if (k == NameKind.free && env.scope.kind == .function && env.kindOf n == some .cell) then (n, NameKind.cell) else (n, k)).lookup x = some .cell
  | [], _, h, _ => by simp at h
  | (n, k) :: r, x, h, hc => by
    have ih := @lookup_relabel_free env h1 r x
    show ((if (k == NameKind.free && env.scope.kind == .function && env.kindOf n == some .cell) = true then (n, NameKind.cell) else (n, k)) :: _).lookup x = some .cell
    cases hx : x == n with
    | true =>
      simp only [List.lookup_cons, hx] at h
      cases h
      have en : x = n := by simpa using hx
      subst en
      have : (NameKind.free == NameKind.free && env.scope.kind == .function && env.kindOf x == some .cell) = true := by
        rw [h1, hc]
        rfl
      rw [if_pos this]
      simp [List.lookup_cons]
    | false =>
      simp only [List.lookup_cons, hx] at h
      by_cases hc' : (k == NameKind.free && env.scope.kind == .function && env.kindOf n == some .cell) = true
      · rw [if_pos hc']; simp only [List.lookup_cons, hx]; exact ih h hc
      · rw [if_neg hc']; simp only [List.lookup_cons, hx]; exact ih h hc
end Fr

set_option Elab.async false
set_option linter.all false
set_option maxRecDepth 100000
/-! x = [elt for ..]: the list is stored before the block's names go. -/
namespace Fr
open PySem PySem.Spec L2
open PyProof.Rows hiding St
section
variable {X : Cx}
end
end Fr

set_option Elab.async false
set_option linter.all false
set_option maxRecDepth 100000
/-! A comprehension with one test, which may read names around it. -/
namespace Fr
open PySem PySem.Spec L2
open PyProof.Rows hiding St
section
variable {prog : Program} {w : World} {A : Around} {R : Result → Shared → Prop} {s : Shared}
theorem compLoop_goI {elt target iter c : Expr} {scope : Scope} {pos : Pos} {it acc : Value} {env : Env} (J : Nat → Shared → Prop)
    (turn : ∀ n s, J n s → ∀ E : Value → Shared → Prop, wpAny (model prog w) A (pyNext it) (fun r s₁ => (r = none ∧ R (.ok .next) s₁) ∨ ∃ v, r = some v ∧
      wpAny (model prog w) A (letOwnedTupleGo target it v) (fun _ s₂ => wpAny (model prog w) A (assign target env v) (fun _ s₃ => wpAny (model prog w) A (isTrue c env (eval c env)) (fun b s₄ => if b = true then wpAny (model prog w) A (eval elt env) (fun y s₅ =>
        wpAny (model prog w) A (call (.builtin "list.append") [acc, y]) (fun _ s₆ => ∃ m, m < n ∧ J m s₆) E s₅) E s₄ else ∃ m, m < n ∧ J m s₄) E s₃) E s₂) E s₁) E s)
    (n : Nat) (h : J n s) : codeAny (model prog w) A (.compLoop (.ListComp elt [⟨target, iter, [c], 0⟩] scope pos) 0 it acc env) R s := by
  refine codeAny_loop rfl J (fun n s hJ => ?_) n h
  refine wpAny_noted ?_
  rw [compTurn_list]
  refine wpAny_bind (wpAny_standAt (wpAny_bind (thn (turn n s hJ _) fun r s₁ h₁ => ?_)))
  rcases h₁ with ⟨rfl, h₁⟩ | ⟨v, rfl, h₁⟩
  · exact wpAny_pure h₁
  · refine wpAny_bind (thn h₁ fun _ s₂ h₂ => wpAny_bind (thn h₂ fun _ s₃ h₃ => ?_))
    refine wpAny_bind ?_
    rw [List.forIn_cons]
    refine wpAny_bind (wpAny_bind (thn h₃ fun b s₄ h₄ => wpAny_pure ?_))
    show wpAny _ _ (pure b) _ _ s₄
    refine wpAny_pure ?_
    cases b with
    | false => exact wpAny_pure ⟨rfl, h₄⟩
    | true => exact wpAny_bind (wpAny_bind (thn h₄ fun y s₅ h₅ => wpAny_bind (thn h₅ fun _ s₆ h₆ => wpAny_pure (wpAny_pure ⟨rfl, h₆⟩))))
end
section
variable {X : Cx}
end
end Fr

set_option Elab.async false
set_option linter.all false
set_option maxRecDepth 100000
/-! x = [elt for .. if ..] on one row. -/
namespace Fr
open PySem PySem.Spec L2
open PyProof.Rows hiding St
section
variable {X : Cx}
end
end Fr

set_option Elab.async false
set_option linter.all false
set_option maxRecDepth 100000
/-! Comprehensions with any target and at most one test, as values or stored in a name. -/
namespace Fr
open PySem PySem.Spec L2
open PyProof.Rows hiding St
/-- the context of the block: its own names, the names that it reads around it -/
def cxCV (X : Cx) (scope : Scope) (xs : List Str) (fr : List (Str × Nat)) (s₀ : Shared) (H₀ : Hp) (fp : List Addr) (pn : List (Addr × Obj)) : Cx :=
  { cxCF X scope Str.empty fr s₀ H₀ fp pn with N := xs ++ fr.map (·.1) }
structure FrOkV (X : Cx) (scope : Scope) (xs : List Str) (fr : List (Str × Nat)) : Prop where
  kind : scope.kind = .function
  names : ∀ y ∈ scope.names, y.2 = .local → scope.names.lookup y.1 = some .local
  own : ∀ x ∈ xs, scope.names.lookup x = some .local
  nocell : ∀ y ∈ scope.names, y.2 ≠ .cell
  frees : ∀ y ∈ scope.names, y.2 = .free → X.env.scope.names.lookup y.1 = some .cell
  at_ : ∀ q ∈ fr, X.N[q.2]? = some q.1 ∧ (q.1, NameKind.free) ∈ scope.names ∧ (relabel scope X.env).names.lookup q.1 = some .cell
  nd : (xs ++ fr.map (·.1)).Nodup
def frCheckV (scope sc : Scope) (xs : List Str) (fr : List (Str × Nat)) (N : List Str) : Bool :=
  decide (scope.kind = .function) && decide (sc.kind = .function) && decide (∀ y ∈ scope.names, y.2 = .local → scope.names.lookup y.1 = some .local) && decide (∀ x ∈ xs, scope.names.lookup x = some .local) &&
  decide (∀ y ∈ scope.names, y.2 ≠ .cell) && decide (∀ y ∈ scope.names, y.2 = .free → sc.names.lookup y.1 = some .cell) && decide (∀ q ∈ fr, N[q.2]? = some q.1 ∧ (q.1, NameKind.free) ∈ scope.names ∧ scope.names.lookup q.1 = some .free) && decide (xs ++ fr.map (·.1)).Nodup
theorem frokV {X : Cx} {scope sc : Scope} {xs : List Str} {fr : List (Str × Nat)} {N : List Str} (hs : X.env.scope = sc) (hN : X.N = N) (h : frCheckV scope sc xs fr N = true) : FrOkV X scope xs fr := by
  unfold frCheckV at h
  simp only [Bool.and_eq_true, decide_eq_true_eq] at h
  obtain ⟨⟨⟨⟨⟨⟨⟨a1, a0⟩, a2⟩, a3⟩, a4⟩, a5⟩, a6⟩, a7⟩ := h
  subst hs
  subst hN
  exact ⟨a1, a2, a3, a4, a5, fun q hq => ⟨(a6 q hq).1, (a6 q hq).2.1, lookup_relabel_free a0 (a6 q hq).2.2 (a5 _ (a6 q hq).2.1 rfl)⟩, a7⟩
section
variable {X : Cx} {pins : List (Addr × Obj)} {σ : St} {H : Hp} {s : Shared} {scope : Scope} {xs : List Str} {fp : List Addr} {fr : List (Str × Nat)}
theorem cv_start {h₁ : Heap} {t : Nat} {m : Str → Option Value} (I : Inv X pins σ H s) (f : FpIn X pins s.heap fp) (O : FrOkV X scope xs fr) (hn : h₁.Ns s.heap.objs.size m) (k : ∀ b o, s.heap.get? b = some o → h₁.get? b = some o) :
    Inv (cxCV X scope xs fr s H fp (X.pn ++ pins)) [] (List.replicate xs.length none ++ stF fr σ) H { s with heap := h₁, toks := t } := by
  have cx : ∀ y c, (cxCV X scope xs fr s H fp (X.pn ++ pins)).env.cells.lookup y = some c → X.env.cells.lookup y = some c := fun y c e => cl_look e
  have hasC : ∀ y, (y, NameKind.free) ∈ scope.names → ∃ c, X.env.cells.lookup y = some c ∧ (clOf X.env.cells scope.names []).lookup y = some c := fun y hy => by
    obtain ⟨c, e⟩ := I.ok.has y (.inl (O.frees _ hy rfl))
    obtain ⟨c', e'⟩ := look_mem (clOf_has scope.names [] y c hy e)
    have := cl_look e'
    rw [e] at this
    cases this
    exact ⟨c, e, e'⟩
  refine ⟨⟨I.ok.mod, O.kind, I.ok.glob, I.ok.blt, Nat.le_refl _, fun y z c e1 e2 => I.ok.inj y z c (cx y c e1) (cx z c e2), fun y hy => ?_, (fun y c hf _ => Bool.noConfusion hf), I.ok.hd, I.ok.frames, .inl rfl, fun b hb => ⟨Nat.ne_of_lt (f.lt b hb), fun y c e => f.cl b hb y c (cx y c e)⟩,
      I.bs, Nat.le_trans I.ok.bsz I.sz, fun b o e => f.base I b o e, f.stack I, I.stack, I.stkFree⟩,
    rfl, I.bare, Un.kept k, ⟨m, hn, fun i y v e1 e2 hv => ?_⟩, fun y c e => ?_, I.hok.fresh (Nat.le_refl _), fun y c e => I.freeC y c (cx y c e), fun p hp => ?_, I.hok.kept k, ?_⟩
  · have hm : (y, NameKind.free) ∈ scope.names := by
      rcases hy with hy | hy
      · exact relabel_kind hy (.inl rfl) O.nocell
      · exact relabel_kind hy (.inr rfl) O.nocell
    obtain ⟨c, _, e⟩ := hasC y hm
    exact ⟨c, e⟩
  · have hi : xs.length ≤ i := by
      apply Nat.le_of_not_lt
      intro lt
      rw [List.getElem?_append_left (by rw [List.length_replicate]; exact lt), List.getElem?_replicate] at e2
      split at e2 <;> cases e2
    · have e1' : (fr.map (·.1))[i - xs.length]? = some y := by
        have : (xs ++ fr.map (·.1))[i]? = some y := e1
        rw [List.getElem?_append_right hi] at this
        exact this
      have e2' : (stF fr σ)[i - xs.length]? = some (some v) := by
        rw [List.getElem?_append_right (by rw [List.length_replicate]; exact hi), List.length_replicate] at e2
        exact e2
      unfold stF at e2'
      rw [List.getElem?_map] at e1' e2'
      cases hq : fr[i - xs.length]? with
      | none => rw [hq] at e1'; cases e1'
      | some q =>
        rw [hq] at e1' e2'
        have ey : q.1 = y := by simpa using e1'
        have ev : (σ[q.2]?).join = some v := by simpa using e2'
        have hqm := List.mem_of_getElem? hq
        obtain ⟨a1, a2, a3⟩ := O.at_ q hqm
        rw [ey] at a1 a2 a3
        have ev' : σ[q.2]? = some (some v) := by
          cases z : σ[q.2]? with
          | none => rw [z] at ev; cases ev
          | some o => rw [z] at ev; simpa using ev
        have hcell := O.frees _ a2 rfl
        obtain ⟨m', hn', L⟩ := I.loc
        obtain ⟨u, r, lk⟩ := L q.2 y v a1 ev' (.inr (.inl hcell))
        refine ⟨u, r, .inr ⟨.inl a3, ?_⟩⟩
        obtain ⟨c, c1, c2⟩ := hasC y a2
        refine ⟨c, c2, ?_⟩
        rcases lk with ⟨z, _⟩ | ⟨_, c', c3, ⟨o, o1, o2⟩⟩
        · have z' : X.env.scope.names.lookup y = some .local := z
          rw [hcell] at z'
          cases z'
        · rw [c1] at c3
          cases c3
          exact ⟨o, k _ _ o1, o2⟩
  · obtain ⟨v, o, o1, o2⟩ := I.cell y c (cx y c e)
    exact ⟨v, o, k _ _ o1, o2⟩
  · have hp' : p ∈ X.pn ++ pins := by
      have : p ∈ (X.pn ++ pins) ++ [] := hp
      rwa [List.append_nil] at this
    obtain ⟨e, n, ne, nf, d⟩ := I.pin p hp'
    refine ⟨k _ _ e, n, Nat.ne_of_lt (Heap.lt_size e), fun z => ?_, d⟩
    rcases List.mem_cons.mp (I.stkSub p.1 z) with q | q
    · exact ne q
    · exact nf q
  · show (List.replicate xs.length none ++ stF fr σ).length = (xs ++ fr.map (·.1)).length
    unfold stF
    simp
theorem cv_end {σ' : St} {H' : Hp} {s' : Shared} {h' : Heap} (I : Inv X pins σ H s) (f : FpIn X pins s.heap fp) (I' : Inv (cxCV X scope xs fr s H fp (X.pn ++ pins)) [] σ' H' s') (hs : Heap.SameBut s.heap.objs.size s'.heap h') :
    Inv X pins σ H' { s' with heap := h' } := by
  have nC : H' s.heap.objs.size = none := I'.free
  have lt : ∀ {b : Addr} {o : Obj}, s.heap.get? b = some o → b ≠ s.heap.objs.size := fun e => Nat.ne_of_lt (Heap.lt_size e)
  have u := I'.base
  refine Inv.call' (s' := { s' with heap := h' }) (ch := fp) I I'.os ⟨fun b o e n hb hx => ?_, fun b o e n hb hx => ?_, u.free, fun b o e hx => ?_, u.tups, u.frzs, u.tbls⟩ (fun b o e => ?_) I'.bare fun b hb => ⟨f.own b hb, f.loc b hb, f.cl b hb, f.pn b hb⟩
  · exact (hs.2 b (lt e)).trans (u.keep b o e n hb hx)
  · obtain ⟨sl, q⟩ := u.slot b o e n hb hx
    exact ⟨sl, (hs.2 b (lt e)).trans q⟩
  · obtain ⟨o', q⟩ := u.there b o e hx
    exact ⟨o', (hs.2 b (lt e)).trans q⟩
  · refine (I'.hok b o e).stay (fun c v hc q => (hs.2 c ?_).trans q) (fun _ q => q) fun _ _ q => q
    rintro rfl
    rcases hc with z | z
    · rw [← z, nC] at e
      cases e
    · rw [nC] at z
      cases z
end
/-- one turn's body: an element, or none -/
abbrev TStep := St → Hp → (Option V → Hp → Prop) → Prop
def PStep (X : Cx) (ifs : List Expr) (elt : Expr) (ts : TStep) : Prop :=
  ∀ (pins : List (Addr × Obj)) (s : Shared) (τ : St) (H : Hp) (R : Option V → Hp → Prop) (acc : Value) (K : Shared → Prop) (E : Value → Shared → Prop), Inv X pins τ H s → ts τ H R →
    (∀ y u s' H', Inv X pins τ H' s' → RelV y u → R (some y) H' → wpAny (model X.prog X.w) X.A (call (.builtin "list.append") [acc, u]) (fun _ s'' => K s'') E s') → (∀ s' H', Inv X pins τ H' s' → R none H' → K s') →
    (match ifs with
      | [] => wpAny (model X.prog X.w) X.A (eval elt X.env) (fun y s₄ => wpAny (model X.prog X.w) X.A (call (.builtin "list.append") [acc, y]) (fun _ s₅ => K s₅) E s₄) E s
      | [c] => wpAny (model X.prog X.w) X.A (isTrue c X.env (eval c X.env)) (fun b s₄ => if b = true then wpAny (model X.prog X.w) X.A (eval elt X.env) (fun y s₅ => wpAny (model X.prog X.w) X.A (call (.builtin "list.append") [acc, y]) (fun _ s₆ => K s₆) E s₅) E s₄ else K s₄) E s
      | _ => False)
def tStep0 (te : TE) : TStep := fun τ H R => te τ H fun y H' => R (some y) H'
theorem pstep0 {X : Cx} {elt : Expr} {te : TE} (hx : X.xe = fun _ _ => False) (h : PE X elt te) : PStep X [] elt (tStep0 te) := by
  intro pins s τ H R acc K E I w k1 k2
  refine wpAny_mono (h pins s τ H _ I w) (fun u s' ⟨y, H', I', r, q⟩ => k1 y u s' H' I' r q) fun _ _ z => ?_
  rw [hx] at z
  exact z.elim
theorem compLoop_goV {prog : Program} {w : World} {A : Around} {R : Result → Shared → Prop} {s : Shared} {elt target iter : Expr} {ifs : List Expr} {scope : Scope} {pos : Pos} {it acc : Value} {env : Env} (J : Nat → Shared → Prop)
    (turn : ∀ n s, J n s → ∀ E : Value → Shared → Prop, wpAny (model prog w) A (pyNext it) (fun r s₁ => (r = none ∧ R (.ok .next) s₁) ∨ ∃ v, r = some v ∧
      wpAny (model prog w) A (letOwnedTupleGo target it v) (fun _ s₂ => wpAny (model prog w) A (assign target env v) (fun _ s₃ => (match ifs with
        | [] => wpAny (model prog w) A (eval elt env) (fun y s₄ => wpAny (model prog w) A (call (.builtin "list.append") [acc, y]) (fun _ s₅ => ∃ m, m < n ∧ J m s₅) E s₄) E s₃
        | [c] => wpAny (model prog w) A (isTrue c env (eval c env)) (fun b s₄ => if b = true then wpAny (model prog w) A (eval elt env) (fun y s₅ => wpAny (model prog w) A (call (.builtin "list.append") [acc, y]) (fun _ s₆ => ∃ m, m < n ∧ J m s₆) E s₅) E s₄ else ∃ m, m < n ∧ J m s₄) E s₃
        | _ => False)) E s₂) E s₁) E s)
    (hl : ifs.length ≤ 1) (n : Nat) (h : J n s) : codeAny (model prog w) A (.compLoop (.ListComp elt [⟨target, iter, ifs, 0⟩] scope pos) 0 it acc env) R s := by
  match ifs, hl with
  | [], _ => exact compLoop_go J turn n h
  | [c], _ => exact compLoop_goI J turn n h
def tCompV (fr : List (Str × Nat)) (n : Nat) (wi : TI) (g : TG) (ts : TStep) : TE := fun σ H Q => wi σ H fun J H1 => ∀ D, H1 D = none → ∃ W : Nat → Nat → St → List V → Hp → Prop, (∃ m, W 0 m (List.replicate n none ++ stF fr σ) [] (upd H1 D (.lst []))) ∧
  ∀ i m τ ys H2, W i m τ ys H2 → (J.stop i H2 ∧ Q (.ref D) H2) ∨ (J.go i H2 ∧ ys.length < sizeLine ∧ ∀ v H3, J.yld i H2 v H3 → g v τ H3 fun τ2 H4 => ts τ2 H4 fun oy H5 => match oy with
    | some y => H5 D = some (.lst ys) ∧ ∃ m', m' < m ∧ W (i + 1) m' τ2 (ys ++ [y]) (upd H5 D (.lst (ys ++ [y])))
    | none => ∃ m', m' < m ∧ W (i + 1) m' τ2 ys H5)
section
variable {X : Cx}
theorem pe_compV {elt iter tg : Expr} {ifs : List Expr} {xs : List Str} {pos : Pos} {scope : Scope} {fr : List (Str × Nat)} {wi : TI} {g : TG} {ts : TStep} (hc : X.calm = true) (hi : PI X tg iter wi) (O : FrOkV X scope xs fr)
    (hg : ∀ (s₀ : Shared) (H₀ : Hp) (fp : List Addr) (pn : List (Addr × Obj)), PG (cxCV X scope xs fr s₀ H₀ fp pn) tg g)
    (hstep : ∀ (s₀ : Shared) (H₀ : Hp) (fp : List Addr) (pn : List (Addr × Obj)), PStep (cxCV X scope xs fr s₀ H₀ fp pn) ifs elt ts) (hlf : ifs.length ≤ 1)
    (hs : ∀ y, foldedSetIterable iter X.env y = pure y := by intro _; rfl) : PE X (.ListComp elt [⟨tg, iter, ifs, 0⟩] scope pos) (tCompV fr xs.length wi g ts) := by
  intro pins s σ H Q I h
  show wpAny (model X.prog X.w) X.A (eval (.ListComp elt [⟨tg, iter, ifs, 0⟩] scope pos) X.env) _ _ s
  rw [eval_ListComp]
  refine wpAny_comprehension_free (use := none) rfl hs (closure_is fun y hy e => I.ok.has _ (.inl (O.frees y hy e))) O.kind O.names (thn (hi pins s σ H _ I h) fun v s1 h1 => thn h1 fun itv s2 h2 => ?_)
  obtain ⟨it, fp, tn, J, H2, rfl, I2, T, st2, f2, k2⟩ := h2
  refine wpAny_newObj_type ?_ (by show 0 ≤ sizeLine; decide)
  have n2 : H2 s2.heap.objs.size = none := I2.hok.fresh (Nat.le_refl _)
  have I3 : Inv X pins σ (upd H2 s2.heap.objs.size (.lst [])) { s2 with heap := s2.heap.push { cls := .type "list", data := .seq ([] : List Value).toArray } } := I2.lnew (t' := s2.toks) .nil (Nat.zero_le _)
  obtain ⟨W, ⟨m0, w0⟩, turn⟩ := k2 _ n2
  generalize hD : s2.heap.objs.size = D at n2 w0 turn I3
  have up3 : ∀ b o, s2.heap.get? b = some o → (s2.heap.push { cls := .type "list", data := .seq ([] : List Value).toArray }).get? b = some o := fun b o e => Heap.get?_push_of_some _ e
  generalize hs3 : ({ s2 with heap := s2.heap.push { cls := .type "list", data := .seq ([] : List Value).toArray } } : Shared) = s3 at I3
  have hh3 : s3.heap = s2.heap.push { cls := .type "list", data := .seq ([] : List Value).toArray } := by rw [← hs3]
  rw [← hh3] at up3
  have st3 : tn 0 s3.heap := T.keep _ _ _ st2 fun b _ o e => up3 b o e
  have f3 : FpIn X pins s3.heap fp := by
    refine ⟨fun b hb => ?_, fun b hb => (f2 b hb).2.1, fun b hb => (f2 b hb).2.2.1, fun b hb => (f2 b hb).2.2.2.1, fun b hb => (f2 b hb).2.2.2.2.1, fun b hb => (f2 b hb).2.2.2.2.2⟩
    obtain ⟨o, e, _⟩ := T.obj _ _ st3 b hb
    exact Heap.lt_size e
  have fn3 : ∀ b ∈ fp, upd H2 D (.lst []) b = none := fun b hb => by
    obtain ⟨o, e, _⟩ := T.obj _ _ st2 b hb
    have ne : b ≠ D := by rw [← hD]; exact Nat.ne_of_lt (Heap.lt_size e)
    rw [upd_ne ne]
    exact (f2 b hb).1
  refine wpAny_newFunctionEnv O.nocell (by intro y hy; simp at hy) (fun h₁ hn1 hs1 => ?_) O.kind
  have k1 : ∀ b o, s3.heap.get? b = some o → h₁.get? b = some o := fun b o e => (hs1.2 b (Nat.ne_of_lt (Heap.lt_size e))).trans (Heap.get?_push_of_some _ e)
  have I4 := cv_start (scope := scope) (xs := xs) (fr := fr) (t := s3.toks + ([] : List (Str × Value)).length) I3 f3 O hn1 k1
  have st4 : tn 0 h₁ := T.keep _ _ _ st3 fun b _ o e => k1 b o e
  have N1 : (cxCV X scope xs fr s3 (upd H2 D (.lst [])) fp (X.pn ++ pins)).N.Nodup := by
    exact O.nd
  have stat : ∀ {H' : Hp}, (∀ b ∈ fp, H' b = none) → ∀ b ∈ fp, FpOk (cxCV X scope xs fr s3 (upd H2 D (.lst [])) fp (X.pn ++ pins)) [] H' b := fun hn b hb =>
    ⟨hn b hb, Nat.ne_of_lt (f3.lt b hb), f3.stack I3 b hb, .inl hb, fun y c e => f3.cl b hb y c (cl_look e), fun p hp => f3.pn b hb p (by
      have : p ∈ (X.pn ++ pins) ++ [] := hp
      rwa [List.append_nil] at this)⟩
  have loop : ∀ s4 : Shared, s4 = { s3 with heap := h₁, toks := s3.toks + ([] : List (Str × Value)).length } →
      codeAny (model X.prog X.w) X.A (.compLoop (.ListComp elt [⟨tg, iter, ifs, 0⟩] scope pos) 0 (.ref it) (.ref D) (compEnvC scope (clOf X.env.cells scope.names []) s3.heap.objs.size X.env))
        (compPost (model X.prog X.w) X.A X.xe none (EP X pins σ Q) (.ref D) s3.heap.objs.size) s4 := by
    rintro s4 rfl
    refine compLoop_goV (fun n s' => ∃ i ys τ H', Inv (cxCV X scope xs fr s3 (upd H2 D (.lst [])) fp (X.pn ++ pins)) [] τ H' s' ∧ tn i s'.heap ∧ (∀ b ∈ fp, H' b = none) ∧ W i n τ ys H') ?_ hlf m0 ⟨0, [], _, _, I4, st4, fn3, w0⟩
    rintro n s5 ⟨i, ys, τ5, H5, I5, st5, fr5, w5⟩ E
    rcases turn i n τ5 ys H5 w5 with ⟨stop, q⟩ | ⟨go, hlen, step⟩
    · refine thn (T.done (cxCV X scope xs fr s3 (upd H2 D (.lst [])) fp (X.pn ++ pins)) rfl rfl rfl hc i [] s5 τ5 H5 E I5 (stat fr5) st5 stop) fun r s6 ⟨hr, I6⟩ => .inl ⟨hr, ?_⟩
      obtain ⟨m, hm, _⟩ := I6.loc
      exact ⟨m, hm, fun h' hb => ⟨.ref D, H5, cv_end I3 f3 I6 hb, rfl, q⟩⟩
    · refine thn (T.item (cxCV X scope xs fr s3 (upd H2 D (.lst [])) fp (X.pn ++ pins)) rfl rfl rfl hc i [] s5 τ5 H5 E I5 (stat fr5) st5 go) fun r s6 ⟨u, hr, h6⟩ => .inr ⟨u, hr, ?_⟩
      refine thn h6 fun _ s7 ⟨y, H7, I7, r7, y7, st7, fr7⟩ => ?_
      have I7' := I7.pinned (stat fr7) (T.obj _ _ st7)
      refine wpAny_mono (hg _ _ _ _ _ s7 τ5 H7 y u _ I7' r7 (step y H7 y7)) (fun _ s8 ⟨τ8, H8, I8, q8⟩ => ?_) fun _ _ z => False.elim z
      have back : ∀ {zs : List V} {G : Hp} {t : Shared} {m' : Nat}, Inv (cxCV X scope xs fr s3 (upd H2 D (.lst [])) fp (X.pn ++ pins)) ([] ++ pinsAt fp s7.heap) τ8 G t → m' < n → W (i + 1) m' τ8 zs G →
          ∃ m, m < n ∧ ∃ i ys τ H', Inv (cxCV X scope xs fr s3 (upd H2 D (.lst [])) fp (X.pn ++ pins)) [] τ H' t ∧ tn i t.heap ∧ (∀ b ∈ fp, H' b = none) ∧ W i m τ ys H' := fun {zs G t m'} I10 hm w9 => by
        refine ⟨m', hm, i + 1, zs, _, _, I10.unpinned, T.keep _ _ _ st7 fun b hb o e => (I10.pin (b, o) (List.mem_append_right _ (List.mem_append_right _ (mem_pinsAt hb e)))).1, fun b hb => ?_, w9⟩
        obtain ⟨o, e, d⟩ := T.obj _ _ st7 b hb
        exact (I10.pin (b, o) (List.mem_append_right _ (List.mem_append_right _ (mem_pinsAt hb e)))).2.1
      refine hstep _ _ _ _ _ s8 τ8 H8 _ (.ref D) (fun s' => ∃ m, m < n ∧ ∃ i ys τ H', Inv (cxCV X scope xs fr s3 (upd H2 D (.lst [])) fp (X.pn ++ pins)) [] τ H' s' ∧ tn i s'.heap ∧ (∀ b ∈ fp, H' b = none) ∧ W i m τ ys H') E I8 q8 (fun z u9 s10 H10 I10 r10 q10 => ?_) fun s9 H9 I9 q9 => ?_
      · obtain ⟨a10, m', hm, w10⟩ := q10
        refine wpAny_mono (mt_append (X := cxCV X scope xs fr s3 (upd H2 D (.lst [])) fp (X.pn ++ pins)) _ s10 _ H10 (.ref D) [z] (.ref D) [u9] (fun v H' => v = .non ∧ H' = upd H10 D (.lst (ys ++ [z]))) I10 rfl (.cons r10 .nil) ⟨D, ys, z, rfl, rfl, a10, hlen, rfl, rfl⟩) (fun _ s11 ⟨v11, H11, I11, _, _, e11⟩ => ?_) fun _ _ z => False.elim z
        subst e11
        exact back I11 hm w10
      · obtain ⟨m', hm, w9⟩ := q9
        exact back I9 hm w9
  subst hs3
  exact codeAny_compStart_list (loop _ rfl) (T.self _ _ _ _ _ st4 (loop _ rfl))
end
end Fr

set_option Elab.async false
set_option linter.all false
set_option maxRecDepth 100000
/-! Comprehensions over data. -/
namespace L3
open PySem PySem.Spec L2
def frzs : List Nat → List Sl → Option (List Sl × List Sl)
  | [], δ => some ([], δ)
  | j :: js, δ => match δ[j]? with
    | some (.d x) => (match frzs js δ with
      | some (l, δ') => some (.d x :: l, δ')
      | none => none)
    | some (.own o) => (match o.frz with
      | some x => (match frzs js (δ.set j (.d x)) with
        | some (l, δ') => some (.d x :: l, δ')
        | none => none)
      | none => none)
    | _ => none
theorem Lk.frzs {K : PySem.W.Frag} {F0 H0 H : Hp} {B : Option Addr} {σ : St} : ∀ {js : List Nat} {δ l δ' : List Sl} {F : Hp}, Lk K F0 H0 B σ δ F H → frzs js δ = some (l, δ') →
    ∃ F', Lk K F0 H0 B σ δ' F' H ∧ Same F F' ∧ l.length = js.length ∧ ∀ (k : Nat) (s : Sl), l[k]? = some s → ∃ x v j, js[k]? = some j ∧ s = .d x ∧ σ[j]? = some (some v) ∧ Rp K F' v x
  | [], δ, l, δ', F, L, e => by
    cases e
    exact ⟨F, L, Same.refl _, rfl, fun k s h => by simp at h⟩
  | j :: js, δ, l, δ', F, L, e => by
    unfold L3.frzs at e
    cases ej : δ[j]? with
    | none => rw [ej] at e; cases e
    | some s =>
      rw [ej] at e
      cases s with
      | un => cases e
      | bor o => cases e
      | d x =>
        dsimp only at e
        cases er : L3.frzs js δ with
        | none => rw [er] at e; cases e
        | some p =>
          obtain ⟨l', δ2⟩ := p
          rw [er] at e
          cases e
          obtain ⟨F', L', s', len, all⟩ := Lk.frzs L er
          obtain ⟨v, ev, rv⟩ := L.sl j _ ej
          refine ⟨F', L', s', by simp [len], fun k s hk => ?_⟩
          cases k with
          | zero => cases hk; exact ⟨x, v, j, rfl, rfl, ev, rv.same s'⟩
          | succ k =>
            obtain ⟨x1, v1, j1, a1, a2, a3, a4⟩ := all k s (by simpa using hk)
            exact ⟨x1, v1, j1, by simpa using a1, a2, a3, a4⟩
      | own o =>
        dsimp only at e
        cases eo : o.frz with
        | none => rw [eo] at e; cases e
        | some x =>
          rw [eo] at e
          dsimp only at e
          obtain ⟨F1, v, L1, s1, ev, rv⟩ := L.froz ej eo
          cases er : L3.frzs js (δ.set j (.d x)) with
          | none => rw [er] at e; cases e
          | some p =>
            obtain ⟨l', δ2⟩ := p
            rw [er] at e
            cases e
            obtain ⟨F', L', s', len, all⟩ := Lk.frzs L1 er
            refine ⟨F', L', s1.trans s', by simp [len], fun k s hk => ?_⟩
            cases k with
            | zero => cases hk; exact ⟨x, v, j, rfl, rfl, ev, rv.same s'⟩
            | succ k =>
              obtain ⟨x1, v1, j1, a1, a2, a3, a4⟩ := all k s (by simpa using hk)
              exact ⟨x1, v1, j1, by simpa using a1, a2, a3, a4⟩
/-- what is left of a slot that is no data -/
def Sl.wipe : Sl → Sl
  | .d x => .d x
  | _ => .un
abbrev T3P := List Sl → (Option D → List Sl → Prop) → Prop
abbrev Z0 : Zk := fun _ _ => False
def st0 (te : T3E) : T3P := fun δ Q => te Z0 δ fun r δ' => match r.frz with
  | some y => Q (some y) δ'
  | none => False
def compL (g : T3G) (ts : T3P) : List D → List Sl → (List D → Prop) → Prop
  | [], _, Q => Q []
  | x :: xs, δ, Q => g x δ fun δ1 => ts δ1 fun oy δ2 => match oy with
    | some y => compL g ts xs (δ2.map Sl.wipe) fun ys => Q (y :: ys)
    | none => compL g ts xs (δ2.map Sl.wipe) Q
def tCm (n : Nat) (js : List Nat) (ti : T3I) (g : T3G) (ts : T3P) : T3E := fun Z δ Q => ti Z δ fun xs δ1 => match frzs js δ1 with
  | some (l, δ2) => xs.length ≤ 1000000 ∧ compL g ts xs (List.replicate n .un ++ l) fun ys => Q (.own (.lst ys)) δ2
  | none => False
def LP (K : PySem.W.Frag) (ts : T3P) : Fr.TStep := fun τ H R => ∃ F0 H0 B δ F P, Lk K F0 H0 B τ δ F H ∧ ts δ P ∧ ∀ oy δ' F' H', P oy δ' → Lk K F0 H0 B τ δ' F' H' → Same F F' → (match oy with
  | some y => ∀ v, Rp K F' v y → R (some v) H'
  | none => R none H')
structure P3 (X : Cx) (ifs : List Expr) (elt : Expr) (ts : T3P) : Prop where
  h : Fr.PStep X ifs elt (LP X.K ts)
theorem pstep_imp {X : Cx} {ifs : List Expr} {elt : Expr} {t t' : Fr.TStep} (h : Fr.PStep X ifs elt t) (i : ∀ τ H R, t' τ H R → t τ H R) : Fr.PStep X ifs elt t' := fun pins s τ H R acc K E I w k1 k2 => h pins s τ H R acc K E I (i _ _ _ w) k1 k2
/-- with the entry left open -/
theorem pe_ex {X : Cx} {e : Expr} {ι : Type} {t : ι → TE} (h : ∀ i, PE X e (t i)) : PE X e fun σ H Q => ∃ i, t i σ H Q := fun pins s σ H Q I ⟨i, w⟩ => h i pins s σ H Q I w
theorem p_st0 {X : Cx} {elt : Expr} {te : T3E} (hx : X.xe = fun _ _ => False) (h : E3 X E0 elt te) : P3 X [] elt (st0 te) := by
  refine ⟨pstep_imp (Fr.pstep0 hx (pe_ex (ι := Hp × Hp × Option Addr) fun i => h.toD.h i.1 i.2.1 i.2.2)) fun τ H R ⟨F0, H0, B, δ, F, P, L, w, q⟩ => ?_⟩
  refine ⟨(F0, H0, B), δ, F, Z0, fun x δ' => P (some x) δ', L, (fun _ _ _ _ _ _ z => z.elim), ?_, fun x δ' v F' H' p L' s r => q (some x) δ' F' H' p L' s v r⟩
  exact w
/-- a state of data alone, seen anew -/
theorem Lk.fresh {K : PySem.W.Frag} {F0 H0 F H F' H' : Hp} {B : Option Addr} {τ : St} {δ : List Sl} (L : Lk K F0 H0 B τ δ F H) (s1 : Same F F') (s2 : Same F' H') : Lk K F' H' none τ (δ.map Sl.wipe) F' H' := by
  have at' : ∀ (i : Nat) (s : Sl), (δ.map Sl.wipe)[i]? = some s → s = .un ∨ ∃ x, s = .d x ∧ δ[i]? = some (.d x) := fun i s e => by
    rw [List.getElem?_map] at e
    cases q : δ[i]? with
    | none => rw [q] at e; cases e
    | some t =>
      rw [q] at e
      cases e
      cases t with
      | d x => exact .inr ⟨x, rfl, rfl⟩
      | un => exact .inl rfl
      | own o => exact .inl rfl
      | bor o => exact .inl rfl
  refine ⟨s2, Same.refl _, fun _ _ e _ => e, fun _ _ => rfl, fun _ e => (by cases e), by simp [L.len], fun i s e => ?_, fun i j o o' e1 _ _ => ?_, fun i j o o' e1 _ => ?_, L.tbF.same s1⟩
  · rcases at' i s e with rfl | ⟨x, rfl, ex⟩
    · trivial
    · obtain ⟨v, ev, rv⟩ := L.sl i _ ex
      exact ⟨v, ev, rv.same s1⟩
  · rcases at' i _ e1 with z | ⟨x, z, _⟩ <;> cases z
  · rcases at' i _ e1 with z | ⟨x, z, _⟩ <;> cases z
theorem pg_ex {X : Cx} {tg : Expr} {ι : Type} {t : ι → TG} (h : ∀ i, PG X tg (t i)) : PG X tg fun v σ H Q => ∃ i, t i v σ H Q := fun pins s σ H v u Q I r ⟨i, w⟩ => h i pins s σ H v u Q I r w
/-- what a block walks: it may lean on all that stands at its start -/
structure ItOkH (K : PySem.W.Frag) (F1 H1 : Hp) (J : It) (xs : List D) : Prop where
  go : ∀ i F H, Same F1 F → Same F H → Same H1 H → i < xs.length → J.go i H
  yld : ∀ i F H x H', Same F1 F → Same F H → Same H1 H → i < xs.length → J.yld i H x H' → ∃ F' d, Same F F' ∧ Same F' H' ∧ Same H H' ∧ (∀ a, H a ≠ none → F' a = F a) ∧ xs[i]? = some d ∧ Rp K F' x d
  stop : ∀ F H, Same F1 F → Same F H → Same H1 H → J.stop xs.length H
theorem ItOk.h {K : PySem.W.Frag} {F1 H1 : Hp} {J : It} {xs : List D} (h : ItOk K F1 J xs) : ItOkH K F1 H1 J xs := ⟨fun i F H a b _ c => h.go i F H a b c, fun i F H x H' a b _ c d => h.yld i F H x H' a b c d, fun F H a b _ => h.stop F H a b⟩
def LIc (K : PySem.W.Frag) (E : XK) (F0 H0 : Hp) (B : Option Addr) (t : T3I) : TI := fun σ H R => ∃ δ F Z P, Lk K F0 H0 B σ δ F H ∧ ZOk K E F0 H0 B Z ∧ t Z δ P ∧ ∀ xs δ' F' H' J, P xs δ' → Lk K F0 H0 B σ δ' F' H' → Same F F' → ItOkH K F' H' J xs → R J H'
structure I3c (X : Cx) (E : XK) (tg iter : Expr) (t : T3I) : Prop where
  h : ∀ F0 H0 B, PI X tg iter (LIc X.K E F0 H0 B t)
theorem I3.toC {X : Cx} {E : XK} {tg iter : Expr} {t : T3I} (h : I3 X E tg iter t) : I3c X E tg iter t := ⟨fun F0 H0 B => pi_imp (h.h F0 H0 B) fun σ H R hh => ex4 hh fun δ F Z P L z w q => ⟨δ, F, Z, P, L, z, w, fun xs δ' F' H' J p L' s it => q xs δ' F' H' J p L' s it.h⟩⟩
def tILN (i : Nat) : T3I := fun Z δ Q => match gl δ i with
  | some xs => Q xs δ
  | none => False
theorem ic_listN (i : Nat) {X : Cx} {E : XK} {tg : Expr} {x : Str} {p : Pos} (hN : X.N[i]? = some x := by rfl) (hv : Vis X.env.scope x := by first | exact Or.inl rfl | exact Or.inr (Or.inl rfl) | exact Or.inr (Or.inr rfl)) (hd : (x == ("__debug__" : Str)) = false := by decide)
    (hcd : (x == ("__classdict__" : Str)) = false := by decide) : I3c X E tg (.Name x p) (tILN i) :=
  ⟨fun F0 H0 B => pi_imp (pi_list (pe_var hN hv hd hcd)) fun σ H R hh => ex4 hh fun δ F Z P L z w q => by
    unfold tILN at w
    cases e0 : L3.gl δ i with
    | none => rw [e0] at w; exact w.elim
    | some xs =>
      rw [e0] at w
      obtain ⟨a, vs, e1, sq, rs⟩ := L.gl e0
      refine ⟨.ref a, e1, a, rfl, ⟨_, sq⟩, q xs δ F H _ w L (Same.refl _) ⟨fun i F2 H2 a1 a2 a3 lt => ?_, fun i F2 H2 y H3 a1 a2 a3 lt yy => ?_, fun F2 H2 a1 a2 a3 => ⟨_, a3.seq sq, by rw [rs.len]; exact Nat.le_refl _⟩⟩⟩
      · obtain ⟨v, hv, _⟩ := rs.at (List.getElem?_eq_getElem lt)
        exact ⟨_, v, a3.seq sq, hv⟩
      · obtain ⟨rfl, y2⟩ := yy
        have hv := y2 _ (a3.seq sq)
        obtain ⟨d, e1, r1⟩ := rs.at' hv
        exact ⟨F2, d, Same.refl _, a2, Same.refl _, fun _ _ => rfl, e1, r1.same a1⟩⟩
theorem lo_comp {K : PySem.W.Frag} {E : XK} {F0 H0 : Hp} {B : Option Addr} {n : Nat} {fr : List (Str × Nat)} {ti : T3I} {g : T3G} {ts : T3P} {σ : St} {H : Hp} {Q : VK} (h : LE K E F0 H0 B (tCm n (fr.map (·.2)) ti g ts) σ H Q) :
    Fr.tCompV fr n (LIc K E F0 H0 B ti) (fun v σ H Q => ∃ i : Hp × Hp × Option Addr, LG K i.1 i.2.1 i.2.2 g v σ H Q) (LP K ts) σ H Q := by
  obtain ⟨δ, F, Z, P, L, z, w, q⟩ := h
  refine ⟨δ, F, Z, _, L, z, w, fun xs δ1 F1 H1 J p1 L1 s1 it D hD => ?_⟩
  cases ef : L3.frzs (fr.map (·.2)) δ1 with
  | none => rw [ef] at p1; exact p1.elim
  | some p0 =>
    obtain ⟨l, δ2⟩ := p0
    rw [ef] at p1
    obtain ⟨hx, p1⟩ := p1
    obtain ⟨F2, L2, s2, len, all⟩ := L1.frzs ef
    have sD : Same H1 (upd H1 D (.lst [])) := Fr.Same.new hD
    have fD : F2 D = none := (L2.fr0 hD).2
    have Li : Lk K F2 (upd H1 D (.lst [])) none (List.replicate n none ++ Fr.stF fr σ) (List.replicate n .un ++ l) F2 (upd H1 D (.lst [])) := by
      have at' : ∀ (i : Nat) (s : Sl), (List.replicate n Sl.un ++ l)[i]? = some s → s = .un ∨ (n ≤ i ∧ l[i - n]? = some s) := fun i s e => by
        by_cases lt : i < n
        · rw [List.getElem?_append_left (by simpa using lt), List.getElem?_replicate] at e
          rw [if_pos lt] at e
          exact .inl (Option.some.inj e).symm
        · rw [List.getElem?_append_right (by simpa using lt), List.length_replicate] at e
          exact .inr ⟨by omega, e⟩
      refine ⟨L2.fh.trans sD, Same.refl _, fun _ _ e _ => e, fun _ _ => rfl, fun _ e => (by cases e), by simp [len, Fr.stF], fun i s e => ?_, fun i j o o' e1 _ _ => ?_, fun i j o o' e1 _ => ?_, L2.tbF⟩
      · rcases at' i s e with rfl | ⟨ni, el⟩
        · trivial
        · obtain ⟨x, v, j, a1, rfl, a3, a4⟩ := all _ _ el
          refine ⟨v, ?_, a4⟩
          rw [List.getElem?_append_right (by simpa using ni), List.length_replicate]
          unfold Fr.stF
          rw [List.getElem?_map] at a1 ⊢
          cases eq : fr[i - n]? with
          | none => rw [eq] at a1; cases a1
          | some qq =>
            rw [eq] at a1
            have a1 : qq.2 = j := by simpa using a1
            show some ((σ[qq.2]?).join) = _
            rw [a1, a3]
            rfl
      · rcases at' i _ e1 with z1 | ⟨ni, el⟩
        · cases z1
        · obtain ⟨x, v, j, a1, a2, a3, a4⟩ := all _ _ el
          cases a2
      · rcases at' i _ e1 with z1 | ⟨ni, el⟩
        · cases z1
        · obtain ⟨x, v, j, a1, a2, a3, a4⟩ := all _ _ el
          cases a2
    refine ⟨fun i m τ ys H => m = xs.length - i ∧ i ≤ xs.length ∧ ys.length ≤ i ∧ ∃ δi F zs, Lk K F H none τ δi F H ∧ Same F2 F ∧ Same F H ∧ Same H1 (upd H D (.lst ys)) ∧ (∀ a, H1 a ≠ none → F a = F2 a) ∧ F D = none ∧ H D = some (.lst ys) ∧ Rps K F ys zs ∧ compL g ts (xs.drop i) δi fun ws => P (.own (.lst (zs ++ ws))) δ2,
      ⟨xs.length, by simp, Nat.zero_le _, Nat.zero_le _, _, F2, [], Li, Same.refl _, L2.fh.trans sD, ?_, fun _ _ => rfl, fD, upd_same, .nil, p1⟩, ?_⟩
    · intro a u ea
      rw [upd_upd]
      exact sD a u ea
    rintro i m τ ys G ⟨rfl, hi, hy, δi, F3, zs, L3, s3, s3h, h1g, f3, fD3, hD3, rs, pc⟩
    have sG : Same H1 G := fun a u ea => by
      have := h1g a u ea
      by_cases e : a = D
      · subst e; rw [hD] at ea; cases ea
      · rwa [upd_ne e] at this
    by_cases lt : i < xs.length
    · refine .inr ⟨it.go i F3 G (s2.trans s3) s3h sG lt, line_big (by omega), fun v G2 yv => ?_⟩
      obtain ⟨F4, d, a1, a2, a3, a4, a5, a6⟩ := it.yld i F3 G v G2 (s2.trans s3) s3h sG lt yv
      have ed : xs.drop i = d :: xs.drop (i + 1) := by
        rw [List.drop_eq_getElem_cons lt, (List.getElem?_eq_some_iff.mp a5).2]
      rw [ed] at pc
      have fD4 : F4 D = none := by rw [a4 D (by rw [hD3]; intro z; cases z)]; exact fD3
      have hD4 : G2 D = some (.lst ys) := a3 _ _ hD3
      have L4 : Lk K F3 G none τ δi F4 G2 := L3.grow a1 a2 a3 a4
      refine ⟨(F3, G, none), δi, F4, d, _, L4, a6, pc, fun τ5 δ5 F5 G5 p5 L5 s5 => ⟨F3, G, none, δ5, F5, _, L5, p5, fun oy δ6 F6 G6 p6 L6 s6 => ?_⟩⟩
      have hD6 : G6 D = some (.lst ys) := L6.h0 D _ hD3 fun z => by cases z
      have fD6 : F6 D = none := by rw [L6.ff D (by rw [hD3]; intro z; cases z)]; exact fD3
      have s36 : Same F3 F6 := L6.f0
      have g6 : Same G G6 := fun a u ea => L6.h0 a u ea fun z => by cases z
      have nf6 : ∀ a, H1 a ≠ none → F6 a = F2 a := fun a ha => by
        rw [← f3 a ha]
        refine L6.ff a fun z => ?_
        cases e : H1 a with
        | none => exact ha e
        | some u => rw [sG a u e] at z; cases z
      cases oy with
      | none =>
        refine ⟨_, by omega, rfl, lt, by omega, _, F6, zs, L6.fresh (Same.refl _) L6.fh, s3.trans s36, L6.fh, fun a u ea => ?_, nf6, fD6, hD6, rs.same s36, p6⟩
        by_cases e : a = D
        · subst e; rw [hD] at ea; cases ea
        · rw [upd_ne e]; exact g6 a u (sG a u ea)
      | some y =>
        intro v6 r6
        have sU : Same F6 (upd G6 D (.lst (ys ++ [v6]))) := fun a u ea => by
          have : a ≠ D := by rintro rfl; rw [fD6] at ea; cases ea
          rw [upd_ne this]; exact L6.fh a u ea
        refine ⟨hD6, _, by omega, rfl, lt, by simp; omega, _, F6, zs ++ [y], L6.fresh (Same.refl _) sU, s3.trans s36, sU, fun a u ea => ?_, nf6, fD6, upd_same, (rs.same s36).append (.one r6), ?_⟩
        · by_cases e : a = D
          · subst e; rw [hD] at ea; cases ea
          · rw [upd_ne e, upd_ne e]; exact g6 a u (sG a u ea)
        · have e2 : (fun ws => P (.own (.lst (zs ++ [y] ++ ws))) δ2) = fun ws => P (.own (.lst (zs ++ y :: ws))) δ2 := by
            funext ws
            rw [List.append_assoc]
            rfl
          rw [e2]
          exact p6
    · have e : i = xs.length := by omega
      subst e
      rw [List.drop_length] at pc
      refine .inl ⟨it.stop F3 G (s2.trans s3) s3h sG, ?_⟩
      have pc : P (.own (.lst (zs ++ []))) δ2 := pc
      rw [List.append_nil] at pc
      have L5 : Lk K F0 H0 B σ δ2 F3 G := L2.grow s3 s3h sG f3
      refine q _ δ2 _ F3 G pc L5 (s1.trans (s2.trans s3)) ⟨D, rfl, fD3, (L2.fr0 hD).1, ⟨ys, hD3, rs⟩, fun j o' ej zz => ?_⟩
      obtain ⟨a', e1, _, _, w'⟩ := L2.sl j _ ej
      rw [zz] at e1
      cases e1
      obtain ⟨ho, eh⟩ := w'.there
      rw [hD] at eh
      cases eh
section
variable {X : Cx} {E : XK} {elt iter tg : Expr} {ifs : List Expr} {xs : List Str} {pos : Pos} {scope : Scope} {fr : List (Str × Nat)} {ti : T3I} {g : T3G} {ts : T3P}
theorem e_comp (hc : X.calm = true) (hi : I3c X E tg iter ti) (O : Fr.FrOkV X scope xs fr)
    (hg : ∀ (s₀ : Shared) (H₀ : Hp) (fp : List Addr) (pn : List (Addr × Obj)), G3 (Fr.cxCV X scope xs fr s₀ H₀ fp pn) tg g)
    (hstep : ∀ (s₀ : Shared) (H₀ : Hp) (fp : List Addr) (pn : List (Addr × Obj)), P3 (Fr.cxCV X scope xs fr s₀ H₀ fp pn) ifs elt ts) (hlf : ifs.length ≤ 1 := by decide)
    (hs : ∀ y, foldedSetIterable iter X.env y = pure y := by intro _; rfl) : E3 X E (.ListComp elt [⟨tg, iter, ifs, 0⟩] scope pos) (tCm xs.length (fr.map (·.2)) ti g ts) :=
  ⟨fun F0 H0 B => pe_imp (Fr.pe_compV hc (hi.h F0 H0 B) O (fun s₀ H₀ fp pn => pg_ex (ι := Hp × Hp × Option Addr) fun i => (hg s₀ H₀ fp pn).h i.1 i.2.1 i.2.2) (fun s₀ H₀ fp pn => (hstep s₀ H₀ fp pn).h) hlf hs) fun _ _ _ h => lo_comp h⟩
end
/-! how a comprehension is read -/
theorem compL_map {ts : T3P} {l : List Sl} (hl : l.map Sl.wipe = l) (f : D → D) : ∀ {xs : List D} {s : Sl} {Q : List D → Prop}, (∀ x ∈ xs, ∀ P : Option D → List Sl → Prop, P (some (f x)) (.d x :: l) → ts (.d x :: l) P) → Q (xs.map f) → compL (gNm 0) ts xs (s :: l) Q
  | [], _, _, _, q => q
  | x :: xs, s, Q, h, q => by
    show ts (.d x :: l) _
    refine h x List.mem_cons_self _ ?_
    show compL (gNm 0) ts xs (.d x :: l.map Sl.wipe) _
    rw [hl]
    exact compL_map hl f (fun y hy => h y (List.mem_cons_of_mem _ hy)) q
end L3

set_option Elab.async false
set_option linter.all false
set_option maxRecDepth 100000
/-! enumerate over a list, with a target of two. -/
namespace Fr
open PySem PySem.Spec L2
open PyProof.Rows hiding St
section
variable {X : Cx}
end
end Fr

set_option Elab.async false
set_option linter.all false
set_option maxRecDepth 100000
/-! Pairs walked, == of data, isinstance, dicts, raise. -/
namespace L3
open PySem PySem.Spec L2
section
variable {X : Cx} {E : XK} {e a b c o : Expr} {es : List Expr} {pos p : Pos}
/-! ### zip and enumerate -/
/-! ### == and != of data -/
mutual
def D.py : D → PyData
  | .non => .none
  | .bl b => .bool b
  | .int i => .int i
  | .str x => .str x
  | .tup xs => .tuple (D.pys xs)
  | .lst xs => .list (D.pys xs)
  | _ => .dict []
def D.pys : List D → List PyData
  | [] => []
  | x :: xs => x.py :: D.pys xs
end
mutual
theorem Rp.isD {K : PySem.W.Frag} {F H : Hp} (s : Same F H) : ∀ {v : V} {x : D}, Rp K F v x → x.py.canLay0 = true → Fr.IsD K H v x.py
  | _, _, .non, _ => .non
  | _, _, .bl b, _ => .bl b
  | _, _, .int i, _ => .int i
  | _, _, .str x, _ => .str x
  | _, _, .ty n, h => by simp [D.py, PyData.canLay0] at h
  | _, _, .adr a, h => by simp [D.py, PyData.canLay0] at h
  | _, _, .scr _, h => by simp [D.py, PyData.canLay0] at h
  | _, _, .dT _ _ _, h => by simp [D.py, PyData.canLay0] at h
  | _, _, .dK _ _ _, h => by simp [D.py, PyData.canLay0] at h
  | _, _, .obj _ _ _, h => by simp [D.py, PyData.canLay0] at h
  | _, _, .exc _, h => by simp [D.py, PyData.canLay0] at h
  | _, _, .tup hs rs, h => .tup (Fr.sqT_same s hs) (Rps.isDs s rs (by simpa [D.py, PyData.canLay0] using h))
  | _, _, .lst hs rs, h => .lst (SqL.of (s _ _ hs)) (Rps.isDs s rs (by simpa [D.py, PyData.canLay0] using h))
theorem Rps.isDs {K : PySem.W.Frag} {F H : Hp} (s : Same F H) : ∀ {vs : List V} {xs : List D}, Rps K F vs xs → PyData.canLayAll0 (D.pys xs) = true → Fr.IsDs K H vs (D.pys xs)
  | _, _, .nil, _ => .nil
  | _, _, .cons (d := d) (ds := ds) r rs, h => by
    have h' : d.py.canLay0 = true ∧ PyData.canLayAll0 (D.pys ds) = true := by simpa [D.pys, PyData.canLayAll0] using h
    exact .cons (Rp.isD s r h'.1) (Rps.isDs s rs h'.2)
end
/-- what can be compared -/
def CanEq (x : D) : Prop := x.py.canLay0 = true ∧ x.py.depth ≤ 60
def eqD : D → D → (D → Prop) → Prop := fun x y P => (CanEq x ∧ CanEq y) ∧ ∃ b, PyData.eqv x.py y.py = b ∧ P (.bl b)
def neD : D → D → (D → Prop) → Prop := fun x y P => (CanEq x ∧ CanEq y) ∧ ∃ b, PyData.eqv x.py y.py = b ∧ P (.bl (!b))
theorem r_eqD {A : Around} {K : PySem.W.Frag} {k : Nat} (hr : Room k A) : R3 K (fun x y H Q => ∃ d d', Fr.IsD K H x d ∧ Fr.IsD K H y d' ∧ d.canLay0 = true ∧ d'.canLay0 = true ∧ A.units + d.depth < cLine ∧ Q (.bl (PyData.eqv d d')) H) eqD := by
  intro F H x y v u Q P fh rx ry h q
  obtain ⟨h1, b, rfl, h2⟩ := h
  exact ⟨_, _, rx.isD fh h1.1.1, ry.isD fh h1.2.1, h1.1.1, h1.2.1, Fr.room_d hr (Nat.le_trans h1.1.2 (by decide)), q _ _ h2 (.bl _)⟩
theorem r_neD {A : Around} {K : PySem.W.Frag} {k : Nat} (hr : Room k A) : R3 K (fun x y H Q => ∃ d d', Fr.IsD K H x d ∧ Fr.IsD K H y d' ∧ d.canLay0 = true ∧ d'.canLay0 = true ∧ A.units + d.depth < cLine ∧ Q (.bl (!PyData.eqv d d')) H) neD := by
  intro F H x y v u Q P fh rx ry h q
  obtain ⟨h1, b, rfl, h2⟩ := h
  exact ⟨_, _, rx.isD fh h1.1.1, ry.isD fh h1.2.1, h1.1.1, h1.2.1, Fr.room_d hr (Nat.le_trans h1.1.2 (by decide)), q _ _ h2 (.bl _)⟩
/-! ### isinstance of data -/
def tyN : D → Option String
  | .non => some "NoneType"
  | .bl _ => some "bool"
  | .int _ => some "int"
  | .str _ => some "str"
  | .tup _ => some "tuple"
  | .lst _ => some "list"
  | _ => none
def isiB (t T : String) : Bool := t == T || (t == "bool" && T == "int")
def tOk (T : String) : Bool := T == "int" || T == "bool" || T == "tuple" || T == "list" || T == "str"
theorem tok_of {T : String} (h : tOk T = true) : T = "int" ∨ T = "bool" ∨ T = "tuple" ∨ T = "list" ∨ T = "str" := by
  unfold tOk at h
  simp only [Bool.or_eq_true, beq_iff_eq] at h
  rcases h with (((h | h) | h) | h) | h
  · exact .inl h
  · exact .inr (.inl h)
  · exact .inr (.inr (.inl h))
  · exact .inr (.inr (.inr (.inl h)))
  · exact .inr (.inr (.inr (.inr h)))
def rIsi : List D → (D → Prop) → Prop := fun xs P => match xs with
  | [x, .ty T] => (match tyN x, tOk T with
    | some t, true => P (.bl (isiB t T))
    | _, _ => False)
  | _ => False
end
section
variable {X : Cx}
theorem call_isiT : CallR X (.builtin "isinstance") (fun xs H Q => ∃ x T t b, xs = [x, .ty T] ∧ (TyOf X.K H x t ∨ ∃ p ys, x = .ref p ∧ SqT X.K H p ys ∧ t = .type "tuple") ∧ PySem.W.kitOne X.K t (.type T) = some b ∧ Q (.bl b) H) := by
  intro pins s σ H xs us Q I r h
  obtain ⟨x, T, t, b, rfl, ty, e, q⟩ := h
  obtain ⟨u, w', rfl, r1, r2⟩ := vals2 r
  cases r2
  rcases ty with ty | ⟨p, ys, rfl, sq, rfl⟩
  · exact isinst_ok I r1 ty e fun tk => ⟨.bl b, H, I.tok _, rfl, q⟩
  · cases r1
    obtain ⟨its, rv, ⟨o, h1, h2, _⟩, _⟩ := I.tuple sq
    exact PySem.W.kia_one PySem.W.kitx_tuple I.kIn ⟨o, h1, h2⟩ e (fun z => nomatch z) fun tk => ⟨.bl b, H, I.tok _, rfl, q⟩
theorem kit_is {K : PySem.W.Frag} {t T : String} (ht : t = "NoneType" ∨ t = "bool" ∨ t = "int" ∨ t = "str" ∨ t = "tuple" ∨ t = "list") (hT : T = "int" ∨ T = "bool" ∨ T = "tuple" ∨ T = "list" ∨ T = "str") : PySem.W.kitOne K (.type t) (.type T) = some (isiB t T) := by
  rcases ht with rfl | rfl | rfl | rfl | rfl | rfl <;> rcases hT with rfl | rfl | rfl | rfl | rfl <;> rfl
theorem isi_inv {xs : List D} {P : D → Prop} (h : rIsi xs P) : ∃ x T, xs = [x, .ty T] ∧ (match tyN x, tOk T with
    | some t, true => P (.bl (isiB t T))
    | _, _ => False) := by
  unfold rIsi at h
  split at h
  · exact ⟨_, _, rfl, h⟩
  · exact h.elim
theorem cr_isi : CR3 X.K (fun xs H Q => ∃ x T t b, xs = [x, .ty T] ∧ (TyOf X.K H x t ∨ ∃ p ys, x = .ref p ∧ SqT X.K H p ys ∧ t = .type "tuple") ∧ PySem.W.kitOne X.K t (.type T) = some b ∧ Q (.bl b) H) rIsi := by
  intro F H xs vs Q P fh rs h q
  obtain ⟨x, T, rfl, h0⟩ := isi_inv h
  clear h
  have h := h0
  clear h0
  obtain ⟨v, u, rfl, r, r2⟩ := rs.inv2
  obtain rfl := r2.inv_ty
  cases eT : tOk T with
  | false =>
    rw [eT] at h
    cases e : tyN x <;> (rw [e] at h; exact h.elim)
  | true =>
    have kT := tok_of eT
    rw [eT] at h
    cases x with
    | non => exact ⟨_, _, _, _, by rw [r.inv_non], .inl .non, kit_is (.inl rfl) kT, q _ _ h (.bl _)⟩
    | bl b => exact ⟨_, _, _, _, by rw [r.inv_bl], .inl (.bl b), kit_is (.inr (.inl rfl)) kT, q _ _ h (.bl _)⟩
    | int i => exact ⟨_, _, _, _, by rw [r.inv_int], .inl (.int i), kit_is (.inr (.inr (.inl rfl))) kT, q _ _ h (.bl _)⟩
    | str x => exact ⟨_, _, _, _, by rw [r.inv_str], .inl (.str x), kit_is (.inr (.inr (.inr (.inl rfl)))) kT, q _ _ h (.bl _)⟩
    | tup ds =>
      obtain ⟨a, us, rfl, hs, rr⟩ := r.inv_tup
      exact ⟨_, _, _, _, rfl, .inr ⟨_, _, rfl, Fr.sqT_same fh hs, rfl⟩, kit_is (.inr (.inr (.inr (.inr (.inl rfl))))) kT, q _ _ h (.bl _)⟩
    | lst ds =>
      obtain ⟨a, us, rfl, hs, rr⟩ := r.inv_lst
      exact ⟨_, _, _, _, rfl, .inl (.lst (fh _ _ hs)), kit_is (.inr (.inr (.inr (.inr (.inr rfl))))) kT, q _ _ h (.bl _)⟩
    | _ => exact h.elim
end
end L3

set_option Elab.async false
set_option linter.all false
set_option maxRecDepth 100000
/-! Dicts whose keys are tuples; raise; methods of lists. -/
namespace L3
open PySem PySem.Spec L2
section
variable {κ : Type} [DecidableEq κ] {K : PySem.W.Frag} {F : Hp}
end
section
variable {X : Cx} {E : XK} {e a b c o : Expr} {es : List Expr} {pos p : Pos}
/-- the dict that a name stands for -/
def Sl.dict : Sl → Option (List (List Key × D))
  | .d (.dT kvs) => some kvs
  | .own (.dT kvs) => some kvs
  | .bor (.dT kvs) => some kvs
  | _ => none
structure Q3 (X : Cx) (E : XK) (op : CmpOp) (a b : Expr) (t : T3D) : Prop where
  h : ∀ F0 H0 B, PC X op a b (LD X.K E F0 H0 B t)
/-! ### raise -/
def tRs (C : Addr) (t : T3A) : T3S := fun Z _ δ => t Z δ fun xs δ' => Few xs.length (Z C δ')
end
section
variable {P : Program} {w : World} {K : PySem.W.Frag} {mg : Str → Option Value} {base : Heap} {N : List Str} {qual : Str} {scope : Scope} {f : Addr} {cd : Value} {A : Around} {outer : List Env} {s : Shared} {H : Hp} {E : XK} {x : Str} {C : Addr} {e₀ : Expr} {rest : List Expr} {ta : T3A}
theorem s_raise {np cpos pos : Pos} (hg : Gl (cxOf (Fr.CX1 P w) P w K mg base N qual scope f cd A outer s H E) x) (hm : mg x = some (.ref C)) (q : PySem.W.excIn K C Fr.bmVE "ValueError.__new__" = true) (ha : A3 (cxOf (Fr.CX1 P w) P w K mg base N qual scope f cd A outer s H E) E (e₀ :: rest) ta)
    (he : starEach (e₀ :: rest) (cxOf (Fr.CX1 P w) P w K mg base N qual scope f cd A outer s H E).env = (false, eval e₀ (cxOf (Fr.CX1 P w) P w K mg base N qual scope f cd A outer s H E).env) :: starEach rest (cxOf (Fr.CX1 P w) P w K mg base N qual scope f cd A outer s H E).env := by rfl)
    (hpl : (backTo cpos (starEach rest (cxOf (Fr.CX1 P w) P w K mg base N qual scope f cd A outer s H E).env)).any (·.1) = false := by rfl) (hdb : (x == ("__debug__" : Str)) = false := by decide) :
    S3 (cxOf (Fr.CX1 P w) P w K mg base N qual scope f cd A outer s H E) E (.Raise (some (.Call (.Name x np) (e₀ :: rest) [] cpos)) none pos) (tRs C ta) :=
  ⟨fun F0 H0 B => ps_imp (Fr.ps_raise hg hm q (ha.h F0 H0 B) he hpl hdb) fun Dn σ H1 hh => ex4 hh fun δ F Z En L z w ok => ⟨δ, F, Z, _, L, z, w, fun xs δ' vs F' H' p' L' s r => by
    obtain ⟨n, p'⟩ := few p'
    exact ⟨by rw [r.len]; exact Nat.le_of_lt (line_big n), z C σ δ' F' H' L' p'⟩⟩⟩
end
section
variable {X : Cx} {E : XK} {e a b c o : Expr} {es : List Expr} {pos p : Pos}
/-! ### xs.reverse(), xs.extend(e) -/
/-! ### all of a list of truths -/
end
end L3

set_option Elab.async false
set_option linter.all false
set_option maxRecDepth 100000
/-! From the hand layer's promises to those over data; the law's own. -/
namespace L3
open PySem PySem.Spec L2
section
variable {P : Program} {w : World} {K : PySem.W.Frag} {mg : Str → Option Value} {base : Heap} {k : Nat} {f : Addr} {fd : FuncData} {ps : List Str}
theorem cx0_of {sp sp' : Sp} (F : FnOk P w K mg base (Fr.CX1 P w) k f fd ps sp) (h : ∀ vs H Q E, sp' vs H Q E → sp vs H Q E0) : FnOk P w K mg base CX0 k f fd ps sp' :=
  ⟨fun vs H Q E q => F.len vs H Q E0 (h _ _ _ _ q), fun A outer s H args us vs Q E hr he hb hv hs => codeAny_mono (F.run A outer s H args us vs Q E0 hr he hb hv (h _ _ _ _ hs)) fun r s' q => by
    cases r with
    | error e =>
      obtain ⟨x, C, H', _, _, _, _, _, _, z⟩ := q
      exact z
    | ok fl => cases fl <;> exact q⟩
/-- what a law is handed and what it gives -/
def spLaw (K : PySem.W.Frag) : Sp := fun vs H Q _ => ∃ (a : Addr) (ns : List Int), vs = [.ref a] ∧ SqL K H a (ns.map V.int) ∧ ns.length ≤ 63 ∧ Tb K H ∧ ∀ H', Tb K H' → Q (.bl true) H'
def sp3Law : Sp3 := fun δ Q _ => match δ with
  | [.d (.scr ns)] => ns.length ≤ 63 ∧ ∀ ob, Q (.d (.bl true)) ob
  | _ => False
end
theorem law_of {P : Program} {w : World} {K : PySem.W.Frag} {mg : Str → Option Value} {base : Heap} {k : Nat} {f : Addr} {fd : FuncData} {ps : List Str} {sp : Sp3} (F : FnOk P w K mg base (Fr.CX1 P w) k f fd ps (lsp K sp))
    (h : ∀ ns : List Int, ns.length ≤ 63 → ∀ Q : Rv → Option Ob → Prop, (∀ ob, Q (.d (.bl true)) ob) → sp [.d (.scr ns)] Q (fun _ _ => False)) : FnOk P w K mg base CX0 k f fd ps (spLaw K) := by
  refine cx0_of F fun vs H Q E ⟨a, ns, e, sq, len, tb, q⟩ => ?_
  subst e
  refine ⟨H, none, _, fun r _ => r = .d (.bl true), fun _ _ => False, Lk.args tb (Same.refl _) (.one (.scr sq)), h ns len _ (fun _ => rfl), fun r ob v F' H' e f k => ?_, fun _ _ _ _ z => z.elim⟩
  subst e
  cases k
  exact q H' (tb.same (f.f0.trans f.fh))
end L3
namespace L3
open PySem PySem.Spec L2
/-! ### attributes as targets; lent promises -/
section
variable {X : Cx} {E : XK} {e a b c o : Expr} {es : List Expr} {pos p : Pos}
end
end L3
namespace L3
open PySem PySem.Spec L2
structure Bt (mg : Str → Option Value) : Prop extends Fr.Bi mg where
  enumerate : mg "enumerate" = none
  sum : mg "sum" = none
  sorted : mg "sorted" = none
  any : mg "any" = none
  dict : mg "dict" = none
  reversed : mg "reversed" = none
theorem units1 {A : Around} {k : Nat} (hr : Room k A) : A.units + 1 < cLine := hu_of hr
end L3
namespace L3
/-! how a loop is read -/
theorem forL_inv {g : T3G} {tb : T3S} {Z : Zk} {En : En} (I : Nat → List Sl → Prop) : ∀ {xs : List D} {δ : List Sl}, I 0 δ →
    (∀ (i : Nat) (x : D) (δ : List Sl) (N : List Sl → Prop), xs[i]? = some x → I i δ → (∀ δ', I (i + 1) δ' → N δ') → g x δ fun δ1 => tb Z { nx := N, ct := N, bk := En.nx, rt := En.rt } δ1) →
    (∀ δ, I xs.length δ → En.nx δ) → forL g tb Z En xs δ := by
  intro xs δ h0 step done
  have key : ∀ (m i : Nat) (δ : List Sl), m = xs.length - i → i ≤ xs.length → I i δ → forL g tb Z En (xs.drop i) δ := by
    intro m
    induction m with
    | zero =>
      intro i δ hm hi hI
      have : i = xs.length := by omega
      subst this
      rw [List.drop_length]
      exact done δ hI
    | succ m ih =>
      intro i δ hm hi hI
      have lt : i < xs.length := by omega
      rw [List.drop_eq_getElem_cons lt]
      exact step i _ δ _ (List.getElem?_eq_getElem lt) hI fun δ' h' => ih (i + 1) δ' (by omega) lt h'
  have := key xs.length 0 δ (by simp) (Nat.zero_le _) h0
  rwa [List.drop_zero] at this
theorem forL_range {g : T3G} {tb : T3S} {Z : Zk} {En : En} (I : Nat → List Sl → Prop) {lo : Int} {n : Nat} {δ : List Sl} (h0 : I 0 δ)
    (step : ∀ (i : Nat) (δ : List Sl) (N : List Sl → Prop), i < n → I i δ → (∀ δ', I (i + 1) δ' → N δ') → g (.int (lo + (i : Int))) δ fun δ1 => tb Z { nx := N, ct := N, bk := En.nx, rt := En.rt } δ1)
    (done : ∀ δ, I n δ → En.nx δ) : forL g tb Z En (rngD lo n) δ := by
  refine forL_inv I h0 (fun i x δ N hx hI hN => ?_) (by rw [rngD_len]; exact done)
  have lt : i < n := by
    have := (List.getElem?_eq_some_iff.mp hx).1
    rwa [rngD_len] at this
  rw [rngD_at lt] at hx
  cases hx
  exact step i δ N lt hI hN
theorem fitI {a : Int} (h : a.natAbs < 2 ^ 64) : Fit a := Nat.lt_of_lt_of_le h (Nat.pow_le_pow_right (by decide) (by decide))
end L3
namespace L3
open PySem PySem.Spec L2
theorem d_globI {X : Cx} {E : XK} {pos : Pos} {x : Str} {i : Int} {t : Tok} (hg : Gl X x) (hm : X.mg x = some (.int i t)) (hd : (x == ("__debug__" : Str)) = false := by decide) : D3 X E (.Name x pos) (tK (.int i)) :=
  d_glob (v := .int i) hg hm ⟨t, rfl⟩ (fun _ => .int i) hd
end L3

set_option Elab.async false
set_option linter.all false
set_option maxRecDepth 100000
/-! Looks at what is owned, without making it data. -/
namespace L3
open PySem PySem.Spec L2
def Sl.pk : Sl → Option D
  | .d x => some x
  | .own o => o.frz
  | .bor o => o.frz
  | .un => none
def pk (δ : List Sl) (i : Nat) : Option D := match δ[i]? with
  | some s => s.pk
  | none => none
theorem OwnOk.frz' {K : PySem.W.Frag} {F Fp H : Hp} {a : Addr} {o : Ob} {x : D} (h : OwnOk K F H a o) (e : o.frz = some x) (s1 : Same F Fp) (s2 : Same Fp H) : ∃ Fq, Same Fp Fq ∧ Same Fq H ∧ Rp K Fq (.ref a) x := by
  obtain ⟨ho, eh⟩ := h.there
  have sU : Same Fp (upd Fp a ho) := fun b u e => by
    by_cases q : b = a
    · subst q; rw [upd_same]; rw [s2 _ _ e] at eh; exact eh.symm
    · rw [upd_ne q]; exact e
  have sH : Same (upd Fp a ho) H := fun b u e => by
    by_cases q : b = a
    · subst q; rw [upd_same] at e; rw [eh]; exact e
    · rw [upd_ne q] at e; exact s2 _ _ e
  refine ⟨upd Fp a ho, sU, sH, ?_⟩
  have s := s1.trans sU
  cases o with
  | lst xs => obtain ⟨vs, e1, r⟩ := h; cases e; rw [eh] at e1; cases e1; exact .lst upd_same (r.same s)
  | dT kvs => obtain ⟨vs, e1, k, r⟩ := h; cases e; rw [eh] at e1; cases e1; exact .dT upd_same k (r.same s)
  | dK kvs => obtain ⟨vs, e1, k, r⟩ := h; cases e; rw [eh] at e1; cases e1; exact .dK upd_same k (r.same s)
  | ins C fs => obtain ⟨dx, vs, e1, k, r⟩ := h; cases e; rw [eh] at e1; cases e1; exact .obj upd_same k (r.same s)
  | pu => cases e
theorem Lk.pk {K : PySem.W.Frag} {F0 H0 F H Fp : Hp} {B : Option Addr} {σ : St} {δ : List Sl} {i : Nat} {x : D} (L : Lk K F0 H0 B σ δ F H) (s1 : Same F Fp) (s2 : Same Fp H) (e : pk δ i = some x) : ∃ v Fq, σ[i]? = some (some v) ∧ Same Fp Fq ∧ Same Fq H ∧ Rp K Fq v x := by
  unfold L3.pk at e
  cases q : δ[i]? with
  | none => rw [q] at e; cases e
  | some s =>
    rw [q] at e
    have z := L.sl i s q
    cases s with
    | un => cases e
    | d y => cases e; obtain ⟨v, e1, r⟩ := z; exact ⟨v, Fp, e1, Same.refl _, s2, r.same s1⟩
    | own o =>
      obtain ⟨a, e1, _, _, w⟩ := z
      obtain ⟨Fq, a1, a2, a3⟩ := w.frz' e s1 s2
      exact ⟨_, Fq, e1, a1, a2, a3⟩
    | bor o =>
      obtain ⟨a, e1, _, _, w⟩ := z
      obtain ⟨Fq, a1, a2, a3⟩ := w.frz' e s1 s2
      exact ⟨_, Fq, e1, a1, a2, a3⟩
/-- a list of names as arguments -/
def tVars (is : List Nat) : TA := fun σ H Q => ∃ vs, Paired (fun i v => σ[i]? = some (some v)) is vs ∧ Q vs H
section
variable {X : Cx} {E : XK} {e a b c o : Expr} {es : List Expr} {pos p : Pos}
structure V3 (X : Cx) (es : List Expr) (is : List Nat) : Prop where
  h : PA X es (tVars is)
/-- a comparison of two names -/
def tOP (r3 : D → D → (D → Prop) → Prop) (i j : Nat) : T3D := fun Z δ Q => match pk δ i, pk δ j with
  | some x, some y => r3 x y fun z => (match z with
    | .bl k => Q (.bl k) δ
    | _ => False)
  | _, _ => False
theorem lo_opP {K : PySem.W.Frag} {F0 H0 : Hp} {B : Option Addr} {i j : Nat} {r : R2} {r3 : D → D → (D → Prop) → Prop} (rel : R3 K r r3) {σ : St} {H : Hp} {Q : VK} (h : LD K E F0 H0 B (tOP r3 i j) σ H Q) : tOp r (tVar i) (tVar j) σ H Q := by
  obtain ⟨δ, F, Z, P, L, z, w, q⟩ := h
  unfold tOP at w
  cases e1 : L3.pk δ i with
  | none => rw [e1] at w; exact w.elim
  | some x =>
    cases e2 : L3.pk δ j with
    | none => rw [e1, e2] at w; exact w.elim
    | some y =>
      rw [e1, e2] at w
      obtain ⟨v, Fq, s1, a1, a2, a3⟩ := L.pk (Same.refl _) L.fh e1
      obtain ⟨u, Fr', s2, b1, b2, b3⟩ := L.pk a1 a2 e2
      refine ⟨v, s1, u, s2, rel Fr' H x y v u Q _ b2 (a3.same b1) b3 w fun zz ww pz rz => ?_⟩
      cases rz with
      | bl k => exact q _ δ _ F H pz L (Same.refl _) (.bl k)
      | _ => exact pz.elim
theorem c_cmpP (i j : Nat) {op : CmpOp} {r : R2} {r3 : D → D → (D → Prop) → Prop} {x y : Str} {p1 p2 : Pos} (ho : OpR X (compareOp op) r) (rel : R3 X.K r r3) (hm : behindInMarks op (.Name y p2) = false)
    (hN : X.N[i]? = some x := by rfl) (hv : Vis X.env.scope x := by first | exact Or.inl rfl | exact Or.inr (Or.inl rfl) | exact Or.inr (Or.inr rfl)) (hd : (x == ("__debug__" : Str)) = false := by decide) (hcd : (x == ("__classdict__" : Str)) = false := by decide)
    (hN2 : X.N[j]? = some y := by rfl) (hv2 : Vis X.env.scope y := by first | exact Or.inl rfl | exact Or.inr (Or.inl rfl) | exact Or.inr (Or.inr rfl)) (hd2 : (y == ("__debug__" : Str)) = false := by decide) (hcd2 : (y == ("__classdict__" : Str)) = false := by decide) :
    C3 X E (.Compare (.Name x p1) [op] [.Name y p2] pos) (tB3 (tOP r3 i j)) :=
  ⟨fun F0 H0 B => pt_imp (pt_cmpR ho (pe_var hN hv hd hcd) (pe_var hN2 hv2 hd2 hcd2) hm) fun σ H Q hh => ex4 hh fun δ F Z P L z w q => lo_opP (E := E) (F0 := F0) (H0 := H0) (B := B) rel ⟨δ, F, Z, _, L, z, w, fun x δ' v F' H' p L' s r => by
    obtain ⟨c, rfl, k⟩ := bl_inv p
    exact ⟨c, r.inv_bl, q _ δ' F' H' k L' s⟩⟩⟩
/-- a built-in function of one name and a type: isinstance(name, T) -/
def tIsN (i : Nat) (T : String) : T3D := fun Z δ Q => match pk δ i with
  | some x => rIsi [x, .ty T] fun z => (match z with
    | .bl k => Q (.bl k) δ
    | _ => False)
  | none => False
theorem d_isiN (i : Nat) {x y : Str} {T : String} {p1 p2 : Pos} (hg : Gl X "isinstance") (hm : X.mg "isinstance" = none) (hgT : Gl X y) (hmT : X.mg y = none) (hvT : bootBuiltins y = some (.type T))
    (hN : X.N[i]? = some x := by rfl) (hv : Vis X.env.scope x := by first | exact Or.inl rfl | exact Or.inr (Or.inl rfl) | exact Or.inr (Or.inr rfl)) (hd : (x == ("__debug__" : Str)) = false := by decide) (hcd : (x == ("__classdict__" : Str)) = false := by decide)
    (hnT : y ≠ "__name__" := by decide) (hdT : (y == ("__debug__" : Str)) = false := by decide) : D3 X E (.Call (.Name "isinstance" p) [.Name x p1, .Name y p2] [] pos) (tIsN i T) :=
  ⟨fun F0 H0 B => pe_imp (pe_callB call_isiT hg hm PyProof.Rows.boot_isinstance (pa_cons (pe_var hN hv hd hcd) (pa_cons (Fr.pe_ty hgT hmT hvT hnT hdT) pa_nil Fr.star_name) Fr.star_name)) fun σ H Q hh => ex4 hh fun δ F Z P L z w q => by
    unfold tIsN at w
    cases e1 : L3.pk δ i with
    | none => rw [e1] at w; exact w.elim
    | some x =>
      rw [e1] at w
      obtain ⟨v, Fq, s1, a1, a2, a3⟩ := L.pk (Same.refl _) L.fh e1
      refine ⟨v, s1, cr_isi Fq H [x, .ty T] [v, .ty T] Q _ a2 (.cons a3 (.cons (.ty T) .nil)) w fun zz ww pz rz => ?_⟩
      cases rz with
      | bl k => exact q _ δ _ F H pz L (Same.refl _) (.bl k)
      | _ => exact pz.elim⟩
end
end L3
namespace L3
open PySem
/-- lists of data that can be compared -/
theorem pys_lay {f : Nat} : ∀ {xs : List D}, (∀ x ∈ xs, x.py.canLay0 = true ∧ x.py.depth ≤ f) → PyData.canLayAll0 (D.pys xs) = true ∧ PyData.depthAll (D.pys xs) ≤ f
  | [], _ => by simp [D.pys, PyData.canLayAll0, PyData.depthAll]
  | x :: xs, h => by
    have a := h x List.mem_cons_self
    have b := pys_lay fun y hy => h y (List.mem_cons_of_mem _ hy)
    simp only [D.pys, PyData.canLayAll0, PyData.depthAll, a.1, b.1, Bool.and_self, true_and]
    have := a.2
    have := b.2
    omega
theorem canEq_lst {f : Nat} {xs : List D} (h : ∀ x ∈ xs, x.py.canLay0 = true ∧ x.py.depth ≤ f) (hf : f ≤ 50) : CanEq (.lst xs) := by
  obtain ⟨a, b⟩ := pys_lay h
  refine ⟨by simpa [D.py, PyData.canLay0] using a, ?_⟩
  show PyData.depth (.list (D.pys xs)) ≤ 60
  simp only [PyData.depth]
  omega
theorem lay_pair (i j : Int) : (D.tup [.int i, .int j]).py.canLay0 = true ∧ (D.tup [.int i, .int j]).py.depth ≤ 1 := by
  refine ⟨rfl, ?_⟩
  show PyData.depth (.tuple [.int i, .int j]) ≤ 1
  simp [PyData.depth, PyData.depthAll]
end L3
namespace L3
open PySem L2
theorem MtOk.mono {P : Program} {w : World} {K : PySem.W.Frag} {mg : Str → Option Value} {base : Heap} {j k : Nat} {C : Addr} {m : Str} {ps : List Str} {sp : Sp3} (O : MtOk P w K mg base j C m ps sp) (h : j ≤ k) : MtOk P w K mg base k C m ps sp := by
  obtain ⟨c, f, fd, a, b, d⟩ := O
  exact ⟨c, f, fd, a.mono h, b, d⟩
theorem MkOk.mono {P : Program} {w : World} {K : PySem.W.Frag} {mg : Str → Option Value} {base : Heap} {j k : Nat} {x : Str} {C : Addr} {ps : List Str} {sp : Sp3} (O : MkOk P w K mg base j x C ps sp) (h : j ≤ k) : MkOk P w K mg base k x C ps sp := by
  obtain ⟨⟨f, fd, a, b, d⟩, m⟩ := O
  exact ⟨⟨f, fd, a.mono h, b, d⟩, m⟩
end L3

set_option Elab.async false
set_option linter.all false
set_option maxRecDepth 100000
set_option maxHeartbeats 8000000
/-! further built-ins over data -/
namespace Fr
open PySem PySem.Spec L2
open PyProof.Rows hiding St
open Sem (wp)
theorem all_range (bs : List Bool) : bs.all id = (List.range bs.length).all fun i => (bs[i]?).getD true := by
  rw [Bool.eq_iff_iff, List.all_eq_true, List.all_eq_true]
  constructor
  · intro h i hi
    have lt := List.mem_range.mp hi
    rw [List.getElem?_eq_getElem lt]
    exact h _ (List.getElem_mem lt)
  · intro h b hb
    obtain ⟨i, lt, e⟩ := List.mem_iff_getElem.mp hb
    have := h i (List.mem_range.mpr lt)
    rw [List.getElem?_eq_getElem lt, e] at this
    exact this
section
variable {X : Cx}
theorem call_allB (hc : X.calm = true) : CallR X (.builtin "all") (fun xs H Q => ∃ p ys, xs = [.ref p] ∧ SqL X.K H p ys ∧ ∃ bs : List Bool, ys = bs.map V.bl ∧ Q (.bl (bs.all id)) H) := by
  intro pins s σ H xs us Q I r h
  obtain ⟨p, ys, rfl, hq, bs, rfl, q⟩ := h
  obtain ⟨u, rfl, r1⟩ := vals1 r
  cases r1
  obtain ⟨its, rv, pl, hz⟩ := I.list hq
  have lt : p < s.heap.objs.size := by obtain ⟨_, e, _⟩ := pl.isList; exact Heap.lt_size e
  refine call_all_walk (wpAny_pyIter_list pl.isList ?_)
  refine ⟨s.heap.objs.size, _, _, _, _, _, fun i => (bs[i]?).getD true, rfl, Walks.list (A := X.A.in1) (I.ok.hd hc) _ p (Nat.ne_of_lt lt) its.toArray, ⟨⟨_, Heap.get?_push_size _ rfl, rfl, rfl⟩, pl.isList.push _⟩, ?_, ?_⟩
  · intro i v s' Q' E' hv hQ
    have hv' : its[i]? = some v := by simpa using hv
    have lti : i < (bs.map V.bl).length := by
      have := (List.getElem?_eq_some_iff.mp hv').1
      rw [rv.length]
      exact this
    obtain ⟨u', e', ru⟩ := rv.get (List.getElem?_eq_getElem lti)
    rw [hv'] at e'
    cases e'
    rw [List.getElem_map] at ru
    rw [List.length_map] at lti
    cases ru
    dsimp only at hQ
    rw [List.getElem?_eq_getElem lti] at hQ
    exact wpAny_truthy_bool hQ
  · intro h' tk kp
    refine fin_bl (I.kept (t' := tk) fun b o e => kp b o ?_ (Heap.get?_push_of_some _ e)) q ?_
    · intro hm
      have : b = s.heap.objs.size := by simpa using hm
      exact absurd (Heap.lt_size e) (by rw [this]; exact Nat.lt_irrefl _)
    · have el : its.toArray.size = bs.length := by
        have := rv.length
        rw [List.length_map] at this
        simp [this]
      rw [el]
      exact all_range bs
end
end Fr
namespace L3
open PySem L2
section
def rAllB : List D → (D → Prop) → Prop := fun xs P => match xs with
  | [.lst ys] => ∃ bs : List Bool, ys = bs.map D.bl ∧ P (.bl (bs.all id))
  | _ => False
theorem bls_of {K : PySem.W.Frag} {F : Hp} : ∀ {bs : List Bool} {vs : List V}, Rps K F vs (bs.map D.bl) → vs = bs.map V.bl
  | [], _, .nil => rfl
  | b :: bs, _, .cons r rs => by
    cases r
    rw [bls_of rs]
    rfl
theorem cr_allB {K : PySem.W.Frag} : CR3 K (fun xs H Q => ∃ p ys, xs = [.ref p] ∧ SqL K H p ys ∧ ∃ bs : List Bool, ys = bs.map V.bl ∧ Q (.bl (bs.all id)) H) rAllB := by
  intro F H xs vs Q P fh rs h q
  cases rs with
  | nil => exact h.elim
  | cons r rs =>
    cases rs with
    | cons r2 rs => cases r <;> exact h.elim
    | nil =>
      cases r with
      | lst hs rr =>
        obtain ⟨bs, rfl, h⟩ := h
        exact ⟨_, _, rfl, SqL.of (fh _ _ hs), bs, bls_of rr, q _ _ h (.bl _)⟩
      | _ => exact h.elim
end
section
variable {X : Cx} {E : XK} {e a b c o : Expr} {es : List Expr} {pos : Pos}
end
end L3

set_option Elab.async false
set_option linter.all false
set_option maxRecDepth 100000
/-! Helps for reading: cuts, what == tells. -/
namespace L3
open PySem PySem.Spec L2
mutual
/-- whole numbers, texts, tuples and lists of them -/
def plain : D → Bool
  | .int _ => true
  | .str _ => true
  | .tup xs => plains xs
  | .lst xs => plains xs
  | _ => false
def plains : List D → Bool
  | [] => true
  | x :: xs => plain x && plains xs
end
mutual
theorem eqv_plain : ∀ (x y : D), plain x = true → plain y = true → (PyData.eqv x.py y.py = true ↔ x = y)
  | .int i, .int j, _, _ => by simp [D.py, PyData.eqv]
  | .str i, .str j, _, _ => by simp [D.py, PyData.eqv]
  | .tup xs, .tup ys, h1, h2 => by
    have := eqv_plains xs ys (by simpa [plain] using h1) (by simpa [plain] using h2)
    simp [D.py, PyData.eqv, this]
  | .lst xs, .lst ys, h1, h2 => by
    have := eqv_plains xs ys (by simpa [plain] using h1) (by simpa [plain] using h2)
    simp [D.py, PyData.eqv, this]
  | .int i, .str j, _, _ => by simp [D.py, PyData.eqv]
  | .int i, .tup j, _, _ => by simp [D.py, PyData.eqv]
  | .int i, .lst j, _, _ => by simp [D.py, PyData.eqv]
  | .str i, .int j, _, _ => by simp [D.py, PyData.eqv]
  | .str i, .tup j, _, _ => by simp [D.py, PyData.eqv]
  | .str i, .lst j, _, _ => by simp [D.py, PyData.eqv]
  | .tup i, .int j, _, _ => by simp [D.py, PyData.eqv]
  | .tup i, .str j, _, _ => by simp [D.py, PyData.eqv]
  | .tup i, .lst j, _, _ => by simp [D.py, PyData.eqv]
  | .lst i, .int j, _, _ => by simp [D.py, PyData.eqv]
  | .lst i, .str j, _, _ => by simp [D.py, PyData.eqv]
  | .lst i, .tup j, _, _ => by simp [D.py, PyData.eqv]
  | .non, _, h, _ => by simp [plain] at h
  | .bl _, _, h, _ => by simp [plain] at h
  | .ty _, _, h, _ => by simp [plain] at h
  | .adr _, _, h, _ => by simp [plain] at h
  | .dT _, _, h, _ => by simp [plain] at h
  | .dK _, _, h, _ => by simp [plain] at h
  | .obj _ _, _, h, _ => by simp [plain] at h
  | .scr _, _, h, _ => by simp [plain] at h
  | .exc _, _, h, _ => by simp [plain] at h
  | _, .non, _, h => by simp [plain] at h
  | _, .bl _, _, h => by simp [plain] at h
  | _, .ty _, _, h => by simp [plain] at h
  | _, .adr _, _, h => by simp [plain] at h
  | _, .dT _, _, h => by simp [plain] at h
  | _, .dK _, _, h => by simp [plain] at h
  | _, .obj _ _, _, h => by simp [plain] at h
  | _, .scr _, _, h => by simp [plain] at h
  | _, .exc _, _, h => by simp [plain] at h
theorem eqv_plains : ∀ (xs ys : List D), plains xs = true → plains ys = true → (PyData.eqvAll (D.pys xs) (D.pys ys) = true ↔ xs = ys)
  | [], [], _, _ => by simp [D.pys, PyData.eqvAll]
  | [], _ :: _, _, _ => by simp [D.pys, PyData.eqvAll]
  | _ :: _, [], _, _ => by simp [D.pys, PyData.eqvAll]
  | x :: xs, y :: ys, h1, h2 => by
    have h1' : plain x = true ∧ plains xs = true := by simpa [plains] using h1
    have h2' : plain y = true ∧ plains ys = true := by simpa [plains] using h2
    simp [D.pys, PyData.eqvAll, eqv_plain x y h1'.1 h2'.1, eqv_plains xs ys h1'.2 h2'.2]
end
theorem plain_pair (a b : Int) : plain (.tup [.int a, .int b]) = true := by simp [plain, plains]
theorem plains_of {xs : List D} (h : ∀ x ∈ xs, plain x = true) : plains xs = true := by
  induction xs with
  | nil => rfl
  | cons x xs ih => simp [plains, h x (by simp), ih fun y hy => h y (by simp [hy])]
end L3

set_option Elab.async false
set_option linter.all false
/-! what the slots at a call are, told by a promise -/
namespace L3
open PySem
theorem iv_d {δ : List Sl} {P : D → Prop} (h : match δ with
  | [.d x0] => P x0
  | _ => False) : ∃ x0, δ = [.d x0] ∧ P x0 := by
  split at h
  · exact ⟨_, rfl, h⟩
  · exact h.elim
theorem ln_d {δ : List Sl} {P : D → Prop} (h : match δ with
  | [.d x0] => P x0
  | _ => False) : δ.length = 1 := by
  obtain ⟨x0, rfl, _⟩ := iv_d h
  rfl
theorem iv_i {δ : List Sl} {P : Int → Prop} (h : match δ with
  | [.d (.int x0)] => P x0
  | _ => False) : ∃ x0, δ = [.d (.int x0)] ∧ P x0 := by
  split at h
  · exact ⟨_, rfl, h⟩
  · exact h.elim
theorem ln_i {δ : List Sl} {P : Int → Prop} (h : match δ with
  | [.d (.int x0)] => P x0
  | _ => False) : δ.length = 1 := by
  obtain ⟨x0, rfl, _⟩ := iv_i h
  rfl
theorem iv_s {δ : List Sl} {P : List Int → Prop} (h : match δ with
  | [.d (.scr x0)] => P x0
  | _ => False) : ∃ x0, δ = [.d (.scr x0)] ∧ P x0 := by
  split at h
  · exact ⟨_, rfl, h⟩
  · exact h.elim
theorem ln_s {δ : List Sl} {P : List Int → Prop} (h : match δ with
  | [.d (.scr x0)] => P x0
  | _ => False) : δ.length = 1 := by
  obtain ⟨x0, rfl, _⟩ := iv_s h
  rfl
theorem iv_ii {δ : List Sl} {P : Int → Int → Prop} (h : match δ with
  | [.d (.int x0), .d (.int x1)] => P x0 x1
  | _ => False) : ∃ x0 x1, δ = [.d (.int x0), .d (.int x1)] ∧ P x0 x1 := by
  split at h
  · exact ⟨_, _, rfl, h⟩
  · exact h.elim
theorem ln_ii {δ : List Sl} {P : Int → Int → Prop} (h : match δ with
  | [.d (.int x0), .d (.int x1)] => P x0 x1
  | _ => False) : δ.length = 2 := by
  obtain ⟨x0, x1, rfl, _⟩ := iv_ii h
  rfl
theorem iv_si {δ : List Sl} {P : List Int → Int → Prop} (h : match δ with
  | [.d (.scr x0), .d (.int x1)] => P x0 x1
  | _ => False) : ∃ x0 x1, δ = [.d (.scr x0), .d (.int x1)] ∧ P x0 x1 := by
  split at h
  · exact ⟨_, _, rfl, h⟩
  · exact h.elim
theorem ln_si {δ : List Sl} {P : List Int → Int → Prop} (h : match δ with
  | [.d (.scr x0), .d (.int x1)] => P x0 x1
  | _ => False) : δ.length = 2 := by
  obtain ⟨x0, x1, rfl, _⟩ := iv_si h
  rfl
theorem us_1 {us : List Value} (h : us.length = 1) : ∃ a0, us = [a0] := by
  match us, h with
  | [a0], _ => exact ⟨a0, rfl⟩
theorem us_2 {us : List Value} (h : us.length = 2) : ∃ a0 a1, us = [a0, a1] := by
  match us, h with
  | [a0, a1], _ => exact ⟨a0, a1, rfl⟩
end L3

set_option Elab.async false
set_option linter.all false
set_option maxRecDepth 100000
set_option maxHeartbeats 8000000
/-! sum of a list of numbers -/
namespace Fr
open PySem PySem.Spec L2
open PyProof.Rows hiding St
open Sem (wp)
section
variable {X : Cx}
end
end Fr
namespace L3
open PySem L2
section
end
end L3

set_option Elab.async false
set_option linter.all false
set_option maxRecDepth 100000
set_option maxHeartbeats 4000000
/-! try over any expression; behind the except suite all names but the clause's stay. -/
namespace Fr
open PySem PySem.Spec L2
open PyProof.Rows hiding St
section
variable {X : Cx} {pins : List (Addr × Obj)} {σ : St} {H : Hp} {s : Shared}
end

section
variable {X : Cx} {pins : List (Addr × Obj)} {σ : St} {H H1 : Hp} {s s1 s' : Shared} {i : Nat} {n R : Str} {rp hpos : Pos} {b₀ : Stmt} {suite : List Stmt} {ts : TS} {D : Addr} {Dn : Ends} {e : Value} {Ee : Value → Shared → Prop}
end
end Fr

set_option Elab.async false
set_option linter.all false
set_option maxRecDepth 100000
set_option maxHeartbeats 4000000
/-! sorted(..): of whole numbers, and of tuples that rise already. -/
namespace Fr
open PySem PySem.Spec L2
open PyProof.Rows hiding St Fr
/-- < of lists of whole numbers, as Python tells it -/
def ltI : List Int → List Int → Bool
  | [], [] => false
  | [], _ :: _ => true
  | _ :: _, [] => false
  | a :: r, b :: t => if a == b then ltI r t else decide (a < b)
section
variable {cmp : Nat → Nat → (Bool → Shared → Prop) → Shared → Prop} {s : Shared}
end
section
variable {prog : Program} {w : World} {A : Around} {E : Value → Shared → Prop}
end
end Fr

set_option Elab.async false
set_option linter.all false
set_option maxRecDepth 100000
set_option maxHeartbeats 4000000
/-! sorted(..) over data. -/
namespace Fr
open PySem PySem.Spec L2
open PyProof.Rows hiding St Fr
theorem vals_ints : ∀ {is : List Int} {its : List Value}, Vals (is.map V.int) its → IntsAre its is
  | [], _, .nil => .nil
  | i :: is, _, .cons r t => by
    obtain ⟨k, rfl⟩ : ∃ k, _ = Value.int i k := r
    exact .cons i k (vals_ints t)
/-- tuples of whole numbers on a heap -/
inductive TupsAt (h : Heap) : List Value → List (List Int) → Prop
  | nil : TupsAt h [] []
  | cons {a : Addr} {xs : List Value} {t : List Int} {vs : List Value} {ts : List (List Int)} : IsTup h a xs.toArray → IntsAre xs t → t ≠ [] → TupsAt h vs ts → TupsAt h (.ref a :: vs) (t :: ts)
theorem TupsAt.up {h h' : Heap} (k : ∀ b o, (∃ xs n, o.data = .seq xs n) → h.get? b = some o → h'.get? b = some o) : ∀ {vs : List Value} {ts : List (List Int)}, TupsAt h vs ts → TupsAt h' vs ts
  | _, _, .nil => .nil
  | _, _, .cons ⟨o, ho, hc, n, hd⟩ b c d => .cons ⟨o, k _ _ ⟨_, _, hd⟩ ho, hc, n, hd⟩ b c (d.up k)
theorem TupsAt.at {h : Heap} : ∀ {vs : List Value} {ts : List (List Int)} {i : Nat} {v : Value}, TupsAt h vs ts → vs[i]? = some v → ∃ a xs t, v = .ref a ∧ ts[i]? = some t ∧ IsTup h a xs.toArray ∧ IntsAre xs t
  | _, _, _, _, .nil, e => by simp at e
  | _, _, 0, _, .cons a b c d, e => by
    simp at e
    subst e
    exact ⟨_, _, _, rfl, rfl, a, b⟩
  | _, _, i + 1, v, .cons a b c d, e => by
    obtain ⟨a, xs, t, h1, h2, h3⟩ := d.at (i := i) (v := v) (by simpa using e)
    exact ⟨a, xs, t, h1, by simpa using h2, h3⟩
section
variable {X : Cx}
end
end Fr
namespace L3
open PySem PySem.Spec L2
section
variable {X : Cx} {E : XK} {e : Expr} {es : List Expr} {pos : Pos}
end
end L3

set_option Elab.async false
set_option linter.all false
set_option maxRecDepth 100000
/-! numbers of the script; products of any number and a small one. -/
namespace L3
open PySem PySem.Spec L2
def ixS : D → D → (D → Prop) → Prop := fun x y P => match x, y with
  | .scr ns, .int i => ∃ v, atI ns i = some v ∧ P (.int v)
  | _, _ => False
theorem atI_map {α β : Type} (f : α → β) {xs : List α} {i : Int} {x : α} (h : atI xs i = some x) : atI (xs.map f) i = some (f x) := by
  unfold atI at h ⊢
  rw [List.length_map]
  cases e : ixN xs.length i with
  | none => rw [e] at h; cases h
  | some j =>
    rw [e] at h
    have h' : xs[j]? = some x := h
    show (xs.map f)[j]? = _
    rw [List.getElem?_map, h']
    rfl
theorem r_ixS {K : PySem.W.Frag} : R3 K (rIxL K) ixS := by
  intro F H x y v u Q P fh rx ry h q
  cases x with
  | scr ns =>
    cases y with
    | int i =>
      obtain ⟨z, hz, p⟩ := h
      obtain ⟨a, rfl, hs⟩ := rx.inv_scr
      obtain rfl := ry.inv_int
      exact ⟨_, _, _, _, rfl, rfl, fh.seq hs, atI_map V.int hz, q _ _ p (.int z)⟩
    | _ => exact h.elim
  | _ => exact h.elim
theorem r_mulC {K : PySem.W.Frag} : R3 K (rI Fr.CMB fun i j => .int (i * j)) (i2c Fr.CMB fun i j => .int (i * j)) := r3_i2c (fun _ _ h => h) fun _ _ _ => .int _
end L3

set_option Elab.async false
set_option linter.all false
set_option maxRecDepth 100000
set_option maxHeartbeats 4000000
/-! min(..) of a list whose items are compared by what lies on the heap. -/
namespace Fr
open PySem PySem.Spec L2
open PyProof.Rows hiding St Fr
section
variable {prog : Program} {w : World} {A : Around} {R : Result → Shared → Prop} {I S : Addr} {fp wr : List Addr} {n : Nat} {P : Nat → Value → Prop} {St' : Nat → Heap → Prop} {bt : Nat → Nat → Bool} {Kp : Heap → Prop}
end
end Fr

set_option Elab.async false
set_option linter.all false
set_option maxRecDepth 100000
set_option maxHeartbeats 4000000
/-! min(..) of a list of tuples of whole numbers. -/
namespace Fr
open PySem PySem.Spec L2
open PyProof.Rows hiding St Fr
section
variable {X : Cx}
end
end Fr
namespace L3
open PySem PySem.Spec L2
end L3

set_option Elab.async false
set_option linter.all false
/-! Comprehensions over pairs, read. -/
namespace L3
open PySem PySem.Spec L2
abbrev g2 : T3G := gTu 2 (gCons3 (gNm 0) (gCons3 (gNm 1) gNil3))
theorem compL_map2 {ts : T3P} {l : List Sl} (hl : l.map Sl.wipe = l) (f : D → D) : ∀ {xs : List D} {s1 s2 : Sl} {Q : List D → Prop}, (∀ x ∈ xs, ∃ y1 y2, x = .tup [y1, y2] ∧ ∀ P : Option D → List Sl → Prop, P (some (f x)) (.d y1 :: .d y2 :: l) → ts (.d y1 :: .d y2 :: l) P) → Q (xs.map f) → compL g2 ts xs (s1 :: s2 :: l) Q
  | [], _, _, _, _, q => q
  | x :: xs, s1, s2, Q, h, q => by
    obtain ⟨y1, y2, rfl, h1⟩ := h x List.mem_cons_self
    show ts (.d y1 :: .d y2 :: l) _
    refine h1 _ ?_
    show compL g2 ts xs (.d y1 :: .d y2 :: l.map Sl.wipe) _
    rw [hl]
    exact compL_map2 hl f (fun y hy => h y (List.mem_cons_of_mem _ hy)) q
end L3

set_option Elab.async false
set_option linter.all false
/-! a, b, c = three things at once: stored from the right. -/
namespace Fr
open PySem PySem.Spec L2
open PyProof.Rows hiding St Fr
section
variable {X : Cx} {pos : Pos}
end
end Fr
namespace L3
open PySem PySem.Spec L2
section
variable {X : Cx} {E : XK} {e : Expr} {pos : Pos}
end
end L3

set_option Elab.async false
set_option linter.all false
set_option maxRecDepth 100000
set_option maxHeartbeats 4000000
/-! list < list, where the first numbers settle it. -/
namespace Fr
open PySem PySem.MeetsSeq PySem.MeetsSeq3 PySem.AutoSeq1 PyProof.Rows
section
variable (p q : Addr) (xs ys : Array Value) (a c : Int) (ta tc : Tok) (e1 e2 : Nat) (d1 d2 : Option Addr) (s1 s2 : Array (Option Value))
end
section
variable {prog : Program} {w : World} {A : Around} {E : Value → Shared → Prop} {s : Shared}
end
end Fr

set_option Elab.async false
set_option linter.all false
set_option maxRecDepth 100000
set_option maxHeartbeats 4000000
/-! sorted(..) of lists that stand in order by their first numbers. -/
namespace Fr
open PySem PySem.Spec L2
open PyProof.Rows hiding St Fr
section
variable {X : Cx}
/-- the i-th thing is a list whose first number is known -/
def HeadAt (h : Heap) (its : List Value) (ts : List (List Int)) : Prop := ∀ (i : Nat) (v : Value) (t : List Int), its[i]? = some v → ts[i]? = some t → ∃ (a : Addr) (xs : Array Value) (k : Tok), v = .ref a ∧ h.IsList a xs ∧ xs[0]? = some (.int (t.headD 0) k)
theorem HeadAt.up {h h' : Heap} {its : List Value} {ts : List (List Int)} (T : HeadAt h its ts) (k : ∀ b o, (∃ xs n, o.data = .seq xs n) → h.get? b = some o → h'.get? b = some o) : HeadAt h' its ts := fun i v t hv ht => by
  obtain ⟨a, xs, c, e, ⟨o, ho, hc, n, hd⟩, hx⟩ := T i v t hv ht
  exact ⟨a, xs, c, e, ⟨o, k a o ⟨xs, n, hd⟩ ho, hc, n, hd⟩, hx⟩
end
end Fr
namespace L3
open PySem PySem.Spec L2
end L3

set_option Elab.async false
set_option linter.all false
/-! a number in a tuple of numbers -/
namespace L3
open PySem PySem.Spec L2
end L3
namespace L3
open PySem PySem.Spec L2
section
variable {X : Cx} {E : XK} {e : Expr} {pos p : Pos}
end
end L3

set_option Elab.async false
set_option linter.all false
set_option maxRecDepth 100000
/-! xs += list; xs.count(e); a name's object held against data; comprehensions within comprehensions. -/
namespace Fr
open PySem PySem.Spec L2
open PyProof.Rows hiding St Fr
section
variable {X : Cx}
end
end Fr
namespace L3
open PySem PySem.Spec L2
open PyProof.Rows hiding St Fr
section
variable {X : Cx}
end
end L3
namespace L3
open PySem PySem.Spec L2
section
variable {X : Cx} {E : XK} {e a b c o : Expr} {es : List Expr} {pos p : Pos}
end
end L3
namespace Fr
open PySem PySem.Spec L2
end Fr

set_option Elab.async false
set_option linter.all false
set_option maxRecDepth 100000
/-! A block that makes new lists, looks at them, changes them and forgets them: all that was there stays. -/
namespace L3
open PySem PySem.Spec L2
/-- slots of data alone -/
structure PSl (K : PySem.W.Frag) (H : Hp) (σ : St) (δ : List Sl) : Prop where
  tb : Tb K H
  len : δ.length = σ.length
  sl : ∀ (i : Nat) (s : Sl), δ[i]? = some s → s = .un ∨ ∃ x v, s = .d x ∧ σ[i]? = some (some v) ∧ Rp K H v x
theorem PSl.lk {K : PySem.W.Frag} {H : Hp} {σ : St} {δ : List Sl} (h : PSl K H σ δ) : Lk K H H none σ δ H H := by
  refine ⟨Same.refl _, Same.refl _, fun _ _ e _ => e, fun _ _ => rfl, (fun b e => by cases e), h.len, fun i s e => ?_, fun i j o o' e1 e2 e3 => ?_, fun i j o o' e1 e2 => ?_, h.tb⟩
  · rcases h.sl i s e with rfl | ⟨x, v, rfl, e1, r⟩
    · trivial
    · exact ⟨v, e1, r⟩
  · rcases h.sl i _ e1 with z | ⟨_, _, z, _⟩ <;> cases z
  · rcases h.sl i _ e1 with z | ⟨_, _, z, _⟩ <;> cases z
theorem PSl.same {K : PySem.W.Frag} {H H' : Hp} {σ : St} {δ : List Sl} (h : PSl K H σ δ) (s : Same H H') : PSl K H' σ δ :=
  ⟨h.tb.same s, h.len, fun i t e => (h.sl i t e).imp id fun ⟨x, v, e1, e2, r⟩ => ⟨x, v, e1, e2, r.same s⟩⟩
theorem PSl.set {K : PySem.W.Frag} {H : Hp} {σ : St} {δ : List Sl} {i : Nat} {v : V} {x : D} (h : PSl K H σ δ) (r : Rp K H v x) : PSl K H (σ.set i (some v)) (δ.set i (.d x)) := by
  refine ⟨h.tb, by rw [List.length_set, List.length_set]; exact h.len, fun j s e => ?_⟩
  by_cases q : i = j
  · subst q
    have lt : i < δ.length := by
      have := (List.getElem?_eq_some_iff.mp e).1
      rwa [List.length_set] at this
    rw [List.getElem?_set_self lt] at e
    cases e
    exact .inr ⟨x, v, rfl, List.getElem?_set_self (by rw [← h.len]; exact lt), r⟩
  · rw [List.getElem?_set_ne q] at e
    rw [List.getElem?_set_ne q]
    exact h.sl j s e
section
variable {X : Cx} {E : XK} {e c : Expr} {pos p : Pos}
end
end L3
namespace L3
open PySem PySem.Spec L2
section
variable {X : Cx} {E : XK} {e1 e2 e3 c : Expr} {pos p : Pos}
end
end L3

set_option Elab.async false
set_option linter.all false
set_option maxRecDepth 100000
set_option maxHeartbeats 4000000
/-! max of a list of numbers, list(range(n)), a number not in a list. -/
namespace Fr
open PySem PySem.Spec L2
open PyProof.Rows hiding St Fr
section
variable {X : Cx}
end
end Fr
namespace L3
open PySem PySem.Spec L2
section
variable {X : Cx} {E : XK} {a : Expr} {p p2 pos pos2 : Pos}
end
end L3

set_option Elab.async false
set_option linter.all false
set_option maxRecDepth 100000
set_option maxHeartbeats 2000000
/-! all(sign in TEXT for sign in text): a generator walked to its end; the code's table may grow by its code. -/
namespace Fr
open PySem PySem.Spec L2
open PyProof.Rows hiding St Fr
section
variable {prog : Program} {w : World} {A : Around} {E : Value → Shared → Prop}
/-- a sign stands in a text -/
def sgIn (f : Str) (c : Nat) : Bool := !(Builtin.Str.occurrences f ⟨#[c]⟩ 0 f.length 1).isEmpty
theorem in_text {u : Shared} {env : Env} {x g : Str} {px pg pos : Pos} {a f : Str} {t tk : Tok} {m mg : Str → Option Value} {Q : Value → Shared → Prop} (hk : env.scope.kind = .function) (hx : env.kindOf x = some .local) (hg : env.kindOf g = some .globalImplicit)
    (hn : u.heap.Ns env.locals m) (hm : m x = some (.str a t)) (hG : u.heap.Ns env.globals mg) (hmg : mg g = some (.str f tk)) (hdx : (x == ("__debug__" : Str)) = false) (hdg : (g == ("__debug__" : Str)) = false)
    (q : Q (.bool (!(Builtin.Str.occurrences f a 0 f.length 1).isEmpty)) u) : wpAny (model prog w) A (eval (.Compare (.Name x px) [.In] [.Name g pg] pos) env) Q E u :=
  wpAny_Compare1 (wpAny_Name (wpAny_loadName_local hk hx hn hm (Calls.Name_function_global hk hg (Calls.loadGlobal_global hG hmg (in_str q)) hdg)) hdx) rfl
/-- the code's table as it may stand -/
def TabOk (c P : Addr) (h : Heap) : Prop := ∃ ps, h.IsCode c P ps ∧ h.TableAt c P ps
theorem code_keep {c P : Addr} {h h' : Heap} {ps : Array Value} (k1 : ∀ o, h.get? c = some o → h'.get? c = some o) (k2 : ∀ o, h.get? P = some o → h'.get? P = some o) (i : h.IsCode c P ps) : h'.IsCode c P ps := by
  obtain ⟨o, vs, file, tf, flags, tg, inF, text, tt, op, a1, a2, a3, a4, a5, a6, a7, a8, a9⟩ := i
  exact ⟨o, vs, file, tf, flags, tg, inF, text, tt, op, k1 _ a1, a2, a3, a4, a5, a6, a7, k2 _ a8, a9⟩
theorem table_keep {c P : Addr} {h h' : Heap} {ps : Array Value} (k1 : ∀ o, h.get? c = some o → h'.get? c = some o) (k2 : ∀ o, h.get? P = some o → h'.get? P = some o) (i : h.TableAt c P ps) : h'.TableAt c P ps := by
  obtain ⟨⟨o, vs, a1, a2⟩, a3⟩ := i
  exact ⟨⟨o, vs, k1 _ a1, a2⟩, k2 _ a3⟩
theorem code_at {c P : Addr} {h : Heap} {ps : Array Value} (i : h.IsCode c P ps) : (∃ o, h.get? c = some o) ∧ ∃ o, h.get? P = some o := by
  obtain ⟨o, vs, file, tf, flags, tg, inF, text, tt, op, a1, a2, a3, a4, a5, a6, a7, a8, a9⟩ := i
  exact ⟨⟨o, a1⟩, ⟨op, a8⟩⟩
theorem gen_all {s : Shared} {env : Env} {iter : Expr} {x g : Str} {px px2 pg cp : Pos} {scope : Scope} {gpos : Pos} {c P : Addr} {Q : Value → Shared → Prop} {base : Heap} {mg : Str → Option Value} {bm : Addr} {ob : Obj} {f : Str} {tk0 : Tok}
    (hc : A.handled = none) (co : scope.isCoroutine = false) (hcl : closureFor scope env = pure []) (nce : ∀ y ∈ scope.names, y.2 ≠ .cell) (h0 : scope.names.lookup (Str.ofString ".0") = some .local) (hx : scope.names.lookup x = some .local) (hgl : ∀ C code bi, (genEnv scope [] C code bi env).kindOf g = some .globalImplicit) (hxl : ∀ C code bi, (genEnv scope [] C code bi env).kindOf x = some .local)
    (hkind : scope.kind = .function) (hdep : A.depth < recursionLimit) (hfold : ∀ z, genFold iter env z = pure z) (hcode : env.code = .ref c) (hdx : (x == ("__debug__" : Str)) = false) (hdg : (g == ("__debug__" : Str)) = false)
    (M : BMod base env.globals mg bm ob) (nl : base.NoLimit) (hf : mg g = some (.str f tk0)) (nP : P ≠ cStatics) (bP : base.get? P = none)
    (hi : wpAny (model prog w) A (eval iter env) (fun xv s₁ => ∃ y t, xv = .str y t ∧ TabOk c P s₁.heap ∧ (∀ b o, base.get? b = some o → s₁.heap.get? b = some o) ∧ AllBare s₁.gens ∧
      ∀ s', AllBare s'.gens → s'.os = s₁.os → (∀ b o, b ≠ P → s₁.heap.get? b = some o → s'.heap.get? b = some o) → TabOk c P s'.heap → Q (.bool (y.cps.toList.all (sgIn f))) s') E s) :
    wpAny (model prog w) A (eval (.GeneratorExp (.Compare (.Name x px) [.In] [.Name g pg] cp) [⟨.Name x px2, iter, [], 0⟩] scope gpos) env) (fun gv s₂ => wpAny (model prog w) A (call (.builtin "all") [gv]) Q E s₂) E s := by
  refine wpAny_GeneratorExp_walksQ hc co hcl nce h0 hx hkind hdep (thn hi fun xv s₁ h => ?_) hfold
  obtain ⟨y, t, rfl, ⟨ps, hC, hT⟩, kb, bare, q⟩ := h
  have nbP : ∀ b o, base.get? b = some o → b ≠ P := fun b o e z => by rw [z, bP] at e; cases e
  have ltP : P < s₁.heap.objs.size := Heap.lt_size hT.2
  refine wpAny_pyIter_str fun o St W st0 => ?_
  have kpush : ∀ b o', s₁.heap.get? b = some o' → (s₁.heap.push o).get? b = some o' := fun b o' e => Heap.get?_push_of_some _ e
  have szp : (s₁.heap.push o).objs.size = s₁.heap.objs.size + 1 := by simp [Heap.push]
  have nl2 : (s₁.heap.push o).NoLimit := nl.keeps fun b o' e => kpush b o' (kb b o' e)
  refine ⟨nl2, ?_⟩
  /- what is left, the code at hand -/
  have rest : ∀ (code : Value) (s₃ : Shared), s₃.gens = s₁.gens → s₃.os = s₁.os → (∀ b o', b ≠ P → (s₁.heap.push o).get? b = some o' → s₃.heap.get? b = some o') → TabOk c P s₃.heap → s₁.heap.objs.size < s₃.heap.objs.size →
      wpAny (model prog w) A (builtinsFor env.globals env.builtins) (fun bi s₄ => ∃ I fp wr n₀ P' St₀ pz F, Value.ref s₁.heap.objs.size = Value.ref I ∧ (∀ A' : Around, A'.handled = none → Walks prog w A' I fp wr n₀ P' St₀) ∧ St₀ 0 s₄.heap ∧ (∀ b ∈ fp, b < s₄.heap.objs.size) ∧ s₄.heap.NoLimit ∧ ¬ cStatics ∈ wr ∧
        (∀ href : Heap, (∀ b o, s₄.heap.get? b = some o → href.get? b = some o) → QuietGen prog w (genEnv scope [] s₄.heap.objs.size code bi env) x [] (.Compare (.Name x px) [.In] [.Name g pg] cp) (List.range s₄.heap.objs.size) wr P' pz F href) ∧
        ∀ (a : Nat) (h₅ : Heap) (tk : Nat) (gs : GenState), gs.bare = true → s₄.heap.objs.size < a → h₅.objs.size = a + 1 → (∀ b o, s₄.heap.get? b = some o → h₅.get? b = some o) →
          WalksS prog w A.in4 a (a :: s₄.heap.objs.size :: List.range s₄.heap.objs.size) (s₄.heap.objs.size :: wr) (GenOnlyQ s₄.gens.size) (passing pz n₀ 0).length (fun j y => ∃ i, (passing pz n₀ 0)[j]? = some i ∧ F i y) (GenAt prog w A.in4 a s₄.gens.size s₄.heap.objs.size (List.range s₄.heap.objs.size) wr pz n₀ F) →
          GenAt prog w A.in4 a s₄.gens.size s₄.heap.objs.size (List.range s₄.heap.objs.size) wr pz n₀ F 0 { heap := h₅, gens := s₄.gens.push gs, drawn := s₄.drawn, toks := tk, os := s₄.os } →
          wpAny (model prog w) A (call (.builtin "all") [Value.ref a]) Q E { heap := h₅, gens := s₄.gens.push gs, drawn := s₄.drawn, toks := tk, os := s₄.os }) E s₃ := by
    intro code s₃ eg eo k3 tab ltI
    have kb3 : ∀ b o', base.get? b = some o' → s₃.heap.get? b = some o' := fun b o' e => k3 b o' (nbP b o' e) (kpush b o' (kb b o' e))
    have neI : s₁.heap.objs.size ≠ P := Nat.ne_of_gt ltP
    refine wpAny_builtinsFor (M.ns.keeps kb3) M.name M.ne (kb3 _ _ M.obj) M.cls M.dict M.data ?_
    have cS : cStatics < s₁.heap.objs.size := by
      obtain ⟨mc, ⟨o', es, ep, e', _⟩, _⟩ := nl
      exact Heap.lt_size (kb _ _ e')
    refine ⟨s₁.heap.objs.size, [s₁.heap.objs.size], [s₁.heap.objs.size], y.cps.size, SignAt y, St, fun _ => true, fun i r => ∃ ch, y.cps[i]? = some ch ∧ r = .bool (sgIn f ch), rfl, W, ?_, ?_, nl.keeps kb3, ?_, ?_, ?_⟩
    · refine (W ⟨none, 0, none, none, 0⟩ rfl).frame 0 _ _ st0 fun b hb o' e => ?_
      have : b = s₁.heap.objs.size := by simpa using hb
      subst this
      exact k3 _ _ neI e
    · intro b hb
      have : b = s₁.heap.objs.size := by simpa using hb
      rw [this]
      exact ltI
    · intro z
      have : cStatics = s₁.heap.objs.size := by simpa using z
      rw [this] at cS
      exact Nat.lt_irrefl _ cS
    · intro href kh
      refine ⟨fun A' E' i v s₂ m₂ _ _ _ _ _ => ?_, fun A' E' i v s₂ m₂ hA hP _ hN hm kk => ?_⟩
      · exact wpAny_pure ⟨rfl, _, _, rfl, fun _ _ e => e⟩
      · obtain ⟨ch, u, e1, rfl⟩ := hP
        have kb2 : ∀ b o', base.get? b = some o' → s₂.heap.get? b = some o' := fun b o' e => by
          have e3 := kb3 b o' e
          refine kk b (List.mem_range.mpr (Heap.lt_size e3)) (fun z => ?_) o' (kh b o' e3)
          have eb : b = s₁.heap.objs.size := by simpa using z
          have lb := Heap.lt_size (kb b o' e)
          rw [eb] at lb
          exact Nat.lt_irrefl _ lb
        exact in_text hkind (hxl _ _ _) (hgl _ _ _) hN hm (M.ns.keeps kb2) hf hdx hdg ⟨⟨ch, e1, rfl⟩, _, _, rfl, fun _ _ e => e⟩
    · intro a h₅ tk gs gb la sz k5 WS G0
      refine call_all_walkS ((WalksS.in4_1 WS).self 0 _ _ _ G0 ⟨a, _, _, _, _, _, _, fun j => ((y.cps[j]?).map (sgIn f)).getD true, rfl, WalksS.in4_1 WS, G0, ?_, fun s' mv => ?_⟩)
      · rintro j v s'' Q' E' ⟨i, hi', ch, e1, rfl⟩ hQ
        have pr : passing (fun _ => true) y.cps.size 0 = List.range y.cps.size := by
          unfold passing
          rw [List.drop_zero]
          exact List.filter_eq_self.mpr fun _ _ => rfl
        rw [pr] at hi'
        have lt : j < y.cps.size := by
          have := (List.getElem?_eq_some_iff.mp hi').1
          rwa [List.length_range] at this
        rw [List.getElem?_range lt] at hi'
        cases hi'
        dsimp only at hQ
        rw [e1] at hQ
        exact wpAny_truthy_bool hQ
      · have kk : ∀ b o', b ≠ P → s₁.heap.get? b = some o' → s'.heap.get? b = some o' := fun b o' nb e => by
          have lb := Heap.lt_size e
          refine mv.heap b o' (fun z => ?_) (k5 b o' (k3 b o' nb (kpush b o' e)))
          rcases List.mem_cons.mp z with z | z
          · rw [z] at lb
            exact Nat.lt_irrefl _ (Nat.lt_trans lb ltI)
          · have eb : b = s₁.heap.objs.size := by simpa using z
            rw [eb] at lb
            exact Nat.lt_irrefl _ lb
        have bg : AllBare s'.gens := by
          have b0 : AllBare (s₃.gens.push gs) := fun y hy => by
            rcases Array.mem_push.mp hy with z | z
            · rw [eg] at z; exact bare y z
            · rw [z]; exact gb
          rcases mv.gens with z | ⟨⟨z1, z2⟩, z3⟩
          · rw [z]; exact b0
          · intro y hy
            obtain ⟨k, hk, e⟩ := Array.getElem_of_mem hy
            by_cases ek : k = s₃.gens.size
            · exact z3 y (by rw [← ek, Array.getElem?_eq_getElem hk, e])
            · have e2 := z2 k ek
              rw [Array.getElem?_eq_getElem hk, e] at e2
              exact b0 y (Array.mem_of_getElem? e2.symm)
        have tab' : TabOk c P s'.heap := by
          obtain ⟨ps', t1, t2⟩ := tab
          obtain ⟨⟨oc, ec⟩, ⟨oP, eP⟩⟩ := code_at hC
          have lc := Heap.lt_size ec
          have kp3 : ∀ b, b < s₁.heap.objs.size → ∀ o', s₃.heap.get? b = some o' → s'.heap.get? b = some o' := fun b lb o' e => by
            refine mv.heap b o' (fun z => ?_) (k5 b o' e)
            rcases List.mem_cons.mp z with z | z
            · rw [z] at lb
              exact Nat.lt_irrefl _ (Nat.lt_trans lb ltI)
            · have eb : b = s₁.heap.objs.size := by simpa using z
              rw [eb] at lb
              exact Nat.lt_irrefl _ lb
          exact ⟨ps', code_keep (kp3 c lc) (kp3 P ltP) t1, table_keep (kp3 c lc) (kp3 P ltP) t2⟩
        have fin := q s' bg (mv.os.trans eo) kk tab'
        have ea : (List.range (passing (fun _ => true) y.cps.size 0).length).all (fun j => ((y.cps[j]?).map (sgIn f)).getD true) = y.cps.toList.all (sgIn f) := by
          have pr : passing (fun _ => true) y.cps.size 0 = List.range y.cps.size := by
            unfold passing
            rw [List.drop_zero]
            exact List.filter_eq_self.mpr fun _ _ => rfl
          rw [pr, List.length_range, Bool.eq_iff_iff, List.all_eq_true, List.all_eq_true]
          constructor
          · intro h ch hch
            obtain ⟨j, hj, e⟩ := List.getElem_of_mem hch
            have hj' : j < y.cps.size := by simpa using hj
            have := h j (List.mem_range.mpr hj')
            have e2 : y.cps[j]? = some ch := by rw [← Array.getElem?_toList, List.getElem?_eq_getElem hj, e]
            rw [e2] at this
            exact this
          · intro h j hj
            have hj' := List.mem_range.mp hj
            rw [Array.getElem?_eq_getElem hj']
            exact h _ (by simp)
        rw [ea]
        exact fin
  cases hca : codeAmong gpos ps.toList with
  | some c' =>
    refine wpAny_genexprCode_hit hcode (hC.keeps kpush) hca (rest c' _ rfl rfl (fun b o' _ e => e) ⟨ps, hC.keeps kpush, ?_⟩ (by show _ < (s₁.heap.push o).objs.size; omega))
    exact table_keep (fun o' e => kpush _ _ e) (fun o' e => kpush _ _ e) hT
  | none =>
    refine wpAny_genexprCodeX hcode (hC.keeps kpush) ?_ hca fun c' h' tk ext lc lc' ic _ ta _ => rest (.ref c') _ rfl rfl ext ⟨_, ic, ta⟩ ?_
    · exact table_keep (fun o' e => kpush _ _ e) (fun o' e => kpush _ _ e) hT
    · show _ < h'.objs.size
      have : (s₁.heap.push o).objs.size ≤ c' := lc
      omega
end
end Fr
namespace Fr
open PySem PySem.Spec L2
open PyProof.Rows hiding St Fr
def CodeP (base : Heap) (c P : Addr) : Prop := ∃ o vs file tf flags tg inF text tt, base.get? c = some o ∧ o.cls = .type "code" ∧ o.data = .fields vs ∧ vs[11]? = some (.ref P) ∧ vs.getD 18 .none = .str file tf ∧ vs.getD 7 .none = .int flags tg ∧ vs.getD 9 .none = .bool inF ∧ vs.getD 10 .none = .int text tt ∧ c ≠ P
theorem tab_of {base h : Heap} {c P : Addr} (C : CodeP base c P) (k : ∀ b o, base.get? b = some o → h.get? b = some o) (t : TabAt P h) : TabOk c P h := by
  obtain ⟨o, vs, file, tf, flags, tg, inF, text, tt, a1, a2, a3, a4, a5, a6, a7, a8, a9⟩ := C
  obtain ⟨ps, b1, b2⟩ := t
  have a4' : vs.getD 11 .none = .ref P := by rw [Array.getD_eq_getD_getElem?, a4]; rfl
  exact ⟨ps, ⟨o, vs, file, tf, flags, tg, inF, text, tt, _, k _ _ a1, a3, a4', a5, a6, a7, a8, b1, rfl, b2, a9⟩, ⟨⟨o, vs, k _ _ a1, a2, a3, a4⟩, b1⟩⟩
theorem tab_to {h : Heap} {c P : Addr} (t : TabOk c P h) : TabAt P h := by
  obtain ⟨ps, ⟨o, vs, file, tf, flags, tg, inF, text, tt, op, _, _, _, _, _, _, _, e1, e2, e3, _⟩, _, e4⟩ := t
  exact ⟨ps, e4, e3⟩
section
variable {X : Cx}
def tAllS (P : Addr) (f : Str) (ti : TE) : TE := fun σ H Q => ti σ H fun v H1 => ∃ y, v = .str y ∧ H1 P = some (TabP P) ∧ Q (.bl (y.cps.toList.all (sgIn f))) H1
theorem pe_allS {iter : Expr} {ti : TE} {x g f : Str} {px px2 pg cp p pos gpos : Pos} {scope : Scope} {c P bm : Addr} {ob : Obj} {tk0 : Tok} (hc : X.calm = true) (hga : Gl X "all") (hma : X.mg "all" = none) (hi : PE X iter ti) (C : CodeP X.base c P) (M : BMod X.base mainGlobals X.mg bm ob) (bP : X.base.get? P = none) (nP : P ≠ cStatics) (hf : X.mg g = some (.str f tk0)) (hcode : X.env.code = .ref c) (hdep : X.A.depth < recursionLimit)
    (co : scope.isCoroutine = false) (hcl : closureFor scope X.env = pure []) (nce : ∀ y ∈ scope.names, y.2 ≠ .cell) (h0 : scope.names.lookup (Str.ofString ".0") = some .local) (hx : scope.names.lookup x = some .local) (hgl : ∀ C code bi, (genEnv scope [] C code bi X.env).kindOf g = some .globalImplicit) (hxl : ∀ C code bi, (genEnv scope [] C code bi X.env).kindOf x = some .local)
    (hkind : scope.kind = .function) (hfold : ∀ z, genFold iter X.env z = pure z) (hdx : (x == ("__debug__" : Str)) = false) (hdg : (g == ("__debug__" : Str)) = false)
    (he : starEach [.GeneratorExp (.Compare (.Name x px) [.In] [.Name g pg] cp) [⟨.Name x px2, iter, [], 0⟩] scope gpos] X.env = (false, eval (.GeneratorExp (.Compare (.Name x px) [.In] [.Name g pg] cp) [⟨.Name x px2, iter, [], 0⟩] scope gpos) X.env) :: starEach [] X.env) :
    PE X (.Call (.Name "all" p) [.GeneratorExp (.Compare (.Name x px) [.In] [.Name g pg] cp) [⟨.Name x px2, iter, [], 0⟩] scope gpos] [] pos) (tAllS P f ti) := by
  intro pins s σ H Q I h
  refine wpAny_Call_Name_kw (ld_blt I hga hma boot_all ?_)
  refine PyProof.Rows.callWith_builtin1 ?_ he rfl
  rw [he]
  show wpAny _ _ (spliced ((false, eval (.GeneratorExp (.Compare (.Name x px) [.In] [.Name g pg] cp) [⟨.Name x px2, iter, [], 0⟩] scope gpos) X.env) :: backTo pos (starEach [] X.env))) _ _ s
  refine Calls.spliced_cons (thn (gen_all (base := X.base) (I.ok.hd hc) co hcl nce h0 hx hgl hxl hkind hdep hfold hcode hdx hdg (by rw [I.ok.glob]; exact M) I.ok.mod.nolimit hf nP bP (Q := EP X pins σ Q) (E := X.xe) (thn (hi pins s σ H _ I h) fun v s1 ⟨xv, H1, I1, r1, q1⟩ => ?_)) fun gv s2 hh => Calls.spliced_nil hh)
  obtain ⟨y, rfl, hP, q⟩ := q1
  obtain ⟨t, rfl⟩ := r1
  have tb : TabAt P s1.heap := (I1.hok P _ hP).1
  refine ⟨y, t, rfl, tab_of C I1.bk tb, I1.bk, I1.bare, fun s' bg eo kk tab => ?_⟩
  have nP0 : ∀ b, H1 b = none → b ≠ P := fun b n z => by rw [z, hP] at n; cases n
  have eP := tab_to tab
  have hok : HOk X.prog X.w H1 s'.heap := fun a u e => by
    by_cases z : a = P
    · subst z
      rw [hP] at e
      cases e
      refine ⟨eP, ?_, fun h1 h2 p1 k => ?_⟩
      · obtain ⟨ps, e1, _⟩ := eP
        exact ⟨_, e1⟩
      · obtain ⟨ps, e1, e2⟩ := p1
        exact ⟨ps, k _ e1, e2⟩
    · refine (I1.hok a u e).stay (fun b u' hb q' => ?_) (fun _ q' => q') fun _ _ q' => q'
      have nb : b ≠ P := by
        rcases hb with rfl | hb
        · exact z
        · intro zz
          rw [zz, hP] at hb
          cases hb
      exact kk b u' nb q'
  have J := I1.step (h' := s'.heap) (g' := s'.gens) (t' := s'.toks) (d' := s'.drawn) (ch := []) (H' := H1) (fun _ z => nomatch z) (fun b o _ _ _ e n => kk b o (nP0 b n) e) (fun b o _ _ _ e n => ⟨o.slots, kk b o (nP0 b n) e⟩) (fun b o _ _ n => n) (fun b o _ e => by
    by_cases z : b = P
    · subst z
      obtain ⟨ps, e1, _⟩ := eP
      exact ⟨_, e1⟩
    · exact ⟨o, kk b o z e⟩) (fun _ _ e => e) (fun _ _ _ e => e) (fun b ps e => ⟨#[], by rw [e]; simp⟩) (fun m hm => by
    obtain ⟨o', es, ep, e', r'⟩ := hm
    exact ⟨o', es, ep, kk _ _ (nP0 _ I1.free) e', r'⟩) hok bg
  refine ⟨.bl _, H1, ?_, rfl, q⟩
  obtain ⟨hh, gg, dd, tt, oo⟩ := s'
  have eo' : oo = s1.os := eo
  subst eo'
  exact J
end
end Fr

set_option Elab.async false
set_option linter.all false
set_option maxRecDepth 100000
set_option maxHeartbeats 2000000
/-! The law's call where a code's table may grow: the table is told of from the start. -/
namespace Fr
open PySem PySem.Spec L2 L3
open PyProof.Rows hiding St Fr
theorem law_callP {P : Program} {w : World} {K : PySem.W.Frag} {mg mb : Str → Option Value} {CX : CXT} {k : Nat} {fa a c T bm : Addr} {ob : Obj} {fd : FuncData} {x : Str} {sp : Sp} {s₁ : Shared} {vs : List Value} {ns : List Int}
    (KX : K.In s₁.heap) (hns : s₁.heap.Ns mainGlobals mg) (hb : s₁.heap.Ns builtinsNs mb) (hbb : ∀ x : Str, x ≠ "__name__" → mb x = bootBuiltins x) (hlim : s₁.heap.NoLimit) (hg : s₁.gens = #[])
    (ha : s₁.heap.get? a = some { cls := .type "list", data := .seq vs.toArray }) (hi : IntsAre vs ns) (hl : ns.length ≤ sizeLine) (hr : Room k callerA)
    (B : Based s₁.heap s₁.heap c T #[]) (kT : K.lookup T = none) (M : BMod s₁.heap mainGlobals mg bm ob)
    (F : ∀ base : Heap, K.In base → base.Ns mainGlobals mg → BMod base mainGlobals mg bm ob → base.get? T = none → FnOk P w K mg base CX k fa fd [x] sp) (hbind : ∀ (s : Shared) (u : Value), BindsTo s fd ⟨[u], []⟩ [(x, u)])
    (hsp : ∀ H : Hp, H T = some (TabP T) → SqL K H a (ns.map V.int) → sp [.ref a] H (fun v H' => v = .bl true ∧ H' T = some (TabP T)) fun _ _ _ => False)
    (hCX : ∀ H e s', CX [] H s₁ (fun _ _ _ => False) e s' → False) :
    codeAny (model P w) callerA (.call (.ref fa) ⟨[.ref a], []⟩) (fun r s' => r = .ok (.ret (.bool true)) ∧ OldK s₁.heap s'.heap ∧ s'.os = s₁.os ∧ AllBare s'.gens) s₁ := by
  have rv := L2.vals_ints hi
  have lenV := hi.length
  have eT : s₁.heap.get? T = some { cls := .none, data := .fields #[] } := B.tab.2
  have naT : a ≠ T := fun z => by rw [z, eT] at ha; cases ha
  have tab0 : TabAt T s₁.heap := ⟨#[], eT, by show TriplesOk []; unfold TriplesOk; trivial⟩
  have core : ∀ H : Hp, H T = some (TabP T) → SqL K H a (ns.map V.int) → HOk P w H s₁.heap → (∀ b, H b ≠ none → b = a ∨ b = T) → (H a ≠ none → K.lookup a = none) → (∀ u, H a = some u → ∃ o xs, u = .frz o (.lst xs)) →
      codeAny (model P w) callerA (.call (.ref fa) ⟨[.ref a], []⟩) (fun r s' => r = .ok (.ret (.bool true)) ∧ OldK s₁.heap s'.heap ∧ s'.os = s₁.os ∧ AllBare s'.gens) s₁ := by
    intro H hT hS hok hA hK hF
    have base_of : ∀ {b : Addr} {o : Obj}, s₁.heap.get? b = some o → H b = none → (hidT s₁.heap H).get? b = some o := fun e n => hidT_get e n
    have noA : ∀ {b : Addr} {o : Obj}, s₁.heap.get? b = some o → o ≠ { cls := .type "list", data := .seq vs.toArray } → o ≠ { cls := .none, data := .fields #[] } → H b = none := fun {b o} e d1 d2 => by
      cases q : H b with
      | none => rfl
      | some u =>
        rcases hA b (by rw [q]; simp) with e' | e'
        · subst e'
          rw [ha] at e
          exact absurd (Option.some.inj e).symm d1
        · subst e'
          rw [eT] at e
          exact absurd (Option.some.inj e).symm d2
    have nsK : ∀ {b : Addr} {m : Str → Option Value}, s₁.heap.Ns b m → (hidT s₁.heap H).Ns b m := fun {b m} ⟨o, es, ep, e, d, r⟩ => ⟨o, es, ep, base_of e (noA e (fun z => by rw [z] at d; cases d) fun z => by rw [z] at d; cases d), d, r⟩
    have hKb : K.In (hidT s₁.heap H) := fun b o e => base_of (KX b o e) (by
      cases q : H b with
      | none => rfl
      | some u =>
        rcases hA b (by rw [q]; simp) with e' | e'
        · subst e'
          rw [hK (by rw [q]; simp)] at e; cases e
        · subst e'
          rw [kT] at e; cases e)
    have hM : Mod K mg (hidT s₁.heap H) := ⟨hKb, nsK hns, ⟨mb, nsK hb, hbb⟩, let ⟨mc, h1, h2⟩ := hlim; ⟨mc, nsK h1, h2⟩⟩
    have e0 : Env0 P w K mg (hidT s₁.heap H) callerA [] s₁ H := ⟨rfl, hM, fun b o e => of_hidT e, Nat.le_of_eq (hidT_size _ _), trivial, fun b hb => absurd (show b ∈ ([] : List Addr) from hb) (by simp), hok, .of_eq hg⟩
    have hBM : BMod (hidT s₁.heap H) mainGlobals mg bm ob := ⟨nsK hns, M.name, M.ne, base_of M.obj (noA M.obj (fun z => by have := M.data; rw [z] at this; cases this) fun z => by have := M.data; rw [z] at this; cases this), M.cls, M.dict, M.data⟩
    have hTn : (hidT s₁.heap H).get? T = none := by
      cases q : (hidT s₁.heap H).get? T with
      | none => rfl
      | some o => exact absurd (of_hidT q).2 (by rw [hT]; simp)
    refine codeAny_mono ((F _ hKb (nsK hns) hBM hTn).run callerA [] s₁ H ⟨[.ref a], []⟩ [.ref a] [.ref a] _ _ hr e0 (hbind s₁ (.ref a)) (.cons rfl .nil) (hsp H hT hS)) fun r s' h => ?_
    cases r with
    | error e => exact (hCX H e s' h).elim
    | ok fl =>
      cases fl with
      | next => exact False.elim h
      | brk => exact False.elim h
      | cont => exact False.elim h
      | ret u =>
        obtain ⟨v, H', os, bare, un, hok', r', q⟩ := h
        obtain ⟨q', qT⟩ := q
        subst q'
        obtain rfl : u = Value.bool true := r'
        obtain ⟨⟨ps, eT', _⟩, _⟩ := hok' T _ qT
        refine ⟨rfl, ⟨fun b o e => ?_, fun b o e => ?_⟩, os, bare⟩
        · by_cases bT : b = T
          · subst bT
            rw [eT] at e
            cases e
            exact .inr (.inl ⟨B.tab.isCodeTable, rfl, #[], ps, rfl, by rw [eT']; simp⟩)
          · left
            cases q : H b with
            | none => exact un.keep b o e q (by intro z; exact absurd (show b ∈ ([] : List Addr) from z) (by simp)) (by simp)
            | some u =>
              rcases hA b (by rw [q]; simp) with e' | e'
              · subst e'
                obtain ⟨ob, xs, rfl⟩ := hF u q
                have z2 := un.frzs b ob _ q
                obtain ⟨e1, _⟩ := hok b _ q
                obtain ⟨e2, _⟩ := hok' b _ z2
                rw [e] at e1; cases e1
                exact e2
              · exact absurd e' bT
        · by_cases bT : b = T
          · subst bT
            exact ⟨_, eT'⟩
          · cases q : H b with
            | none => exact ⟨o, un.keep b o e q (by intro z; exact absurd (show b ∈ ([] : List Addr) from z) (by simp)) (by simp)⟩
            | some u =>
              rcases hA b (by rw [q]; simp) with e' | e'
              · subst e'
                obtain ⟨ob, xs, rfl⟩ := hF u q
                exact ⟨_, (hok' b _ (un.frzs b ob _ q)).1⟩
              · exact absurd e' bT
  have okT : HOk P w (fun b => if b = T then some (TabP T) else none) s₁.heap := fun b u z => by
    by_cases hb : b = T
    · have z' := (if_pos hb).symm.trans z
      cases z'
      subst hb
      exact ⟨tab0, ⟨_, eT⟩, fun h1 h2 ⟨ps, p1, p2⟩ k => ⟨ps, k _ p1, p2⟩⟩
    · have z' := (if_neg hb).symm.trans z
      cases z'
  cases hk : K.lookup a with
  | some o =>
    have e := KX a o hk
    rw [ha] at e
    cases e
    refine core (fun b => if b = T then some (TabP T) else none) (if_pos rfl) (.inr ⟨_, vs.toArray, _, hk, rfl, rfl, rfl, by rw [List.size_toArray, lenV]; exact hl, by simpa using rv⟩) okT (fun b z => ?_) (fun z => absurd (if_neg naT) z) fun u z => ?_
    · by_cases hb : b = T
      · exact .inr hb
      · exact absurd (if_neg hb) z
    · have z' := (if_neg naT).symm.trans z
      cases z'
  | none =>
    refine core (fun b => if b = a then some (.frz { cls := .type "list", data := .seq vs.toArray } (.lst (ns.map V.int))) else if b = T then some (TabP T) else none) ((if_neg (Ne.symm naT)).trans (if_pos rfl)) (.inl (.inr ⟨{ cls := .type "list", data := .seq vs.toArray }, if_pos rfl⟩)) (fun b u z => ?_) (fun b z => ?_) (fun _ => hk) fun u z => ?_
    · by_cases hb : b = a
      · have z' := (if_pos hb).symm.trans z
        cases z'
        subst hb
        exact ⟨ha, by rw [List.length_map]; exact hl, vs, _, rv, ha⟩
      · have z' := (if_neg hb).symm.trans z
        by_cases hb' : b = T
        · have z2 := (if_pos hb').symm.trans z'
          cases z2
          subst hb'
          exact ⟨tab0, ⟨_, eT⟩, fun h1 h2 ⟨ps, p1, p2⟩ k => ⟨ps, k _ p1, p2⟩⟩
        · have z2 := (if_neg hb').symm.trans z'
          cases z2
    · by_cases hb : b = a
      · exact .inl hb
      · by_cases hb' : b = T
        · exact .inr hb'
        · exact absurd ((if_neg hb).trans (if_neg hb')) z
    · have z' := (if_pos rfl).symm.trans z
      cases z'
      exact ⟨_, _, rfl⟩
theorem tabIn_one {K : PySem.W.Frag} {f' c T : Addr} {o oc : Obj} {fd' : FuncData} {cs : Array Value} (k1 : PySem.W.nsIn K mainGlobals "is_number_text" = some (some (.ref f'))) (k2 : K.lookup f' = some o) (k3 : o.data = .func fd') (k4 : fd'.code = .ref c) (k5 : K.lookup c = some oc) (k6 : oc.data = .fields cs) (k7 : cs[11]? = some (.ref T)) : TabIn K T ∧ ∀ T', TabIn K T' → T' = T := by
  refine ⟨⟨f', c, o, oc, fd', cs, k1, k2, k3, k4, k5, k6, k7⟩, fun T' ⟨g, c2, o2, oc2, fd2, cs2, h1, h2, h3, h4, h5, h6, h7⟩ => ?_⟩
  rw [k1] at h1; cases h1
  rw [k2] at h2; cases h2
  rw [k3] at h3; cases h3
  rw [k4] at h4; cases h4
  rw [k5] at h5; cases h5
  rw [k6] at h6; cases h6
  rw [k7] at h7; cases h7
  rfl
/-- the goal that the head leaves, from the law's promise -/
theorem walk_ofP {l : PySem.W.OpenLaw} {k : Nat} {q : Program} {loose : List Str} {XP : (Str → Option Value) → Heap → Prop} {YP : World → Heap → Prop} {d : DefRec} {K : Params → PySem.W.Frag} {x : Str}
    (hn : l.most = some 63) (hdf : d.params.defaults = []) (hr : Room k callerA)
    (hY : ∀ (w : World) (h : Heap), YP w h → (K w.params).In h) (hq : ((recsOf q).find? fun e => e.name == ("is_number_text" : Str)).isSome = true)
    (F : ∀ (w : World) (mg : Str → Option Value) (fa : Addr) (h : Heap), (K w.params).In h → h.Ns mainGlobals mg → mg d.name = some (.ref fa) →
      ∃ (fd fd' : FuncData) (f' c T : Addr) (o oc : Obj) (cs : Array Value), (∀ (s : Shared) (u : Value), BindsTo s fd ⟨[u], []⟩ [(x, u)]) ∧
        (PySem.W.nsIn (K w.params) mainGlobals "is_number_text" = some (some (.ref f')) ∧ (K w.params).lookup f' = some o ∧ o.data = .func fd' ∧ fd'.code = .ref c ∧ (K w.params).lookup c = some oc ∧ oc.data = .fields cs ∧ cs[11]? = some (.ref T) ∧ (K w.params).lookup T = none) ∧
        ∀ (base : Heap) (bm : Addr) (ob : Obj), (K w.params).In base → base.Ns mainGlobals mg → BMod base mainGlobals mg bm ob → base.get? T = none → T ≠ cStatics → FnOk l.prog w (K w.params) mg base CX0 k fa fd [x] (spLaw (K w.params))) :
    PySem.W.WalkO q loose XP YP l.row.toRowW d [] (fun f vs => PySem.call f vs) := by
  refine Att.attach_call hn hdf fun w s₀ s₁ mg mb fa o pm cd doc a vs ns G Y ho hd hcd hmg hobj hints hlen hg => ?_
  have KX := hY w _ Y
  obtain ⟨fd, fd', f', c, T, o', oc, cs, hb, ⟨k1, k2, k3, k4, k5, k6, k7, k8⟩, hF⟩ := F w mg fa _ KX G.T.g hmg
  obtain ⟨d', hd'⟩ := Option.isSome_iff_exists.mp hq
  obtain ⟨c2, T2, e1, B⟩ := PySem.W.based_of_top G.T hd' (PySem.W.mg_of KX G.T.g k1) (KX _ _ k2) k3
  rw [k4] at e1
  cases e1
  have e2 : T2 = T := by
    obtain ⟨⟨o2, vs2, a1, _, a3, a4⟩, _⟩ := B.tab
    have := KX _ _ k5
    rw [a1] at this
    cases this
    rw [k6] at a3
    cases a3
    rw [k7] at a4
    cases a4
    rfl
  subst e2
  obtain ⟨t1, t2⟩ := tabIn_one k1 k2 k3 k4 k5 k6 k7
  obtain ⟨bm, ob, M⟩ := PySem.W.bmod_of_top G.T
  refine law_callP (sp := spLaw (K w.params)) KX G.T.g G.T.b G.T.builtins G.T.nolimit hg hobj hints (Nat.le_trans hlen (by decide)) hr B k8 M (fun base b1 b2 b3 b4 => hF base bm ob b1 b2 b3 b4 B.notStatics) hb (fun H hT hS => ?_) fun H e s' z => z
  exact ⟨a, ns, rfl, hS, hlen, fun T' h => by rw [t2 T' h]; exact hT, fun H' h' => ⟨rfl, h' _ t1⟩⟩
theorem codeP_mk {h : Heap} {c P : Addr} {od : Option Addr} {vs : Array Value} {sl : Array (Option Value)} (a1 : h.get? c = some ⟨.type "code", od, .fields vs, sl⟩) (a4 : vs[11]? = some (.ref P))
    (r : ∃ file tf flags tg inF text tt, vs.getD 18 .none = .str file tf ∧ vs.getD 7 .none = .int flags tg ∧ vs.getD 9 .none = .bool inF ∧ vs.getD 10 .none = .int text tt ∧ c ≠ P) : CodeP h c P := by
  obtain ⟨file, tf, flags, tg, inF, text, tt, a5, a6, a7, a8, a9⟩ := r
  exact ⟨_, vs, file, tf, flags, tg, inF, text, tt, a1, rfl, rfl, a4, a5, a6, a7, a8, a9⟩
end Fr

set_option Elab.async false
set_option linter.all false
set_option maxRecDepth 100000
set_option maxHeartbeats 2000000
/-! Whole numbers as texts: their signs, split at a sign, read again. -/
namespace Fr
open PySem
def shw (i : Int) : Str := Str.ofString (toString i)
def dg (n : Nat) : List Nat := (Nat.toDigits 10 n).map Char.toNat
theorem str_ext {x y : Str} (h : x.cps.toList = y.cps.toList) : x = y := by
  cases x; cases y
  congr 1
  exact Array.ext' h
theorem shw_nat (n : Nat) : (shw (n : Int)).cps.toList = dg n := by
  show (Str.ofString (Nat.repr n)).cps.toList = _
  rw [Str.ofString_eq_toList, Nat.repr_eq_ofList_toDigits]
  show (List.map Char.toNat (String.ofList (Nat.toDigits 10 n)).toList) = dg n
  rw [String.toList_ofList]
  rfl
theorem shw_neg (n : Nat) : (shw (Int.negSucc n)).cps.toList = 45 :: dg (n + 1) := by
  show (Str.ofString ("-" ++ Nat.repr (n + 1))).cps.toList = _
  rw [Str.ofString_eq_toList, Nat.repr_eq_ofList_toDigits]
  show (List.map Char.toNat ("-" ++ String.ofList (Nat.toDigits 10 (n + 1))).toList) = _
  rw [String.toList_append, List.map_append, String.toList_ofList, String.toList_ofList]
  rfl
theorem dg_all (n : Nat) : NumText.AllDigits (dg n) := fun c hc => by
  obtain ⟨ch, h1, rfl⟩ := List.mem_map.mp hc
  have := Nat.isDigit_of_mem_toDigits (by decide) (by decide) h1
  unfold Char.isDigit at this
  simp only [Bool.and_eq_true, decide_eq_true_eq] at this
  obtain ⟨a, b⟩ := this
  have a' : 48 ≤ ch.val.toNat := a
  have b' : ch.val.toNat ≤ 57 := b
  exact ⟨a', b'⟩
theorem dg_ne (n : Nat) : dg n ≠ [] := fun z => Nat.toDigits_ne_nil (List.map_eq_nil_iff.mp z)
theorem dg_small {n : Nat} (h : n < 10) : dg n = [48 + n] := by
  unfold dg
  rw [Nat.toDigits_of_lt_base h]
  have : ∀ m, m < 10 → [(Nat.digitChar m)].map Char.toNat = [48 + m] := by decide
  exact this n h
theorem dg_step {n : Nat} (h : 10 ≤ n) : dg n = dg (n / 10) ++ [48 + n % 10] := by
  unfold dg
  rw [Nat.toDigits_of_base_le (by decide) h, List.map_append]
  have : ∀ m, m < 10 → [(Nat.digitChar m)].map Char.toNat = [48 + m] := by decide
  rw [this _ (Nat.mod_lt _ (by decide))]
theorem dg_val (n : Nat) : NumText.digitsVal (dg n) = n := by
  induction n using Nat.strongRecOn with
  | ind n ih =>
    by_cases h : n < 10
    · rw [dg_small h]
      have : ∀ m, m < 10 → NumText.digitsVal [48 + m] = m := by decide
      exact this n h
    · rw [dg_step (by omega), NumText.digitsVal_snoc, ih (n / 10) (by omega)]
      omega
theorem dg_head {n : Nat} (h : n ≠ 0) : ∃ c r, dg n = c :: r ∧ c ≠ 48 := by
  induction n using Nat.strongRecOn with
  | ind n ih =>
    by_cases h1 : n < 10
    · exact ⟨48 + n, [], dg_small h1, by omega⟩
    · obtain ⟨c, r, e, hc⟩ := ih (n / 10) (by omega) (by omega)
      exact ⟨c, r ++ [48 + n % 10], by rw [dg_step (by omega), e]; rfl, hc⟩
theorem dg_len {n k : Nat} (h : n < 10 ^ k) (k0 : 0 < k) : (dg n).length ≤ k := by
  unfold dg
  rw [List.length_map]
  exact (Nat.length_toDigits_le_iff (by decide) k0).mpr h
theorem dg_zero : dg 0 = [48] := dg_small (by decide)
/-- the figures of a number -/
def figs (i : Int) : Str := ⟨(dg i.natAbs).toArray⟩
theorem shw_cps (i : Int) : (shw i).cps.toList = (if i < 0 then [45] else []) ++ dg i.natAbs := by
  cases i with
  | ofNat n =>
    have := shw_nat n
    rw [if_neg (by simp)]
    exact this
  | negSucc n =>
    rw [shw_neg, if_pos (Int.negSucc_lt_zero n)]
    rfl
theorem shw_len {i : Int} {k : Nat} (h : i.natAbs < 10 ^ k) (k0 : 0 < k) : (shw i).length ≤ k + 1 := by
  show (shw i).cps.size ≤ _
  rw [← Array.length_toList, shw_cps, List.length_append]
  have := dg_len h k0
  split <;> simp only [List.length_cons, List.length_nil] <;> omega
theorem shw_free (i : Int) {c : Nat} (h1 : c ≠ 45) (h2 : c < 48 ∨ 57 < c) : c ∉ (shw i).cps.toList := by
  rw [shw_cps]
  intro h
  rcases List.mem_append.mp h with z | z
  · split at z
    · have := List.mem_singleton.mp z
      omega
    · cases z
  · have := dg_all _ c z
    omega
/-- a number's text is read to the number -/
theorem shw_reads {i : Int} {k : Nat} (h : i.natAbs < 10 ^ k) (k0 : 0 < k) (k1 : k ≤ 600) : intText? (shw i) = some i := by
  have hl := shw_len h k0
  cases i with
  | ofNat n =>
    have e := shw_nat n
    have := intText_digits (x := shw (n : Int)) (by rw [e]; exact dg_all n) (by rw [e]; exact dg_ne n) (Nat.le_trans hl (by omega))
    rw [e, dg_val] at this
    exact this
  | negSucc n =>
    have := intText_neg (shw_neg n) (dg_all _) (dg_ne _) (Nat.le_trans hl (by omega))
    rw [dg_val] at this
    rw [this]
    rfl
theorem sep_inj {c : Nat} : ∀ {p q x y : List Nat}, p ++ c :: q = x ++ c :: y → c ∉ p → c ∉ x → p = x ∧ q = y
  | [], q, [], y, h, _, _ => by
    injection h with _ h
    exact ⟨rfl, h⟩
  | [], q, b :: x, y, h, _, h2 => by
    injection h with h _
    exact absurd (List.mem_cons.mpr (.inl h)) h2
  | a :: p, q, [], y, h, h1, _ => by
    injection h with h _
    exact absurd (List.mem_cons.mpr (.inl h.symm)) h1
  | a :: p, q, b :: x, y, h, h1, h2 => by
    injection h with e h
    obtain ⟨e1, e2⟩ := sep_inj h (fun z => h1 (List.mem_cons_of_mem _ z)) fun z => h2 (List.mem_cons_of_mem _ z)
    exact ⟨by rw [e, e1], e2⟩
theorem split_two {c : Nat} {x y : Str} (hx : c ∉ x.cps.toList) (hy : c ∉ y.cps.toList) : Txt.split (x ++ (⟨#[c]⟩ : Str) ++ y) ⟨#[c]⟩ = [x, y] := by
  have ec : (x ++ (⟨#[c]⟩ : Str) ++ y).cps.toList = x.cps.toList ++ c :: y.cps.toList := by
    show (x.cps ++ #[c] ++ y.cps).toList = _
    simp
  have hl := PyProof.Rows.split_len (x ++ (⟨#[c]⟩ : Str) ++ y) c
  rw [ec, PyProof.Rows.cnt_append, PyProof.Rows.cnt_cons, PyProof.Rows.cnt_none _ _ hx, PyProof.Rows.cnt_none _ _ hy, if_pos rfl] at hl
  have hj := StrLaws.join_split (x ++ (⟨#[c]⟩ : Str) ++ y) ⟨#[c]⟩
  have hf := StrLaws.split_free (x ++ (⟨#[c]⟩ : Str) ++ y) c
  generalize Txt.split (x ++ (⟨#[c]⟩ : Str) ++ y) ⟨#[c]⟩ = l at hl hj hf
  match l, hl, hj, hf with
  | [], hl, _, _ => simp at hl
  | [p], hl, _, _ => simp at hl
  | [p, q], _, hj, hf =>
    have e : p.cps.toList ++ c :: q.cps.toList = x.cps.toList ++ c :: y.cps.toList := by
      rw [← ec, ← hj]
      show _ = (Str.join ⟨#[c]⟩ [p, q]).cps.toList
      have ej : (Str.join ⟨#[c]⟩ [p, q]).cps = p.cps ++ #[c] ++ q.cps := by
        show (p ++ (⟨#[c]⟩ : Str) ++ q).cps = _
        rfl
      rw [ej]
      simp
    obtain ⟨e1, e2⟩ := sep_inj e (hf p (by simp)) hx
    rw [str_ext e1, str_ext e2]
  | _ :: _ :: _ :: _, hl, _, _ => simp at hl; omega
theorem fig_prefix (i : Int) : Txt.removeprefix (shw i) ⟨#[45]⟩ = figs i := by
  rw [StrLaws.removeprefix_eq]
  have hc := shw_cps i
  have sub : Builtin.Str.subAt (shw i) ⟨#[45]⟩ 0 = decide (i < 0) := by
    show ((shw i).cps.extract 0 (0 + 1) == #[45]) = _
    have e : ((shw i).cps.extract 0 (0 + 1)).toList = (shw i).cps.toList.take 1 := by simp
    rw [Bool.eq_iff_iff, beq_iff_eq, decide_eq_true_iff]
    constructor
    · intro h
      rw [h, hc] at e
      by_cases c : i < 0
      · exact c
      · rw [if_neg c, List.nil_append] at e
        cases ed : dg i.natAbs with
        | nil => exact absurd ed (dg_ne _)
        | cons a r =>
          rw [ed] at e
          have : a = 45 := by simpa using e.symm
          have h2 := dg_all i.natAbs a (by rw [ed]; exact List.mem_cons_self)
          omega
    · intro c
      apply Array.ext'
      rw [e, hc, if_pos c]
      rfl
  rw [sub]
  by_cases c : i < 0
  · have hl : 1 ≤ (shw i).length := by
      show 1 ≤ (shw i).cps.size
      rw [← Array.length_toList, hc, if_pos c]
      simp
    rw [if_pos (by rw [Bool.and_eq_true, decide_eq_true_iff, decide_eq_true_iff]; exact ⟨hl, c⟩)]
    apply str_ext
    show (((shw i).cps.toList.drop 1).take ((shw i).length - 1)).toArray.toList = (dg i.natAbs).toArray.toList
    have hs : (shw i).length = (dg i.natAbs).length + 1 := by
      show (shw i).cps.size = _
      rw [← Array.length_toList, hc, if_pos c]
      simp
    rw [hs, hc, if_pos c]
    simp
  · rw [if_neg (by rw [Bool.and_eq_true, decide_eq_true_iff, decide_eq_true_iff]; exact fun z => c z.2)]
    apply str_ext
    rw [hc, if_neg c]
    simp [figs]
theorem digit_in : ∀ c, c < 58 → 48 ≤ c → sgIn (Str.ofString "0123456789") c = true := by decide +kernel
theorem figs_in (i : Int) : (figs i).cps.toList.all (sgIn (Str.ofString "0123456789")) = true := by
  rw [List.all_eq_true]
  intro c hc
  have : c ∈ dg i.natAbs := by simpa [figs] using hc
  have h := dg_all _ c this
  exact digit_in c (by omega) h.1
end Fr

set_option Elab.async false
set_option linter.all false
set_option maxRecDepth 100000
set_option maxHeartbeats 2000000
/-! Texts: split, removeprefix, join, int of a text, str of a number, f-strings, the generator in all. -/
namespace L3
open PySem PySem.Spec L2
open PyProof.Rows hiding St Fr
theorem sz_big {n : Nat} (h : n ≤ 100000) : n ≤ sizeLine := by rw [sizeLine_eq]; omega
theorem t40 {i : Int} (h : i.natAbs < 10 ^ 40) : i.natAbs.log2 < 1920 := by
  by_cases z : i.natAbs = 0
  · rw [z]; decide
  · rw [Nat.log2_lt z]
    exact Nat.lt_trans h (by decide +kernel)
theorem len40 {i : Int} (h : i.natAbs < 10 ^ 40) : (Fr.shw i).length ≤ 41 := Fr.shw_len h (by decide)
theorem split_few (z y : Str) : (Txt.split z y).length ≤ z.length + 2 := by
  unfold Txt.split
  split
  · simp
  · split
    · simp
    · have e1 := StrLaws.occ_length_le z y 0 z.length (z.length + 1)
      rw [length_partsBetween]
      omega
theorem vals_strs : ∀ (l : List (Str × Tok)), Vals ((l.map (·.1)).map V.str) (strValues l)
  | [] => .nil
  | (x, t) :: l => .cons ⟨t, rfl⟩ (vals_strs l)
section
variable {X : Cx}
theorem mt_split : MtR X "str.split" (fun x xs H Q => ∃ z y, x = .str z ∧ xs = [.str y] ∧ (y.length == 0) = false ∧ z.length ≤ 100000 ∧ ∀ p, H p = none → Q (.ref p) (upd H p (.lst ((Txt.split z y).map V.str)))) := by
  intro pins s σ H x xs v us Q I rx r h
  obtain ⟨z, y, rfl, rfl, hy, hz, q⟩ := h
  obtain ⟨t, rfl⟩ := rx
  obtain ⟨u, rfl, t', rfl⟩ := vals1 r
  have hsl : sizeLine = 16777216 := sizeLine_eq
  have fin : ∀ (l : List (Str × Tok)) (k : Nat), l.map (·.1) = Txt.split z y → EP X pins σ Q (.ref s.heap.objs.size) { s with heap := s.heap.push { cls := .type "list", data := .seq (strValues l).toArray }, toks := k } := fun l k e => by
    have hl := split_few z y
    refine ⟨.ref s.heap.objs.size, _, I.laid (t' := k) (fun b o e => Heap.get?_push_of_some _ e) (Nat.le_refl _) (show ObjOk X.prog X.w _ _ _ (.lst ((Txt.split z y).map V.str)) from ⟨by rw [List.length_map]; omega, strValues l, _, ?_, Heap.get?_push_size _ rfl⟩), rfl, q _ (I.hok.fresh (Nat.le_refl _))⟩
    rw [← e]
    exact vals_strs l
  have hn : (Builtin.Str.partsBetween z (Builtin.Str.occurrences z y 0 z.length (z.length + 1)) y.length).length ≤ sizeLine := by
    have e1 := StrLaws.occ_length_le z y 0 z.length (z.length + 1)
    rw [length_partsBetween]; omega
  cases h1 : (decide (z.length < y.length) || decide (Builtin.Str.strKind z < Builtin.Str.strKind y))
  · cases hf : (Builtin.Str.occurrences z y 0 z.length (z.length + 1)).isEmpty
    · refine call_meets F.slot_str_split (typeIs_str _ _ _) F.entry_str_split (F.args_str_split_2 _ _) (meets_str_split_sep z y t t' h1 hy hf (by omega) hn) ?_
      show wants (EP X pins σ Q) X.xe _ { s with toks := _, heap := s.heap.push { cls := .type "list", data := .seq (strsFrom s.toks (Builtin.Str.partsBetween z (Builtin.Str.occurrences z y 0 z.length (z.length + 1)) y.length)).toArray } }
      rw [strsFrom_eq]
      exact fin (numbered s.toks _) _ ((numbered_texts _ _).trans ((if_neg (ne_true_of_eq_false h1)).trans (if_neg (ne_true_of_eq_false hf))).symm)
    · exact call_meets F.slot_str_split (typeIs_str _ _ _) F.entry_str_split (F.args_str_split_2 _ _) (meets_str_split_not_found z y t t' h1 hy hf) (fin [(z, t)] s.toks ((if_neg (ne_true_of_eq_false h1)).trans (if_pos hf)).symm)
  · exact call_meets F.slot_str_split (typeIs_str _ _ _) F.entry_str_split (F.args_str_split_2 _ _) (meets_str_split_cannot_occur z y t t' h1) (fin [(z, t)] s.toks (if_pos h1).symm)
theorem mt_rmp : MtR X "str.removeprefix" (fun x xs H Q => ∃ z y, x = .str z ∧ xs = [.str y] ∧ z.length ≤ 100000 ∧ Q (.str (Txt.removeprefix z y)) H) := by
  intro pins s σ H x xs v us Q I rx r h
  obtain ⟨z, y, rfl, rfl, hz, q⟩ := h
  obtain ⟨t, rfl⟩ := rx
  obtain ⟨u, rfl, t', rfl⟩ := vals1 r
  exact SC.removeprefix (fun t' k => ⟨.str _, H, I.tok _, ⟨_, rfl⟩, q⟩) (sz_big hz)
theorem mt_join : MtR X "str.join" (fun x xs H Q => ∃ z p ts, x = .str z ∧ xs = [.ref p] ∧ SqL X.K H p (ts.map V.str) ∧ JoinOk z ts = true ∧ Q (.str (Txt.join z ts)) H) := by
  intro pins s σ H x xs v us Q I rx r h
  obtain ⟨z, p, ts, rfl, rfl, hq, hj, q⟩ := h
  obtain ⟨t, rfl⟩ := rx
  obtain ⟨u, rfl, rp⟩ := vals1 r
  cases rp
  obtain ⟨its, r', pl, hz⟩ := I.list hq
  have back : ∀ (ts : List Str) (its : List Value), Vals (ts.map V.str) its → ∃ l : List (Str × Tok), its = strValues l ∧ l.map (·.1) = ts := by
    intro ts
    induction ts with
    | nil => intro its h; cases h; exact ⟨[], rfl, rfl⟩
    | cons x ts ih =>
      intro its h
      cases h with
      | cons h1 h2 =>
        obtain ⟨t, rfl⟩ := h1
        obtain ⟨l, rfl, e⟩ := ih _ h2
        exact ⟨(x, t) :: l, rfl, by rw [List.map_cons, e]⟩
  obtain ⟨l, rfl, e⟩ := back ts its r'
  exact SC.join pl.isList e hj fun t' k => ⟨.str _, H, I.tok _, ⟨_, rfl⟩, q⟩
theorem call_intT : CallR X (.type "int") (fun xs H Q => ∃ z n, xs = [.str z] ∧ intText? z = some n ∧ z.length ≤ 640 ∧ Q (.int n) H) := by
  intro pins s σ H xs us Q I r h
  obtain ⟨z, n, rfl, hn, hl, q⟩ := h
  obtain ⟨u, rfl, t, rfl⟩ := vals1 r
  exact PySem.W.KIN.call_text hn hl ⟨.int n, H, I.tok _, ⟨_, rfl⟩, q⟩
/-- f'{a}c{b}' -/
theorem pe_fstr {a b : Expr} {ta tb : TE} {c : Str} {k} {p1 p2 p3 pos : Pos} (ha : PE X a ta) (hb : PE X b tb) (hc : c.length ≤ 100) :
    PE X (.JoinedStr [.FormattedValue a (-1) none p1, .Constant (.str c) k p2, .FormattedValue b (-1) none p3] pos) (fun σ H Q => ta σ H fun x H1 => ∃ i, x = .int i ∧ i.natAbs < 10 ^ 40 ∧ tb σ H1 fun y H2 => ∃ j, y = .int j ∧ j.natAbs < 10 ^ 40 ∧ Q (.str (Fr.shw i ++ c ++ Fr.shw j)) H2) := by
  intro pins s σ H Q I h
  have hsl : sizeLine = 16777216 := sizeLine_eq
  refine wpAny_JoinedStr ?_
  refine wpAny_FormattedValue_plain (thn (ha pins s σ H _ I h) fun v s1 ⟨x, H1, I1, r1, i, ex, hi, q1⟩ => ?_)
  subst ex
  obtain ⟨t, rfl⟩ := r1
  refine wpAny_formatField_int (t40 hi) ⟨_, _, rfl, ?_, ?_⟩
  · have := len40 hi
    show (Str.empty ++ Fr.shw i).length ≤ _
    rw [strLen_append]
    show 0 + _ ≤ _
    omega
  · have I2 := I1.tok (s1.toks + 1 + 1)
    refine thn (pe_str (X := X) (pos := p2) (j := k) pins _ σ H1 (fun v H' => v = .str c ∧ H' = H1) I2 ⟨rfl, rfl⟩) fun v s2 ⟨x2, H2, I3, r2, e2, e3⟩ => ?_
    subst e2
    subst e3
    obtain ⟨t2, rfl⟩ := r2
    refine ⟨_, _, rfl, ?_, ?_⟩
    · have := len40 hi
      show (Str.empty ++ Fr.shw i ++ c).length ≤ _
      rw [strLen_append, strLen_append]
      show 0 + _ + _ ≤ _
      omega
    · refine wpAny_FormattedValue_plain (thn (hb pins s2 σ H2 _ I3 q1) fun v s3 ⟨y, H3, I4, r3, j, ey, hj, q2⟩ => ?_)
      subst ey
      obtain ⟨t3, rfl⟩ := r3
      have l2 : (Str.empty ++ Fr.shw i ++ c ++ Fr.shw j).length ≤ sizeLine := by
        have := len40 hi
        have := len40 hj
        rw [strLen_append, strLen_append, strLen_append]
        show 0 + _ + _ + _ ≤ _
        omega
      have e0 : Str.empty ++ Fr.shw i = Fr.shw i := by
        show (⟨#[] ++ (Fr.shw i).cps⟩ : Str) = _
        rw [Array.empty_append]
      rw [← e0] at q2
      exact wpAny_formatField_int (t40 hj) ⟨_, _, rfl, l2, l2, .str _, H3, (I4.tok _).tok _, ⟨_, rfl⟩, q2⟩
end
/-! ### over data -/
section
variable {X : Cx} {E : XK} {e a b o : Expr} {es : List Expr} {pos p : Pos}
/-- text.method(e), a text -/
def tMs (g : Str → Str → (D → Prop) → Prop) (to t : T3D) : T3D := fun Z δ Q => to Z δ fun x δ1 => match x with
  | .str z => t Z δ1 fun y δ2 => (match y with
    | .str w => g z w fun r => Q r δ2
    | _ => False)
  | _ => False
theorem str_inv {x : D} {P : Str → Prop} (h : match x with
  | .str c => P c
  | _ => False) : ∃ c, x = .str c ∧ P c := by
  cases x with
  | str c => exact ⟨c, rfl, h⟩
  | _ => exact h.elim
def gRmp : Str → Str → (D → Prop) → Prop := fun z w P => z.length ≤ 100000 ∧ P (.str (Txt.removeprefix z w))
theorem d_rmp {apos : Pos} {to t : T3D} (ho : D3 X E o to) (he : D3 X E e t) (hs : starEach [e] X.env = (false, eval e X.env) :: starEach [] X.env := by rfl)
    (hbase : attributeBase o "removeprefix" X.env (eval o X.env) = eval o X.env := by rfl)
    (hfew : ((backTo pos (starEach [e] X.env)).all (fun x => !x.1) && (backToKw pos (keywordEach [] X.env)).all (fun x => x.1.isSome)
      && decide ([e].length + ([] : List Keyword).length + (if ([] : List Keyword).isEmpty then 0 else 1) < 30)) = true := by rfl) (hline : (apos.endLine == pos.line) = true := by rfl) :
    D3 X E (.Call (.Attribute o "removeprefix" apos) [e] [] pos) (tMs gRmp to t) :=
  ⟨fun F0 H0 B => pe_imp (pe_bm PySem.F.plainAttrs_str PySem.F.slot_str_removeprefix PySem.F.type_str_removeprefix mt_rmp (ho.h F0 H0 B) (pa_cons (he.h F0 H0 B) pa_nil hs) hbase hfew hline hs rfl) fun σ H Q hh => ex4 hh fun δ F Z P L z w q =>
    ⟨δ, F, Z, _, L, z, w, fun x δ1 v F1 H1 p1 L1 s1 r1 => by
      obtain ⟨c, rfl, p1⟩ := str_inv p1
      obtain rfl := r1.inv_str
      refine ⟨rfl, δ1, F1, Z, _, L1, z, p1, fun y δ2 u F2 H2 p2 L2 s2 r2 => ?_⟩
      obtain ⟨d, rfl, p2⟩ := str_inv p2
      obtain rfl := r2.inv_str
      exact ⟨c, d, rfl, rfl, p2.1, q _ δ2 _ F2 H2 p2.2 L2 (s1.trans s2) (.str _)⟩⟩⟩
/-- text.split(e): a new list -/
def tSpl (to t : T3D) : T3E := fun Z δ Q => to Z δ fun x δ1 => match x with
  | .str z => t Z δ1 fun y δ2 => (match y with
    | .str w => (w.length == 0) = false ∧ z.length ≤ 100000 ∧ Q (.own (.lst ((Txt.split z w).map D.str))) δ2
    | _ => False)
  | _ => False
theorem rps_strs {K : PySem.W.Frag} {F : Hp} : ∀ ts : List Str, Rps K F (ts.map V.str) (ts.map D.str)
  | [] => .nil
  | t :: ts => .cons (.str t) (rps_strs ts)
theorem e_split {apos : Pos} {to t : T3D} (ho : D3 X E o to) (he : D3 X E e t) (hs : starEach [e] X.env = (false, eval e X.env) :: starEach [] X.env := by rfl)
    (hbase : attributeBase o "split" X.env (eval o X.env) = eval o X.env := by rfl)
    (hfew : ((backTo pos (starEach [e] X.env)).all (fun x => !x.1) && (backToKw pos (keywordEach [] X.env)).all (fun x => x.1.isSome)
      && decide ([e].length + ([] : List Keyword).length + (if ([] : List Keyword).isEmpty then 0 else 1) < 30)) = true := by rfl) (hline : (apos.endLine == pos.line) = true := by rfl) :
    E3 X E (.Call (.Attribute o "split" apos) [e] [] pos) (tSpl to t) :=
  ⟨fun F0 H0 B => pe_imp (pe_bm PySem.F.plainAttrs_str PySem.F.slot_str_split PySem.F.type_str_split mt_split (ho.h F0 H0 B) (pa_cons (he.h F0 H0 B) pa_nil hs) hbase hfew hline hs rfl) fun σ H Q hh => ex4 hh fun δ F Z P L z w q =>
    ⟨δ, F, Z, _, L, z, w, fun x δ1 v F1 H1 p1 L1 s1 r1 => by
      obtain ⟨c, rfl, p1⟩ := str_inv p1
      obtain rfl := r1.inv_str
      refine ⟨rfl, δ1, F1, Z, _, L1, z, p1, fun y δ2 u F2 H2 p2 L2 s2 r2 => ?_⟩
      obtain ⟨d, rfl, p2⟩ := str_inv p2
      obtain rfl := r2.inv_str
      refine ⟨c, d, rfl, rfl, p2.1, p2.2.1, fun a ha => ?_⟩
      obtain ⟨L3, k3⟩ := L2.newO (ho := .lst ((Txt.split c d).map V.str)) ha (o := .lst ((Txt.split c d).map D.str)) ⟨_, upd_same, rps_strs _⟩
      exact q _ δ2 _ F2 _ p2.2.2 L3 (s1.trans s2) k3⟩⟩
/-- text.join(list of texts) -/
def tJn (to t : T3D) : T3D := fun Z δ Q => to Z δ fun x δ1 => match x with
  | .str z => t Z δ1 fun y δ2 => ∃ ts : List Str, y = .lst (ts.map D.str) ∧ JoinOk z ts = true ∧ Q (.str (Txt.join z ts)) δ2
  | _ => False
theorem strs_inv {K : PySem.W.Frag} {F : Hp} : ∀ {ts : List Str} {vs : List V}, Rps K F vs (ts.map D.str) → vs = ts.map V.str
  | [], _, h => h.inv_nil
  | t :: ts, _, h => by
    obtain ⟨v, us, rfl, h1, h2⟩ := h.inv_cons
    rw [h1.inv_str, strs_inv h2]
    rfl
theorem d_join {apos : Pos} {to t : T3D} (ho : D3 X E o to) (he : D3 X E e t) (hs : starEach [e] X.env = (false, eval e X.env) :: starEach [] X.env := by rfl)
    (hbase : attributeBase o "join" X.env (eval o X.env) = eval o X.env := by rfl)
    (hfew : ((backTo pos (starEach [e] X.env)).all (fun x => !x.1) && (backToKw pos (keywordEach [] X.env)).all (fun x => x.1.isSome)
      && decide ([e].length + ([] : List Keyword).length + (if ([] : List Keyword).isEmpty then 0 else 1) < 30)) = true := by rfl) (hline : (apos.endLine == pos.line) = true := by rfl) :
    D3 X E (.Call (.Attribute o "join" apos) [e] [] pos) (tJn to t) :=
  ⟨fun F0 H0 B => pe_imp (pe_bm PySem.F.plainAttrs_str PySem.F.slot_str_join PySem.F.type_str_join mt_join (ho.h F0 H0 B) (pa_cons (he.h F0 H0 B) pa_nil hs) hbase hfew hline hs rfl) fun σ H Q hh => ex4 hh fun δ F Z P L z w q =>
    ⟨δ, F, Z, _, L, z, w, fun x δ1 v F1 H1 p1 L1 s1 r1 => by
      obtain ⟨c, rfl, p1⟩ := str_inv p1
      obtain rfl := r1.inv_str
      refine ⟨rfl, δ1, F1, Z, _, L1, z, p1, fun y δ2 u F2 H2 p2 L2 s2 r2 => ?_⟩
      obtain ⟨ts, rfl, hj, p2⟩ := p2
      obtain ⟨l, xs, rfl, hl, rs⟩ := r2.inv_lst
      have := strs_inv rs
      subst this
      exact ⟨c, l, ts, rfl, rfl, SqL.of (L2.fh _ _ hl), hj, q _ δ2 _ F2 H2 p2 L2 (s1.trans s2) (.str _)⟩⟩⟩
/-- f'{a}c{b}' -/
def tFmt (c : Str) (ta tb : T3D) : T3D := fun Z δ Q => ta Z δ fun x δ1 => match x with
  | .int i => i.natAbs < 10 ^ 40 ∧ tb Z δ1 fun y δ2 => (match y with
    | .int j => j.natAbs < 10 ^ 40 ∧ Q (.str (Fr.shw i ++ c ++ Fr.shw j)) δ2
    | _ => False)
  | _ => False
theorem int_inv {x : D} {P : Int → Prop} (h : match x with
  | .int c => P c
  | _ => False) : ∃ c, x = .int c ∧ P c := by
  cases x with
  | int c => exact ⟨c, rfl, h⟩
  | _ => exact h.elim
theorem d_fstr {c : Str} {k} {p1 p2 p3 : Pos} {ta tb : T3D} (ha : D3 X E a ta) (hb : D3 X E b tb) (hc : c.length ≤ 100) : D3 X E (.JoinedStr [.FormattedValue a (-1) none p1, .Constant (.str c) k p2, .FormattedValue b (-1) none p3] pos) (tFmt c ta tb) :=
  ⟨fun F0 H0 B => pe_imp (pe_fstr (ha.h F0 H0 B) (hb.h F0 H0 B) hc) fun σ H Q hh => ex4 hh fun δ F Z P L z w q =>
    ⟨δ, F, Z, _, L, z, w, fun x δ1 v F1 H1 p1 L1 s1 r1 => by
      obtain ⟨i, rfl, hi, p1⟩ := int_inv p1
      obtain rfl := r1.inv_int
      refine ⟨i, rfl, hi, δ1, F1, Z, _, L1, z, p1, fun y δ2 u F2 H2 p2 L2 s2 r2 => ?_⟩
      obtain ⟨j, rfl, hj, p2⟩ := int_inv p2
      obtain rfl := r2.inv_int
      exact ⟨j, rfl, hj, q _ δ2 _ F2 H2 p2 L2 (s1.trans s2) (.str _)⟩⟩⟩
/-- all(sign in TEXT for sign in text) -/
def tAS (f : Str) (t : T3D) : T3D := fun Z δ Q => t Z δ fun x δ1 => match x with
  | .str y => Q (.bl (y.cps.toList.all (Fr.sgIn f))) δ1
  | _ => False
theorem d_allS {iter : Expr} {t : T3D} {x g f : Str} {px px2 pg cp p gpos : Pos} {scope : Scope} {c T bm : Addr} {ob : Obj} {tk0 : Tok} (hc : X.calm = true) (hga : Gl X "all") (hma : X.mg "all" = none) (hi : D3 X E iter t) (tin : TabIn X.K T) (C : Fr.CodeP X.base c T) (M : BMod X.base mainGlobals X.mg bm ob) (bP : X.base.get? T = none) (nP : T ≠ cStatics) (hf : X.mg g = some (.str f tk0)) (hcode : X.env.code = .ref c) (hdep : X.A.depth < recursionLimit)
    (co : scope.isCoroutine = false) (hcl : closureFor scope X.env = pure []) (nce : ∀ y ∈ scope.names, y.2 ≠ .cell) (h0 : scope.names.lookup (Str.ofString ".0") = some .local) (hx : scope.names.lookup x = some .local) (hgl : ∀ C code bi, (genEnv scope [] C code bi X.env).kindOf g = some .globalImplicit) (hxl : ∀ C code bi, (genEnv scope [] C code bi X.env).kindOf x = some .local)
    (hkind : scope.kind = .function) (hfold : ∀ z, genFold iter X.env z = pure z) (hdx : (x == ("__debug__" : Str)) = false) (hdg : (g == ("__debug__" : Str)) = false)
    (he : starEach [.GeneratorExp (.Compare (.Name x px) [.In] [.Name g pg] cp) [⟨.Name x px2, iter, [], 0⟩] scope gpos] X.env = (false, eval (.GeneratorExp (.Compare (.Name x px) [.In] [.Name g pg] cp) [⟨.Name x px2, iter, [], 0⟩] scope gpos) X.env) :: starEach [] X.env) :
    D3 X E (.Call (.Name "all" p) [.GeneratorExp (.Compare (.Name x px) [.In] [.Name g pg] cp) [⟨.Name x px2, iter, [], 0⟩] scope gpos] [] pos) (tAS f t) :=
  ⟨fun F0 H0 B => pe_imp (Fr.pe_allS hc hga hma (hi.h F0 H0 B) C M bP nP hf hcode hdep co hcl nce h0 hx hgl hxl hkind hfold hdx hdg he) fun σ H Q hh => ex4 hh fun δ F Z P L z w q =>
    ⟨δ, F, Z, _, L, z, w, fun y δ1 v F1 H1 p1 L1 s1 r1 => by
      obtain ⟨s, rfl, p1⟩ := str_inv p1
      obtain rfl := r1.inv_str
      exact ⟨s, rfl, L1.tbH T tin, q _ δ1 _ F1 H1 p1 L1 s1 (.bl _)⟩⟩⟩
def ixStr : D → D → (D → Prop) → Prop := fun x y P => match x, y with
  | .str z, .int i => z.length ≤ 100000 ∧ ∃ c, atI z.cps.toList i = some c ∧ P (.str ⟨#[c]⟩)
  | _, _ => False
theorem r_ixStr {K : PySem.W.Frag} : R3 K rIxS ixStr := by
  intro F H x y v u Q P fh rx ry h q
  cases x with
  | str z =>
    cases y with
    | int i =>
      obtain ⟨hl, c, e, p⟩ := h
      exact ⟨z, i, c, rx.inv_str, ry.inv_int, sz_big hl, e, q _ _ p (.str _)⟩
    | _ => exact h.elim
  | _ => exact h.elim
def rLenS : List D → (D → Prop) → Prop := fun xs P => match xs with
  | [.str z] => z.length ≤ 100000 ∧ P (.int z.length)
  | _ => False
theorem rLenS_inv {xs : List D} {P : D → Prop} (h : rLenS xs P) : ∃ z, xs = [.str z] ∧ z.length ≤ 100000 ∧ P (.int z.length) := by
  unfold rLenS at h
  split at h
  · exact ⟨_, rfl, h⟩
  · exact h.elim
theorem cr_lenS {K : PySem.W.Frag} : CR3 K (fun xs H Q => ∃ z, xs = [.str z] ∧ z.length ≤ sizeLine ∧ Q (.int z.length) H) rLenS := by
  intro F H xs vs Q P fh rs h q
  obtain ⟨z, rfl, hz, p⟩ := rLenS_inv h
  obtain ⟨v, rfl, r⟩ := rs.inv1
  exact ⟨z, by rw [r.inv_str], sz_big hz, q _ _ p (.int _)⟩
def rStrI : List D → (D → Prop) → Prop := fun xs P => match xs with
  | [.int i] => i.natAbs < 10 ^ 40 ∧ P (.str (Fr.shw i))
  | _ => False
theorem rStrI_inv {xs : List D} {P : D → Prop} (h : rStrI xs P) : ∃ i, xs = [.int i] ∧ i.natAbs < 10 ^ 40 ∧ P (.str (Fr.shw i)) := by
  unfold rStrI at h
  split at h
  · exact ⟨_, rfl, h⟩
  · exact h.elim
theorem cr_strI {K : PySem.W.Frag} : CR3 K (fun xs H Q => ∃ i, xs = [.int i] ∧ i.natAbs.log2 < 1920 ∧ Q (.str (toString i)) H) rStrI := by
  intro F H xs vs Q P fh rs h q
  obtain ⟨i, rfl, hi, p⟩ := rStrI_inv h
  obtain ⟨v, rfl, r⟩ := rs.inv1
  exact ⟨i, by rw [r.inv_int], t40 hi, q _ _ p (.str _)⟩
def rIntT : List D → (D → Prop) → Prop := fun xs P => match xs with
  | [.str z] => ∃ n, intText? z = some n ∧ z.length ≤ 640 ∧ P (.int n)
  | _ => False
theorem rIntT_inv {xs : List D} {P : D → Prop} (h : rIntT xs P) : ∃ z n, xs = [.str z] ∧ intText? z = some n ∧ z.length ≤ 640 ∧ P (.int n) := by
  unfold rIntT at h
  split at h
  · obtain ⟨n, h⟩ := h
    exact ⟨_, n, rfl, h⟩
  · exact h.elim
theorem cr_intT {K : PySem.W.Frag} : CR3 K (fun xs H Q => ∃ z n, xs = [.str z] ∧ intText? z = some n ∧ z.length ≤ 640 ∧ Q (.int n) H) rIntT := by
  intro F H xs vs Q P fh rs h q
  obtain ⟨z, n, rfl, h1, h2, p⟩ := rIntT_inv h
  obtain ⟨v, rfl, r⟩ := rs.inv1
  exact ⟨z, n, by rw [r.inv_str], h1, h2, q _ _ p (.int _)⟩
def addS : D → D → (D → Prop) → Prop := fun x y P => match x, y with
  | .str z, .str w => z.length ≤ 100000 ∧ w.length ≤ 100000 ∧ P (.str (z ++ w))
  | _, _ => False
theorem r_addS {K : PySem.W.Frag} : R3 K (fun x y H Q => ∃ i j, x = .str i ∧ y = .str j ∧ i.length + j.length ≤ sizeLine ∧ Q (.str (i ++ j)) H) addS := by
  intro F H x y v u Q P fh rx ry h q
  cases x with
  | str z =>
    cases y with
    | str w =>
      obtain ⟨h1, h2, p⟩ := h
      exact ⟨z, w, rx.inv_str, ry.inv_str, by rw [sizeLine_eq]; omega, q _ _ p (.str _)⟩
    | _ => exact h.elim
  | _ => exact h.elim
end
/-- as ok3, the code known -/
theorem ok3c {P : Program} {w : World} {K : PySem.W.Frag} {mg : Str → Option Value} {base : Heap} {x qual : Str} {st : Stmt} {f : Addr} {fd : FuncData} {N ps : List Str} {k : Nat} {sp : Sp3} (F : Fun K x qual st f fd) (S : FnScope N ps (defScope st))
    (len : ∀ δ Q Z, sp δ Q Z → δ.length = ps.length)
    (hbody : ∀ (cdv : Value) (A : Around) (outer : List Env) (s : Shared) (H : Hp) (E : XK), fd.code = cdv → Room k (A.deeper (PyProof.Rows.envOfC qual (defScope st) s.heap.objs.size f cdv)) →
      ∃ t, B3 (cxOf (Fr.CX1 P w) P w K mg base N qual (defScope st) f cdv A outer s H E) E (defBody st) t ∧
        ∀ δ Q Z, sp δ Q Z → t (fun C δ' => Z C (borOf δ')) { nx := fun δ' => Q (.d .non) (borOf δ'), rt := fun r δ' => Q r (borOf δ') } (δ ++ List.replicate (N.length - ps.length) .un)) :
    FnOk P w K mg base (Fr.CX1 P w) (k + 1) f fd ps (lsp K sp) := by
  have len2 : ∀ vs H Q E, lsp K sp vs H Q E → vs.length = ps.length := fun vs H Q E ⟨F, B, δ, P', Zx, L, h, _⟩ => by
    have := L.len
    rw [List.length_map] at this
    rw [← this]
    exact len δ _ _ h
  obtain ⟨oc, od, kV, doc, pm, an, cdv, ct, osl, rfl, lk, hcd⟩ := F.ex
  refine fn_of lk hcd S len2 fun A outer s H vs Q E hr h => ?_
  have hl := len2 vs H Q E h
  obtain ⟨t, hb, run⟩ := hbody cdv A outer s H E rfl hr
  obtain ⟨F', B, δ, P', Zx, L, h, q, qe⟩ := h
  refine ⟨_, hb.h F' H B, _, F', (fun C δ' => Zx C (borOf δ')), { nx := fun δ' => P' (.d .non) (borOf δ'), rt := fun r δ' => P' r (borOf δ') }, L.entry (N := N), ?_, ?_⟩
  · exact fun C σ' δ' F2 H2 L2 z => qe C _ F2 H2 z L2.fin
  · refine ⟨by rw [hl]; exact run δ P' Zx h, ⟨fun σ' δ' F2 H2 p L2 _ => q _ _ _ F2 H2 p L2.fin Rp.non, fun r v σ' δ' F2 H2 p L2 _ k => q _ _ _ F2 H2 p L2.fin k.rk, fun _ _ _ _ z => z.elim, fun _ _ _ _ z => z.elim⟩⟩
end L3

set_option Elab.async false
set_option linter.all false
set_option maxRecDepth 100000
set_option maxHeartbeats 1000000
namespace Fr
open PySem L2 L3
local macro_rules | `(tactic| walk_at "w") => `(tactic| conv => whnf)
local macro_rules | `(tactic| walk_at "v") => `(tactic| ((conv => whnf); repeat ((refine ⟨_, rfl, ?_⟩); (conv => whnf))))
local macro_rules | `(tactic| walk_at "m") => `(tactic| ((repeat ((conv => whnf); (refine ⟨⟨by assumption, by assumption⟩, ?_⟩))); (conv => whnf)))
def top (i : Nat) : Stmt := PySem.Challenge.pw_fractionroads_k84_walks_written.main.body.getD i (.Pass ⟨0, 0, 0, 0⟩)
/-- is it a whole number -/
def isW : D → Bool
  | .int _ => true
  | _ => false
def spWhole : Sp3 := fun δ Q _ => match δ with
  | [.d x] => (tyN x).isSome = true ∧ Q (.d (.bl (isW x))) none
  | _ => False
def spCell : Sp3 := fun δ Q _ => match δ with
  | [.d (.scr ns), .d (.int k)] => 0 ≤ k ∧ ∀ x : Int, Q (.d (.int x)) none
  | _ => False
def spNumber : Sp3 := fun δ Q _ => match δ with
  | [.d (.scr ns), .d (.int k)] => (0 ≤ k ∧ k < 100) ∧ ∀ x : Int, 0 ≤ x → ∀ ob, Q (.d (.int x)) ob
  | _ => False
theorem fitE' {B : Nat} {x : Int} (h : x.natAbs < 2 ^ B) (hB : B ≤ 65536) : Fit x := Nat.lt_of_lt_of_le h (Nat.pow_le_pow_right (by decide) hB)
theorem fit37 (z : Int) : Fit (z % 10000000000000000000000000000000000000) := by
  refine fitE' (B := 130) ?_ (by decide)
  have : (2 : Nat) ^ 130 = 1361129467683753853853498429727072845824 := by decide
  omega
section
variable {P : Program} {w : World} {K : PySem.W.Frag} {mg : Str → Option Value} {base : Heap} {f : Addr} {fd : FuncData}
abbrev sWholeP : Stmt := top 4
theorem scWholeP : FnScope ["thing"] ["thing"] (defScope sWholeP) := ⟨rfl, rfl, rfl, by decide +kernel, rfl, by decide +kernel, by decide +kernel⟩
theorem ok_wholeP (F : Fun K "is_whole" "is_whole" sWholeP f fd) (T : Bt mg) : FnOk P w K mg base (CX1 P w) 1 f fd ["thing"] (lsp K spWhole) := by
  refine ok3 F scWholeP (fun δ Q Z h => ln_d h) fun cdv A outer s H E hr => ?_
  have nd := scWholeP.nd
  refine ⟨_, (b_one (s_ret (D3.toE (d_and (d_isiN 0 rfl T.isinstance rfl T.int PyProof.Rows.boot_int) (d_one (d_not (d_isiN 0 rfl T.isinstance rfl T.bool PyProof.Rows.boot_bool))))))), fun δ Q Z h => ?_⟩
  obtain ⟨x, rfl, h1, q⟩ := iv_d h
  cases x <;> first | exact q | cases h1
abbrev sLWhole : Stmt := top 23
theorem scLWhole : FnScope ["_law_thing"] ["_law_thing"] (defScope sLWhole) := ⟨rfl, rfl, rfl, by decide +kernel, rfl, by decide +kernel, by decide +kernel⟩
theorem ok_lWhole (F : Fun K "_law_whole" "_law_whole" sLWhole f fd) (T : Bt mg) : FnOk P w K mg base (CX1 P w) 1 f fd ["_law_thing"] (lsp K spWhole) := by
  refine ok3 F scLWhole (fun δ Q Z h => ln_d h) fun cdv A outer s H E hr => ?_
  have nd := scLWhole.nd
  refine ⟨_, (b_one (s_ret (D3.toE (d_and (d_isiN 0 rfl T.isinstance rfl T.int PyProof.Rows.boot_int) (d_one (d_not (d_isiN 0 rfl T.isinstance rfl T.bool PyProof.Rows.boot_bool))))))), fun δ Q Z h => ?_⟩
  obtain ⟨x, rfl, h1, q⟩ := iv_d h
  cases x <;> first | exact q | cases h1
abbrev sCell : Stmt := top 20
theorem scCell : FnScope ["_law_script", "_law_k"] ["_law_script", "_law_k"] (defScope sCell) := ⟨rfl, rfl, rfl, by decide +kernel, rfl, by decide +kernel, by decide +kernel⟩
theorem ok_cell (F : Fun K "_law_cell_at" "_law_cell_at" sCell f fd) (T : Bt mg) : FnOk P w K mg base (CX1 P w) 1 f fd ["_law_script", "_law_k"] (lsp K spCell) := by
  refine ok3 F scCell (fun δ Q Z h => ln_si h) fun cdv A outer s H E hr => ?_
  have nd := scCell.nd
  refine ⟨_, (b_cons (s_if (c_cmp op_lt r_lt (dv 1) (d_callB call_len_seq cr_len rfl T.len PySem.boot_len (a_cons (dv 0) a_nil Fr.star_name)) (nomark _)) (b_one (s_ret (D3.toE (d_ix ix_list r_ixS (dv 0) (dv 1) (fun _ _ => rfl))))) b_nil) (b_one (s_ret (D3.toE d_int)))), fun δ Q Z h => ?_⟩
  obtain ⟨ns, k, rfl, k0, q⟩ := iv_si h
  walk_at "w"
  refine brd (fun c => ?_) (fun c => ?_)
  · have hk : k.toNat < ns.length := by omega
    walk_at "w"
    refine ⟨ns[k.toNat], ?_, q _⟩
    have e : k = (k.toNat : Int) := by omega
    conv => lhs; rw [e]
    exact atI_nat (List.getElem?_eq_getElem hk)
  · exact q 0
abbrev sNumber : Stmt := top 21
theorem scNumber : FnScope ["_law_script", "_law_k", "_law_cell", "_law_one"] ["_law_script", "_law_k"] (defScope sNumber) := ⟨rfl, rfl, rfl, by decide +kernel, rfl, by decide +kernel, by decide +kernel⟩
theorem ok_number (F : Fun K "_law_number" "_law_number" sNumber f fd) (T : Bt mg) (O_law_cell_at : Own3 P w K mg base 1 "_law_cell_at" ["_law_script", "_law_k"] spCell) : FnOk P w K mg base (CX1 P w) 2 f fd ["_law_script", "_law_k"] (lsp K spNumber) := by
  refine ok3 F scNumber (fun δ Q Z h => ln_si h) fun cdv A outer s H E hr => ?_
  have nd := scNumber.nd
  refine ⟨_, (b_cons (s_set 2 (by exact nd) rfl (Or.inl rfl) (e_call O_law_cell_at Fr.pass_on hr rfl (a_cons (dv 0) (a_cons (dv 1) a_nil Fr.star_name) Fr.star_name))) (b_cons (s_if (c_cmp op_ge r_ge (dv 2) (d_op op_pow r_pow d_int d_int) (nomark _)) (b_one (s_ret (e_move 2))) b_nil) (b_cons (s_set 3 (by exact nd) rfl (Or.inl rfl) (D3.toE (d_op op_mod r_mod (d_op Fr.op_mulB r_mulC (d_op op_add r_add (dv 2) (d_op Fr.op_mulW r_mul d_int (d_op op_add r_add (d_op op_add r_add (d_op Fr.op_mulW r_mul (dv 1) (dv 1)) (dv 1)) d_int))) d_int) (d_op op_pow r_pow d_int d_int)))) (b_one (s_ret (D3.toE (d_op op_mod r_mod (d_op Fr.op_fdivP r_fdiv (d_op Fr.op_mulW r_mul (dv 3) (dv 3)) (d_op op_pow r_pow d_int d_int)) (d_op op_pow r_pow d_int d_int)))))))), fun δ Q Z h => ?_⟩
  obtain ⟨ns, k, rfl, ⟨k0, k1⟩, q⟩ := iv_si h
  have P18 : (10 : Int) ^ (18 : Int).toNat = 1000000000000000000 := by decide
  have P37 : (10 : Int) ^ (37 : Int).toNat = 10000000000000000000000000000000000000 := by decide
  have P17 : (10 : Int) ^ (17 : Int).toNat = 100000000000000000 := by decide
  have P40 : (10 : Int) ^ (40 : Int).toNat = 10000000000000000000000000000000000000000 := by decide
  walk_at "w"
  refine ⟨k0, fun x => ?_⟩
  walk_at "w"
  refine ⟨⟨by decide, by decide, by decide⟩, ?_⟩
  walk_at "w"
  refine brd (fun c => ?_) (fun c => ?_)
  · have c' : (1000000000000000000 : Int) ≤ x := by rw [← P18]; exact c
    exact q x (by omega) _
  · have kk0 : 0 ≤ k * k := Int.mul_nonneg k0 k0
    have kk1 : k * k ≤ 100 * 100 := Int.mul_le_mul (by omega) (by omega) k0 (by omega)
    walk_at "w"
    refine ⟨⟨fitI (by omega), fitI (by omega)⟩, ?_⟩
    walk_at "w"
    refine ⟨⟨fitI (by decide), fitI (by omega)⟩, ?_⟩
    walk_at "w"
    refine ⟨cmb_r (by decide) (by decide), ?_⟩
    walk_at "w"
    refine ⟨⟨by decide, by decide, by decide⟩, (by rw [P37]; show (0 : Int) < 10000000000000000000000000000000000000; decide), ?_⟩
    rw [P37]
    have fy : Fit ((x + 1442695040888963407 * (k * k + k + 1)) * 6364136223846793005 % 10000000000000000000000000000000000000) := fit37 _
    walk_at "w"
    refine ⟨⟨fy, fy⟩, ?_⟩
    walk_at "w"
    refine ⟨⟨by decide, by decide, by decide⟩, ⟨(by rw [P17]; show (0 : Int) < 100000000000000000; decide), (by rw [P17]; show (100000000000000000 : Int) < 2 ^ 250; decide)⟩, ?_⟩
    walk_at "w"
    refine ⟨⟨by decide, by decide, by decide⟩, (by rw [P40]; show (0 : Int) < 10000000000000000000000000000000000000000; decide), ?_⟩
    refine q _ (Int.emod_nonneg _ ?_) _
    rw [P40]
    decide
end
end Fr

set_option Elab.async false
set_option linter.all false
set_option maxRecDepth 100000
set_option maxHeartbeats 1000000
/-! Places, their texts. -/
namespace Fr
open PySem L3
def PlOk (p q : Int) : Prop := Int.gcd p q = 1 ∧ 0 ≤ q ∧ (q = 0 → p = 1) ∧ p.natAbs < 10 ^ 30 ∧ q.natAbs < 10 ^ 30
theorem slash : (Str.ofString "/") = ⟨#[47]⟩ := by decide +kernel
theorem minus : (Str.ofString "-") = ⟨#[45]⟩ := by decide +kernel
def plT (p q : Int) : Str := shw p ++ Str.ofString "/" ++ shw q
theorem p30 {i : Int} (h : i.natAbs < 10 ^ 30) : i.natAbs < 10 ^ 40 := Nat.lt_trans h (by decide)
theorem ok_shw (i : Int) : PyData.strOk (shw i) = true := by
  unfold PyData.strOk
  rw [← Array.all_toList, List.all_eq_true]
  intro c hc
  rw [shw_cps] at hc
  rw [decide_eq_true_iff]
  rcases List.mem_append.mp hc with z | z
  · split at z
    · have := List.mem_singleton.mp z
      omega
    · cases z
  · have := dg_all _ c z
    omega
theorem ok_app {x y : Str} (hx : PyData.strOk x = true) (hy : PyData.strOk y = true) : PyData.strOk (x ++ y) = true := by
  unfold PyData.strOk at hx hy ⊢
  show (x.cps ++ y.cps).all _ = true
  rw [Array.all_append, hx, hy]
  rfl
theorem ok_figs (i : Int) : PyData.strOk (figs i) = true := by
  unfold PyData.strOk figs
  rw [← Array.all_toList, List.all_eq_true]
  intro c hc
  have := dg_all _ c hc
  rw [decide_eq_true_iff]
  omega
theorem ok_plT (p q : Int) : PyData.strOk (plT p q) = true := ok_app (ok_app (ok_shw p) (by decide +kernel)) (ok_shw q)
theorem can_str {x : Str} (h : PyData.strOk x = true) : CanEq (.str x) := ⟨h, (by show PyData.depth (.str x) ≤ 60; simp [PyData.depth])⟩
theorem eq_str (x y : Str) : PyData.eqv (D.str x).py (D.str y).py = decide (x = y) := by
  show (x == y) = _
  rfl
theorem plT_len {p q : Int} (hp : p.natAbs < 10 ^ 30) (hq : q.natAbs < 10 ^ 30) : (plT p q).length ≤ 100 := by
  have h1 := shw_len hp (by decide)
  have h2 := shw_len hq (by decide)
  unfold plT
  rw [strLen_append, strLen_append]
  have : (Str.ofString "/").length = 1 := by decide +kernel
  omega
theorem plT_split {p q : Int} : Txt.split (plT p q) (Str.ofString "/") = [shw p, shw q] := by
  unfold plT
  rw [slash]
  exact split_two (shw_free p (by decide) (by decide)) (shw_free q (by decide) (by decide))
theorem figs_ne (i : Int) : figs i ≠ Str.ofString "" := fun h => by
  have h2 : (figs i).cps.toList = [] := by rw [h]; decide +kernel
  exact dg_ne i.natAbs (by simpa [figs] using h2)
theorem figs_len {i : Int} (h : i.natAbs < 10 ^ 30) : (figs i).length ≤ 30 := by
  have := dg_len h (by decide)
  show (dg i.natAbs).toArray.size ≤ 30
  simpa using this
/-- no figure 0 ahead -/
theorem ok_one {c : Nat} (h : c < 58) : PyData.strOk ⟨#[c]⟩ = true := by
  unfold PyData.strOk
  simp
  omega
theorem figs_first (i : Int) : ∃ c, L2.atI (figs i).cps.toList 0 = some c ∧ PyData.strOk ⟨#[c]⟩ = true ∧ (i ≠ 0 → (⟨#[c]⟩ : Str) ≠ Str.ofString "0") := by
  by_cases z : i = 0
  · subst z
    refine ⟨48, ?_, ok_one (by decide), fun h => absurd rfl h⟩
    show L2.atI (dg 0).toArray.toList 0 = _
    rw [dg_zero]
    rfl
  · obtain ⟨c, r, e, hc⟩ := dg_head (n := i.natAbs) (by omega)
    refine ⟨c, ?_, ok_one (by have := dg_all i.natAbs c (by rw [e]; exact List.mem_cons_self); omega), fun _ h => ?_⟩
    · show L2.atI (dg i.natAbs).toArray.toList ((0 : Nat) : Int) = _
      rw [e]
      exact L2.atI_nat rfl
    · have e0 : (Str.ofString "0") = ⟨#[48]⟩ := by decide +kernel
      rw [e0] at h
      have := congrArg (fun s : Str => s.cps.toList) h
      simp at this
      exact hc this
theorem shw_zero : shw 0 = Str.ofString "0" := by decide +kernel
theorem shw_inj {i j : Int} (hi : i.natAbs < 10 ^ 30) (hj : j.natAbs < 10 ^ 30) (h : shw i = shw j) : i = j := by
  have a := shw_reads hi (by decide) (by decide)
  have b := shw_reads hj (by decide) (by decide)
  rw [h, b] at a
  exact (Option.some.inj a).symm
theorem place_ok {t b c : Int} (h : ¬(t = 0 ∧ b = 0)) (hb : 0 ≤ b) (h1 : t.natAbs < 10 ^ 30) (h2 : b.natAbs < 10 ^ 30) (hc : c = if b = 0 ∧ t < 0 then 0 - (Int.gcd t b : Int) else (Int.gcd t b : Int)) :
    (c ≠ 0 ∧ c.natAbs < 2 ^ 250) ∧ PlOk (t.fdiv c) (b.fdiv c) := by
  have g0 : 0 < Int.gcd t b := Nat.pos_of_ne_zero fun z => h (Int.gcd_eq_zero_iff.mp z)
  have ca : c.natAbs = Int.gcd t b := by
    rw [hc]
    split <;> omega
  have c0 : c ≠ 0 := fun z => by rw [z] at ca; simp at ca; omega
  have d1 : c ∣ t := Int.natAbs_dvd_natAbs.mp (by rw [ca]; exact Int.natAbs_dvd_natAbs.mpr (by simpa using Int.gcd_dvd_left t b))
  have d2 : c ∣ b := Int.natAbs_dvd_natAbs.mp (by rw [ca]; exact Int.natAbs_dvd_natAbs.mpr (by simpa using Int.gcd_dvd_right t b))
  obtain ⟨p, hp⟩ := d1
  obtain ⟨q, hq⟩ := d2
  have fp : t.fdiv c = p := by rw [hp]; exact Int.mul_fdiv_cancel_left p c0
  have fq : b.fdiv c = q := by rw [hq]; exact Int.mul_fdiv_cancel_left q c0
  rw [fp, fq]
  have ge : Int.gcd t b = c.natAbs * Int.gcd p q := by rw [hp, hq, Int.gcd_mul_left]
  have g1 : Int.gcd p q = 1 := by
    have h3 : c.natAbs * Int.gcd p q = c.natAbs * 1 := by rw [← ge, ca, Nat.mul_one]
    exact Nat.eq_of_mul_eq_mul_left (by omega) h3
  have bp : p.natAbs ≤ t.natAbs := by
    rw [hp, Int.natAbs_mul]
    exact Nat.le_mul_of_pos_left _ (by omega)
  have bq : q.natAbs ≤ b.natAbs := by
    rw [hq, Int.natAbs_mul]
    exact Nat.le_mul_of_pos_left _ (by omega)
  refine ⟨⟨c0, ?_⟩, g1, ?_, fun z => ?_, by omega, by omega⟩
  · have : c.natAbs ≤ t.natAbs ∨ c.natAbs ≤ b.natAbs := by
      by_cases z : t = 0
      · right
        rw [ca]
        exact Nat.le_of_dvd (by omega) (Int.natAbs_dvd_natAbs.mpr (by simpa using Int.gcd_dvd_right t b))
      · left
        rw [ca]
        exact Nat.le_of_dvd (by omega) (Int.natAbs_dvd_natAbs.mpr (by simpa using Int.gcd_dvd_left t b))
    have h3 : (10 : Nat) ^ 30 < 2 ^ 250 := by decide +kernel
    omega
  · by_cases z : b = 0 ∧ t < 0
    · rw [z.1] at hq
      rcases Int.mul_eq_zero.mp hq.symm with e | e
      · exact absurd e c0
      · omega
    · rw [if_neg z] at hc
      have c1 : 0 < c := by rw [hc]; omega
      by_cases n : 0 ≤ q
      · exact n
      · have := Int.mul_neg_of_pos_of_neg c1 (by omega : q < 0)
        omega
  · rw [z, Int.gcd_zero_right] at g1
    rw [z, Int.mul_zero] at hq
    by_cases n : t < 0
    · rw [if_pos ⟨hq, n⟩] at hc
      by_cases s : 0 ≤ p
      · omega
      · have := Int.mul_pos_of_neg_of_neg (by omega : c < 0) (by omega : p < 0)
        omega
    · rw [if_neg fun z => n z.2] at hc
      by_cases s : 0 ≤ p
      · omega
      · have := Int.mul_neg_of_pos_of_neg (by omega : 0 < c) (by omega : p < 0)
        omega
end Fr

set_option Elab.async false
set_option linter.all false
set_option maxRecDepth 100000
set_option maxHeartbeats 1000000
namespace Fr
open PySem L2 L3
local macro_rules | `(tactic| walk_at "w") => `(tactic| conv => whnf)
local macro_rules | `(tactic| walk_at "v") => `(tactic| ((conv => whnf); repeat ((refine ⟨_, rfl, ?_⟩); (conv => whnf))))
local macro_rules | `(tactic| walk_at "m") => `(tactic| ((repeat ((conv => whnf); (refine ⟨⟨by assumption, by assumption⟩, ?_⟩))); (conv => whnf)))
def spDivisor : Sp3 := fun δ Q _ => match δ with
  | [.d (.int a), .d (.int b)] => Q (.d (.int (Int.gcd a b))) none
  | _ => False
def spPl : Sp3 := fun δ Q _ => match δ with
  | [.d (.tup [.int p, .int q])] => PlOk p q ∧ ∀ ob, Q (.d (.bl true)) ob
  | _ => False
def spNumT : Sp3 := fun δ Q _ => match δ with
  | [.d (.str x), .d (.int m)] => ∃ i : Int, x = shw i ∧ i.natAbs < 10 ^ 30 ∧ m = 30 ∧ ∀ ob, Q (.d (.bl true)) ob
  | _ => False
def spReadN : Sp3 := fun δ Q _ => match δ with
  | [.d (.str x), .d (.int m)] => ∃ i : Int, x = shw i ∧ i.natAbs < 10 ^ 30 ∧ m = 30 ∧ ∀ ob, Q (.d (.int i)) ob
  | _ => False
def spShow : Sp3 := fun δ Q _ => match δ with
  | [.d (.tup [.int p, .int q])] => PlOk p q ∧ ∀ ob, Q (.d (.str (plT p q))) ob
  | _ => False
def spRead : Sp3 := fun δ Q _ => match δ with
  | [.d (.str x)] => ∃ p q : Int, x = plT p q ∧ PlOk p q ∧ ∀ ob, Q (.d (.tup [.int p, .int q])) ob
  | _ => False
def spPlace : Sp3 := fun δ Q _ => match δ with
  | [.d (.int t), .d (.int b)] => (¬(t = 0 ∧ b = 0) ∧ 0 ≤ b ∧ t.natAbs < 10 ^ 30 ∧ b.natAbs < 10 ^ 30) ∧ ∀ p q, PlOk p q → ∀ ob, Q (.d (.tup [.int p, .int q])) ob
  | _ => False
def spDrawn : Sp3 := fun δ Q _ => match δ with
  | [.d (.int n)] => 0 ≤ n ∧ ∀ p q, PlOk p q → ∀ ob, Q (.d (.tup [.int p, .int q])) ob
  | _ => False
theorem abs_nn (a : Int) : 0 ≤ (if a < 0 then -a else a) := by split <;> omega
section
variable {P : Program} {w : World} {K : PySem.W.Frag} {mg : Str → Option Value} {base : Heap} {f : Addr} {fd : FuncData}
abbrev sDivisor : Stmt := top 5
theorem scDivisor : FnScope ["one", "other"] ["one", "other"] (defScope sDivisor) := ⟨rfl, rfl, rfl, by decide +kernel, rfl, by decide +kernel, by decide +kernel⟩
theorem ok_divisor (F : Fun K "common_divisor" "common_divisor" sDivisor f fd) (T : Bt mg) : FnOk P w K mg base (CX1 P w) 1 f fd ["one", "other"] (lsp K spDivisor) := by
  refine ok3 F scDivisor (fun δ Q Z h => ln_ii h) fun cdv A outer s H E hr => ?_
  have nd := scDivisor.nd
  refine ⟨_, (b_cons (s_while PassesOwn.leaving (c_cmp op_ne r_ne (dv 1) d_int (nomark _)) (b_one (s_par 0 1 rfl (by exact nd) rfl rfl (by decide) rfl rfl (a_cons (dv 1) (a_cons (d_op op_modN r_modN (dv 0) (dv 1)) a_nil Fr.star_bin) Fr.star_name)))) (b_one (s_ret (D3.toE (d_callB call_abs cr_abs rfl T.abs PyProof.Rows.boot_abs (a_cons (dv 0) a_nil Fr.star_name)))))), fun δ Q Z h => ?_⟩
  obtain ⟨a, b, rfl, q⟩ := iv_ii h
  refine ⟨fun m δ => ∃ x y : Int, δ = [.d (.int x), .d (.int y)] ∧ Int.gcd x y = Int.gcd a b ∧ m = y.natAbs, ⟨_, a, b, rfl, rfl, rfl⟩, ?_⟩
  rintro m δ ⟨x, y, rfl, g, rfl⟩
  walk_at "w"
  refine brn (fun c => ?_) (fun c => ?_)
  · walk_at "w"
    refine ⟨c, _, natAbs_fmod c, y, x.fmod y, rfl, ?_, rfl⟩
    rw [← g]
    exact gcd_fmod' x y
  · subst c
    have e2 : ((Int.gcd a b : Nat) : Int) = if x < 0 then -x else x := by
      rw [← g, Int.gcd_zero_right]
      split <;> omega
    have q' : Q (.d (.int (Int.gcd a b))) none := q
    rw [e2] at q'
    exact q'
abbrev sLCommon : Stmt := top 22
theorem scLCommon : FnScope ["_law_one", "_law_other"] ["_law_one", "_law_other"] (defScope sLCommon) := ⟨rfl, rfl, rfl, by decide +kernel, rfl, by decide +kernel, by decide +kernel⟩
theorem ok_lCommon (F : Fun K "_law_common" "_law_common" sLCommon f fd) (T : Bt mg) : FnOk P w K mg base (CX1 P w) 1 f fd ["_law_one", "_law_other"] (lsp K spDivisor) := by
  refine ok3 F scLCommon (fun δ Q Z h => ln_ii h) fun cdv A outer s H E hr => ?_
  have nd := scLCommon.nd
  refine ⟨_, (b_cons (s_par 0 1 rfl (by exact nd) rfl rfl (by decide) rfl rfl (a_cons (d_callB call_abs cr_abs rfl T.abs PyProof.Rows.boot_abs (a_cons (dv 0) a_nil Fr.star_name)) (a_cons (d_callB call_abs cr_abs rfl T.abs PyProof.Rows.boot_abs (a_cons (dv 1) a_nil Fr.star_name)) a_nil Fr.star_call) Fr.star_call)) (b_cons (s_while PassesOwn.leaving (c_cmp op_gt r_gt (dv 1) d_int (nomark _)) (b_one (s_par 0 1 rfl (by exact nd) rfl rfl (by decide) rfl rfl (a_cons (dv 1) (a_cons (d_op op_mod r_mod (dv 0) (dv 1)) a_nil Fr.star_bin) Fr.star_name)))) (b_one (s_ret (e_move 0))))), fun δ Q Z h => ?_⟩
  obtain ⟨a, b, rfl, q⟩ := iv_ii h
  walk_at "w"
  refine ⟨fun m δ => ∃ x y : Int, δ = [.d (.int x), .d (.int y)] ∧ 0 ≤ x ∧ 0 ≤ y ∧ Int.gcd x y = Int.gcd a b ∧ m = y.natAbs, ⟨_, _, _, rfl, abs_nn a, abs_nn b, gcd_abs a b, rfl⟩, ?_⟩
  rintro m δ ⟨x, y, rfl, x0, y0, g, rfl⟩
  walk_at "w"
  refine brd (fun c => ?_) (fun c => ?_)
  · walk_at "w"
    have h1 := Int.emod_nonneg x (show y ≠ 0 by omega)
    have h2 := Int.emod_lt_of_pos x c
    refine ⟨c, _, (by omega), y, x % y, rfl, y0, h1, ?_, rfl⟩
    rw [← g]
    exact gcd_emod' x y
  · have e : y = 0 := by omega
    subst e
    have e2 : ((Int.gcd a b : Nat) : Int) = x := by
      rw [← g, Int.gcd_zero_right]
      omega
    have q' : Q (.d (.int (Int.gcd a b))) none := q
    rw [e2] at q'
    exact q'
abbrev sIsPlace : Stmt := top 7
theorem scIsPlace : FnScope ["thing", "top", "bottom"] ["thing"] (defScope sIsPlace) := ⟨rfl, rfl, rfl, by decide +kernel, rfl, by decide +kernel, by decide +kernel⟩
theorem ok_isPlace (F : Fun K "is_place" "is_place" sIsPlace f fd) (T : Bt mg) (Ois_whole : Own3 P w K mg base 1 "is_whole" ["thing"] spWhole) (Ocommon_divisor : Own3 P w K mg base 1 "common_divisor" ["one", "other"] spDivisor) : FnOk P w K mg base (CX1 P w) 2 f fd ["thing"] (lsp K spPl) := by
  refine ok3 F scIsPlace (fun δ Q Z h => match δ, h with | [.d (.tup [.int p, .int q])], _ => rfl) fun cdv A outer s H E hr => ?_
  have nd := scIsPlace.nd
  refine ⟨_, (b_cons (s_if (W3.toC (w_or (c_not (c_val (d_isiN 0 rfl T.isinstance rfl T.tuple PyProof.Rows.boot_tuple))) (w_or1 (c_cmp op_ne r_ne (d_callB call_len_seq cr_len rfl T.len PySem.boot_len (a_cons (dv 0) a_nil Fr.star_name)) d_int (nomark _))))) (b_one (s_ret (D3.toE d_bl))) b_nil) (b_cons (s_asg (dv 0) (g_tup (n := 2) rfl (gs_cons (g_name 1 (by exact nd) rfl (Or.inl rfl)) (gs_cons (g_name 2 (by exact nd) rfl (Or.inl rfl)) gs_nil)))) (b_cons (s_if (W3.toC (w_or (c_not (c_val (E3.toD (e_call Ois_whole Fr.pass_on hr rfl (a_cons (dv 1) a_nil Fr.star_name))))) (w_or1 (c_not (c_val (E3.toD (e_call Ois_whole Fr.pass_on hr rfl (a_cons (dv 2) a_nil Fr.star_name)))))))) (b_one (s_ret (D3.toE d_bl))) b_nil) (b_cons (s_if (c_cmp op_eq r_eq (dv 2) d_int (nomark _)) (b_one (s_ret (D3.toE (d_cmp op_eq r_eq (dv 1) d_int (nomark _))))) b_nil) (b_one (s_ret (D3.toE (d_and (d_cmp op_gt r_gt (dv 2) d_int (nomark _)) (d_one (d_cmp op_eq r_eq (E3.toD (e_call Ocommon_divisor Fr.pass_on hr rfl (a_cons (dv 1) (a_cons (dv 2) a_nil Fr.star_name) Fr.star_name))) d_int (nomark _))))))))))), fun δ Q Z h => ?_⟩
  match δ, h with
  | [.d (.tup [.int p, .int q])], ⟨⟨g1, q0, q1, _, _⟩, k⟩ =>
    walk_at "w"
    refine ⟨rfl, ?_⟩
    walk_at "w"
    refine ⟨rfl, ?_⟩
    walk_at "w"
    refine brd (fun c => ?_) (fun c => ?_)
    · have h1 : decide (p = 1) = true := decide_eq_true (q1 c)
      have k' := k none
      rw [← h1] at k'
      exact k'
    · walk_at "w"
      have h2 : decide (0 < q) = true := decide_eq_true (by omega)
      refine brd (fun c2 => ?_) (fun c2 => absurd (by omega) c2)
      have h3 : decide (((Int.gcd p q : Nat) : Int) = 1) = true := decide_eq_true (by rw [g1]; rfl)
      have k' := k none
      rw [← h3] at k'
      exact k'
end
end Fr

set_option Elab.async false
set_option linter.all false
set_option maxRecDepth 100000
set_option maxHeartbeats 1000000
namespace Fr
open PySem L2 L3
local macro_rules | `(tactic| walk_at "w") => `(tactic| conv => whnf)
local macro_rules | `(tactic| walk_at "v") => `(tactic| ((conv => whnf); repeat ((refine ⟨_, rfl, ?_⟩); (conv => whnf))))
local macro_rules | `(tactic| walk_at "m") => `(tactic| ((repeat ((conv => whnf); (refine ⟨⟨by assumption, by assumption⟩, ?_⟩))); (conv => whnf)))
theorem fit30 {z : Int} (h : z.natAbs ≤ 2000000000000000000000000000000) : Fit z := by
  refine fitE' (B := 130) ?_ (by decide)
  have : (2 : Nat) ^ 130 = 1361129467683753853853498429727072845824 := by decide
  omega
section
variable {P : Program} {w : World} {K : PySem.W.Frag} {mg : Str → Option Value} {base : Heap} {f : Addr} {fd : FuncData}
abbrev sNumT : Stmt := top 13
theorem scNumT : FnScope ["text", "most", "figures"] ["text", "most"] (defScope sNumT) := ⟨rfl, rfl, rfl, by decide +kernel, rfl, by decide +kernel, by decide +kernel⟩
theorem ok_numT {c T' bm : Addr} {ob : Obj} {tk : Tok} (F : Fun K "is_number_text" "is_number_text" sNumT f fd) (T : Bt mg) (tin : TabIn K T') (hC : CodeP base c T') (hM : PyProof.Rows.BMod base mainGlobals mg bm ob) (hbT : base.get? T' = none) (hnT : T' ≠ cStatics) (m_FIGURES : mg "FIGURES" = some (.str (Str.ofString "0123456789") tk)) (hcd : fd.code = .ref c) :
    FnOk P w K mg base (CX1 P w) 2 f fd ["text", "most"] (lsp K spNumT) := by
  refine ok3c F scNumT (fun δ Q Z h => match δ, h with | [.d (.str x), .d (.int m)], _ => rfl) fun cdv A outer s H E hc hr => ?_
  have nd := scNumT.nd
  have hcode : (cxOf (CX1 P w) P w K mg base ["text", "most", "figures"] "is_number_text" (defScope sNumT) f cdv A outer s H E).env.code = .ref c := hc.symm.trans hcd
  have hdep : (cxOf (CX1 P w) P w K mg base ["text", "most", "figures"] "is_number_text" (defScope sNumT) f cdv A outer s H E).A.depth < recursionLimit := by
    have := hr.dp
    show (A.deeper _).depth < _
    omega
  refine ⟨_, (b_cons (s_set 2 (by exact nd) rfl (Or.inl rfl) (D3.toE (d_rmp (dv 0) d_str (hs := Fr.star_const)))) (b_cons (s_if (W3.toC (w_or (c_cmp Fr.op_eqD (r_eqD hr) (dv 2) d_str (nomark _)) (w_or (c_cmp op_gt r_gt (d_callB call_len_str cr_lenS rfl T.len PySem.boot_len (a_cons (dv 2) a_nil Fr.star_name)) (dv 1) (nomark _)) (w_or1 (c_not (c_val (d_allS rfl rfl T.all (dv 2) tin hC hM hbT hnT m_FIGURES hcode hdep rfl rfl (by decide +kernel) rfl rfl (fun _ _ _ => rfl) (fun _ _ _ => rfl) rfl (fun _ => rfl) (by decide) (by decide) rfl))))))) (b_one (s_ret (D3.toE d_bl))) b_nil) (b_one (s_ret (D3.toE (d_or (d_cmp Fr.op_eqD (r_eqD hr) (dv 0) d_str (nomark _)) (d_one (d_cmp Fr.op_neD (r_neD hr) (d_ix ix_str r_ixStr (dv 2) d_int (fun _ _ => rfl)) d_str (nomark _))))))))), fun δ Q Z h => ?_⟩
  match δ, h with
  | [.d (.str x), .d (.int m)], ⟨i, hx, hi, hm, q⟩ =>
    subst hx hm
    have e0 : Txt.removeprefix (shw i) (Str.ofString "-") = figs i := by rw [minus]; exact fig_prefix i
    walk_at "w"
    refine ⟨by have := shw_len hi (by decide); omega, ?_⟩
    rw [e0]
    walk_at "w"
    refine ⟨⟨can_str (ok_figs i), can_str (by decide +kernel)⟩, false, (by rw [eq_str]; exact decide_eq_false (figs_ne i)), ?_⟩
    walk_at "w"
    have hl := figs_len hi
    refine ⟨by omega, ?_⟩
    walk_at "w"
    refine brd (fun c => absurd c (by omega)) (fun _ => ?_)
    walk_at "w"
    refine br (fun c => by rw [figs_in] at c; cases c) (fun _ => ?_)
    walk_at "w"
    refine ⟨⟨can_str (ok_shw i), can_str (by decide +kernel)⟩, ?_⟩
    by_cases z : i = 0
    · refine ⟨true, (by rw [eq_str, z]; exact decide_eq_true shw_zero), ?_⟩
      exact q none
    · refine ⟨false, (by rw [eq_str]; exact decide_eq_false fun h => z (shw_inj hi (by decide) (h.trans shw_zero.symm))), ?_⟩
      walk_at "w"
      obtain ⟨c, e1, e3, e2⟩ := figs_first i
      refine ⟨by omega, c, e1, ?_⟩
      walk_at "w"
      exact ⟨⟨can_str e3, can_str (by decide +kernel)⟩, false, (by rw [eq_str]; exact decide_eq_false (e2 z)), q none⟩
abbrev sReadN : Stmt := top 14
theorem scReadN : FnScope ["text", "most"] ["text", "most"] (defScope sReadN) := ⟨rfl, rfl, rfl, by decide +kernel, rfl, by decide +kernel, by decide +kernel⟩
theorem ok_readN {gT : Addr} (F : Fun K "read_number" "read_number" sReadN f fd) (T : Bt mg) (m_NoText : mg "NoText" = some (.ref gT)) (q_NoText : PySem.W.excIn K gT bmVE "ValueError.__new__" = true) (Ois_number_text : Own3 P w K mg base 2 "is_number_text" ["text", "most"] spNumT) : FnOk P w K mg base (CX1 P w) 3 f fd ["text", "most"] (lsp K spReadN) := by
  refine ok3 F scReadN (fun δ Q Z h => match δ, h with | [.d (.str x), .d (.int m)], _ => rfl) fun cdv A outer s H E hr => ?_
  have nd := scReadN.nd
  refine ⟨_, (b_cons (s_if (c_not (c_val (E3.toD (e_call Ois_number_text Fr.pass_on hr rfl (a_cons (dv 0) (a_cons (dv 1) a_nil Fr.star_name) Fr.star_name))))) (b_one (s_raise rfl m_NoText q_NoText (a_cons d_str a_nil Fr.star_const))) b_nil) (b_one (s_ret (D3.toE (d_callTy call_intT cr_intT rfl T.int PyProof.Rows.boot_int (a_cons (dv 0) a_nil Fr.star_name)))))), fun δ Q Z h => ?_⟩
  match δ, h with
  | [.d (.str x), .d (.int m)], ⟨i, hx, hi, hm, q⟩ =>
    subst hx hm
    walk_at "w"
    refine ⟨i, rfl, hi, rfl, fun ob => ?_⟩
    walk_at "w"
    exact ⟨i, shw_reads hi (by decide) (by decide), by have := shw_len hi (by decide); omega, q none⟩
abbrev sShow : Stmt := top 15
theorem scShow : FnScope ["place"] ["place"] (defScope sShow) := ⟨rfl, rfl, rfl, by decide +kernel, rfl, by decide +kernel, by decide +kernel⟩
theorem ok_show (F : Fun K "show_place" "show_place" sShow f fd) (T : Bt mg) : FnOk P w K mg base (CX1 P w) 1 f fd ["place"] (lsp K spShow) := by
  refine ok3 F scShow (fun δ Q Z h => match δ, h with | [.d (.tup [.int p, .int q])], _ => rfl) fun cdv A outer s H E hr => ?_
  have nd := scShow.nd
  refine ⟨_, (b_one (s_ret (D3.toE (d_fstr (d_ixT (dv 0) d_int) (d_ixT (dv 0) d_int) (by decide))))), fun δ Q Z h => ?_⟩
  match δ, h with
  | [.d (.tup [.int p, .int q])], ⟨⟨g1, q0, q1, b1, b2⟩, k⟩ =>
    walk_at "v"
    refine ⟨p30 b1, ?_⟩
    walk_at "v"
    exact ⟨p30 b2, k none⟩
abbrev sReadP : Stmt := top 17
theorem scReadP : FnScope ["text", "parts", "told"] ["text"] (defScope sReadP) := ⟨rfl, rfl, rfl, by decide +kernel, rfl, by decide +kernel, by decide +kernel⟩
theorem ok_readP {gT : Addr} {t30 : Tok} (F : Fun K "read_place" "read_place" sReadP f fd) (T : Bt mg) (mI_MOST_FIGURES : mg "MOST_FIGURES" = some (.int 30 t30)) (m_NoText : mg "NoText" = some (.ref gT)) (q_NoText : PySem.W.excIn K gT bmVE "ValueError.__new__" = true) (Oread_number : Own3 P w K mg base 3 "read_number" ["text", "most"] spReadN) (Ois_place : Own3 P w K mg base 3 "is_place" ["thing"] spPl) : FnOk P w K mg base (CX1 P w) 4 f fd ["text"] (lsp K spRead) := by
  refine ok3 F scReadP (fun δ Q Z h => match δ, h with | [.d (.str x)], _ => rfl) fun cdv A outer s H E hr => ?_
  have nd := scReadP.nd
  refine ⟨_, (b_cons (s_if (c_not (c_val (d_isiN 0 rfl T.isinstance rfl T.str PyProof.Rows.boot_str))) (b_one (s_raise rfl m_NoText q_NoText (a_cons d_str a_nil Fr.star_const))) b_nil) (b_cons (s_set 1 (by exact nd) rfl (Or.inl rfl) (e_split (dv 0) d_str (hs := Fr.star_const))) (b_cons (s_if (c_cmp op_ne r_ne (d_lenN 1 rfl T.len) d_int (nomark _)) (b_one (s_raise rfl m_NoText q_NoText (a_cons d_str a_nil Fr.star_const))) b_nil) (b_cons (s_set 2 (by exact nd) rfl (Or.inl rfl) (D3.toE (d_tup (a_cons (E3.toD (e_call Oread_number Fr.pass_on hr rfl (a_cons (d_ixN 1 d_int) (a_cons (d_globI rfl mI_MOST_FIGURES) a_nil Fr.star_name)))) (a_cons (E3.toD (e_call Oread_number Fr.pass_on hr rfl (a_cons (d_ixN 1 d_int) (a_cons (d_globI rfl mI_MOST_FIGURES) a_nil Fr.star_name)))) a_nil Fr.star_call) Fr.star_call)))) (b_cons (s_if (c_not (c_val (E3.toD (e_call Ois_place Fr.pass_on hr rfl (a_cons (dv 2) a_nil Fr.star_name))))) (b_one (s_raise rfl m_NoText q_NoText (a_cons d_str a_nil Fr.star_const))) b_nil) (b_one (s_ret (e_move 2)))))))), fun δ Q Z h => ?_⟩
  match δ, h with
  | [.d (.str x)], ⟨p, q, hx, ok, k⟩ =>
    subst hx
    walk_at "w"
    refine ⟨by decide +kernel, by have := plT_len ok.2.2.2.1 ok.2.2.2.2; omega, ?_⟩
    rw [plT_split]
    walk_at "v"
    refine ⟨ok.2.2.2.1, rfl, fun ob => ?_⟩
    walk_at "v"
    refine ⟨ok.2.2.2.2, rfl, fun ob2 => ?_⟩
    walk_at "v"
    exact ⟨ok, fun ob3 => k none⟩
abbrev sLPlace : Stmt := top 24
theorem scLPlace : FnScope ["_law_top", "_law_bottom", "_law_common_part"] ["_law_top", "_law_bottom"] (defScope sLPlace) := ⟨rfl, rfl, rfl, by decide +kernel, rfl, by decide +kernel, by decide +kernel⟩
theorem ok_lPlace (F : Fun K "_law_place" "_law_place" sLPlace f fd) (T : Bt mg) (O_law_common : Own3 P w K mg base 1 "_law_common" ["_law_one", "_law_other"] spDivisor) : FnOk P w K mg base (CX1 P w) 2 f fd ["_law_top", "_law_bottom"] (lsp K spPlace) := by
  refine ok3 F scLPlace (fun δ Q Z h => ln_ii h) fun cdv A outer s H E hr => ?_
  have nd := scLPlace.nd
  refine ⟨_, (b_cons (s_set 2 (by exact nd) rfl (Or.inl rfl) (e_call O_law_common Fr.pass_on hr rfl (a_cons (dv 0) (a_cons (dv 1) a_nil Fr.star_name) Fr.star_name))) (b_cons (s_if (W3.toC (w_or (c_cmp op_lt r_lt (dv 1) d_int (nomark _)) (w_or1 (W3.toC (w_and (c_cmp op_eq r_eq (dv 1) d_int (nomark _)) (w_and1 (c_cmp op_lt r_lt (dv 0) d_int (nomark _)))))))) (b_one (s_set 2 (by exact nd) rfl (Or.inl rfl) (D3.toE (d_op op_sub r_sub d_int (dv 2))))) b_nil) (b_one (s_ret (D3.toE (d_tup (a_cons (d_op Fr.op_fdivZ r_fdivZ (dv 0) (dv 2)) (a_cons (d_op Fr.op_fdivZ r_fdivZ (dv 1) (dv 2)) a_nil Fr.star_bin) Fr.star_bin))))))), fun δ Q Z h => ?_⟩
  obtain ⟨t, b, rfl, ⟨h1, h2, h3, h4⟩, k⟩ := iv_ii h
  walk_at "w"
  refine brd (fun c => absurd c (by omega)) (fun _ => ?_)
  walk_at "w"
  refine brd (fun c => ?_) (fun c => ?_)
  · walk_at "w"
    refine brd (fun c2 => ?_) (fun c2 => ?_)
    · obtain ⟨d1, d2⟩ := place_ok h1 h2 h3 h4 (c := 0 - (Int.gcd t b : Int)) (by rw [if_pos ⟨c, c2⟩])
      walk_at "w"
      refine ⟨d1, ?_⟩
      walk_at "w"
      exact ⟨d1, k _ _ d2 none⟩
    · obtain ⟨d1, d2⟩ := place_ok h1 h2 h3 h4 (c := (Int.gcd t b : Int)) (by rw [if_neg fun z => c2 z.2])
      walk_at "w"
      refine ⟨d1, ?_⟩
      walk_at "w"
      exact ⟨d1, k _ _ d2 none⟩
  · obtain ⟨d1, d2⟩ := place_ok h1 h2 h3 h4 (c := (Int.gcd t b : Int)) (by rw [if_neg fun z => c z.1])
    walk_at "w"
    refine ⟨d1, ?_⟩
    walk_at "w"
    exact ⟨d1, k _ _ d2 none⟩
abbrev sDrawn : Stmt := top 25
theorem scDrawn : FnScope ["_law_number_here", "_law_base", "_law_top", "_law_bottom"] ["_law_number_here"] (defScope sDrawn) := ⟨rfl, rfl, rfl, by decide +kernel, rfl, by decide +kernel, by decide +kernel⟩
theorem ok_drawn (F : Fun K "_law_drawn_place" "_law_drawn_place" sDrawn f fd) (T : Bt mg) (O_law_place : Own3 P w K mg base 2 "_law_place" ["_law_top", "_law_bottom"] spPlace) : FnOk P w K mg base (CX1 P w) 3 f fd ["_law_number_here"] (lsp K spDrawn) := by
  refine ok3 F scDrawn (fun δ Q Z h => ln_i h) fun cdv A outer s H E hr => ?_
  have nd := scDrawn.nd
  refine ⟨_, (b_cons (s_set 1 (by exact nd) rfl (Or.inl rfl) (D3.toE (d_ixL (E3.toD (e_lst (a_cons d_int (a_cons d_int (a_cons (d_op op_pow r_pow d_int d_int) (a_cons (d_op op_pow r_pow d_int d_int) a_nil Fr.star_bin) Fr.star_bin) Fr.star_const) Fr.star_const))) (d_op op_mod r_mod (dv 0) d_int)))) (b_cons (s_set 0 (by exact nd) rfl (Or.inl rfl) (D3.toE (d_op Fr.op_fdivP r_fdiv (dv 0) d_int))) (b_cons (s_set 2 (by exact nd) rfl (Or.inl rfl) (D3.toE (d_op Fr.op_mulW r_mul (d_op op_mod r_mod (dv 0) (dv 1)) (d_op op_sub r_sub d_int (d_op Fr.op_mulW r_mul d_int (d_op op_mod r_mod (d_op Fr.op_fdivP r_fdiv (dv 0) (dv 1)) d_int)))))) (b_cons (s_set 3 (by exact nd) rfl (Or.inl rfl) (D3.toE (d_op op_mod r_mod (d_op Fr.op_fdivP r_fdiv (dv 0) (d_op Fr.op_mulW r_mul d_int (dv 1))) (dv 1)))) (b_cons (s_if (W3.toC (w_and (c_cmp op_eq r_eq (dv 2) d_int (nomark _)) (w_and1 (c_cmp op_eq r_eq (dv 3) d_int (nomark _))))) (b_one (s_ret (D3.toE (d_tup (a_cons d_int (a_cons d_int a_nil Fr.star_const) Fr.star_const))))) b_nil) (b_one (s_ret (e_call O_law_place Fr.pass_on hr rfl (a_cons (dv 2) (a_cons (dv 3) a_nil Fr.star_name) Fr.star_name))))))))), fun δ Q Z h => ?_⟩
  obtain ⟨n, rfl, n0, k⟩ := iv_i h
  have P9 : (10 : Int) ^ (9 : Int).toNat = 1000000000 := by decide
  have P30 : (10 : Int) ^ (30 : Int).toNat = 1000000000000000000000000000000 := by decide
  walk_at "w"
  refine ⟨⟨by decide, by decide, by decide⟩, ?_⟩
  walk_at "w"
  refine ⟨⟨by decide, by decide, by decide⟩, ?_⟩
  walk_at "w"
  refine ⟨(by show (0 : Int) < 4; decide), ?_⟩
  walk_at "w"
  have key : ∃ B : Int, 1 ≤ B ∧ B ≤ 1000000000000000000000000000000 ∧ atI [D.int 4, D.int 30, D.int ((10 : Int) ^ (9 : Int).toNat), D.int ((10 : Int) ^ (30 : Int).toNat)] (n % 4) = some (.int B) := by
    rcases (show n % 4 = 0 ∨ n % 4 = 1 ∨ n % 4 = 2 ∨ n % 4 = 3 by omega) with e | e | e | e
    · exact ⟨4, by decide, by decide, by rw [e]; rfl⟩
    · exact ⟨30, by decide, by decide, by rw [e]; rfl⟩
    · exact ⟨(10 : Int) ^ (9 : Int).toNat, by decide, by decide, by rw [e]; rfl⟩
    · exact ⟨(10 : Int) ^ (30 : Int).toNat, by decide, by decide, by rw [e]; rfl⟩
  obtain ⟨B, b1, b2, eB⟩ := key
  refine ⟨.int B, eB, ?_⟩
  have B250 : B < 2 ^ 250 := Int.lt_of_le_of_lt b2 (by decide)
  walk_at "w"
  refine ⟨⟨by decide, by decide⟩, ?_⟩
  have m0 : 0 ≤ n / 4 := by omega
  have a1 := Int.emod_nonneg (n / 4) (show B ≠ 0 by omega)
  have a2 := Int.emod_lt_of_pos (n / 4) (show 0 < B by omega)
  have a3 := Int.emod_nonneg (n / 4 / (2 * B)) (show B ≠ 0 by omega)
  have a4 := Int.emod_lt_of_pos (n / 4 / (2 * B)) (show 0 < B by omega)
  walk_at "w"
  refine ⟨(by show (0 : Int) < B; omega), ?_⟩
  walk_at "w"
  refine ⟨⟨by omega, B250⟩, ?_⟩
  walk_at "w"
  refine ⟨(by show (0 : Int) < 2; decide), ?_⟩
  have r2 := Int.emod_nonneg (n / 4 / B) (show (2 : Int) ≠ 0 by decide)
  have r3 := Int.emod_lt_of_pos (n / 4 / B) (show (0 : Int) < 2 by decide)
  walk_at "w"
  refine ⟨⟨fitI (by decide), fitI (by omega)⟩, ?_⟩
  walk_at "w"
  refine ⟨⟨fit30 (by omega), fitI (by omega)⟩, ?_⟩
  walk_at "w"
  refine ⟨⟨fitI (by decide), fit30 (by omega)⟩, ?_⟩
  walk_at "w"
  refine ⟨⟨by omega, Int.lt_of_le_of_lt (show 2 * B ≤ 2000000000000000000000000000000 by omega) (by decide)⟩, ?_⟩
  walk_at "w"
  refine ⟨(by show (0 : Int) < B; omega), ?_⟩
  have t1 : (n / 4 % B * (1 - 2 * (n / 4 / B % 2))).natAbs < 10 ^ 30 := by
    have e30 : (10 : Nat) ^ 30 = 1000000000000000000000000000000 := by decide
    rcases (show n / 4 / B % 2 = 0 ∨ n / 4 / B % 2 = 1 by omega) with e | e
    · rw [e]
      omega
    · rw [e]
      omega
  have t2 : (n / 4 / (2 * B) % B).natAbs < 10 ^ 30 := by
    have e30 : (10 : Nat) ^ 30 = 1000000000000000000000000000000 := by decide
    omega
  walk_at "w"
  refine brd (fun c => ?_) (fun c => ?_)
  · walk_at "w"
    refine brd (fun c2 => ?_) (fun c2 => ?_)
    · exact k 1 0 (by unfold PlOk; decide) none
    · walk_at "w"
      exact ⟨⟨fun z => c2 z.2, a3, t1, t2⟩, fun p q h ob => k p q h none⟩
  · walk_at "w"
    exact ⟨⟨fun z => c z.1, a3, t1, t2⟩, fun p q h ob => k p q h none⟩
end
end Fr

set_option Elab.async false
set_option linter.all false
set_option maxRecDepth 100000
set_option maxHeartbeats 1000000
/-! Texts with a sign between: parted to what they were joined of. -/
namespace Fr
open PySem L3
theorem join_cons (c : Nat) (x y : Str) (r : List Str) : (Str.join ⟨#[c]⟩ (x :: y :: r)).cps.toList = x.cps.toList ++ c :: (Str.join ⟨#[c]⟩ (y :: r)).cps.toList := by
  show (x.cps ++ #[c] ++ (Str.join ⟨#[c]⟩ (y :: r)).cps).toList = _
  simp
theorem join_inj {c : Nat} : ∀ {l m : List Str}, l ≠ [] → m ≠ [] → (∀ p ∈ l, c ∉ p.cps.toList) → (∀ p ∈ m, c ∉ p.cps.toList) → Str.join ⟨#[c]⟩ l = Str.join ⟨#[c]⟩ m → l = m
  | [], _, h, _, _, _, _ => absurd rfl h
  | _, [], _, h, _, _, _ => absurd rfl h
  | [x], [y], _, _, _, _, e => by
    have e' : x = y := e
    rw [e']
  | [x], y :: z :: r, _, _, h1, _, e => by
    have e2 := join_cons c y z r
    rw [← e] at e2
    have : c ∈ (Str.join ⟨#[c]⟩ [x]).cps.toList := by rw [e2]; simp
    exact absurd this (h1 x (by simp))
  | x :: w :: q, [y], _, _, _, h2, e => by
    have e2 := join_cons c x w q
    rw [e] at e2
    have : c ∈ (Str.join ⟨#[c]⟩ [y]).cps.toList := by rw [e2]; simp
    exact absurd this (h2 y (by simp))
  | x :: w :: q, y :: z :: r, _, _, h1, h2, e => by
    have e1 := join_cons c x w q
    have e2 := join_cons c y z r
    rw [e, e2] at e1
    obtain ⟨a, b⟩ := sep_inj e1 (h2 y (by simp)) (h1 x (by simp))
    have := join_inj (l := w :: q) (m := z :: r) (by simp) (by simp) (fun p hp => h1 p (List.mem_cons_of_mem _ hp)) (fun p hp => h2 p (List.mem_cons_of_mem _ hp)) (str_ext b.symm)
    rw [str_ext a, this]
theorem split_ne (x y : Str) : Txt.split x y ≠ [] := by
  unfold Txt.split
  split
  · simp
  · split
    · simp
    · intro z
      have := congrArg List.length z
      rw [length_partsBetween] at this
      simp at this
theorem split_join {c : Nat} {ts : List Str} (ne : ts ≠ []) (h : ∀ p ∈ ts, c ∉ p.cps.toList) : Txt.split (Txt.join ⟨#[c]⟩ ts) ⟨#[c]⟩ = ts := by
  have e : Txt.join ⟨#[c]⟩ ts = Str.join ⟨#[c]⟩ ts := StrLaws.glued_eq_join _ _
  rw [e]
  exact join_inj (split_ne _ _) ne (StrLaws.split_free _ c) h (StrLaws.join_split _ _)
theorem sp32 : (Str.ofString " ") = ⟨#[32]⟩ := by decide +kernel
theorem plT_free {p q : Int} {c : Nat} (h1 : c ≠ 45) (h2 : c < 47 ∨ 57 < c) : c ∉ (plT p q).cps.toList := by
  unfold plT
  rw [slash]
  show c ∉ ((shw p).cps ++ #[47] ++ (shw q).cps).toList
  intro h
  simp only [Array.toList_append, List.mem_append, List.mem_singleton] at h
  rcases h with (h | h) | h
  · exact shw_free p h1 (by omega) h
  · omega
  · exact shw_free q h1 (by omega) h
/-- a walk -/
def WkOk (w : List (Int × Int)) : Prop := (2 ≤ w.length ∧ w.length ≤ 12) ∧ ∀ t ∈ w, PlOk t.1 t.2
def plD (t : Int × Int) : D := .tup [.int t.1, .int t.2]
def wkD (w : List (Int × Int)) : List D := w.map plD
def wkS (w : List (Int × Int)) : List Str := w.map fun t => plT t.1 t.2
def wkT (w : List (Int × Int)) : Str := Txt.join (Str.ofString " ") (wkS w)
theorem wk_split {w : List (Int × Int)} (h : WkOk w) : Txt.split (wkT w) (Str.ofString " ") = wkS w := by
  unfold wkT
  rw [sp32]
  refine split_join ?_ fun p hp => ?_
  · intro z
    have h1 := congrArg List.length z
    unfold wkS at h1
    rw [List.length_map, List.length_nil] at h1
    have h2 := h.1.1
    omega
  · unfold wkS at hp
    obtain ⟨t, _, rfl⟩ := List.mem_map.mp hp
    exact plT_free (by decide) (by decide)
theorem fold_le {k : Nat} : ∀ (ts : List Str) (a : Nat), (∀ t ∈ ts, t.length ≤ 100) → ts.foldl (fun n t => n + t.length + k) a ≤ a + ts.length * (100 + k)
  | [], a, _ => by simp
  | t :: ts, a, h => by
    have h1 := fold_le (k := k) ts (a + t.length + k) fun x hx => h x (List.mem_cons_of_mem _ hx)
    have h2 := h t List.mem_cons_self
    rw [List.foldl_cons, List.length_cons, Nat.succ_mul]
    omega
theorem join_ok {ts : List Str} (hl : ts.length ≤ 100) (h : ∀ t ∈ ts, t.length ≤ 100) : JoinOk (Str.ofString " ") ts = true := by
  unfold JoinOk
  rw [Bool.not_eq_true']
  unfold Builtin.Str.tooLong
  rw [decide_eq_false_iff_not]
  have e1 : (Str.ofString " ").length = 1 := by decide +kernel
  rw [e1]
  have := fold_le (k := 1) ts 0 h
  rw [List.foldl_toArray]
  rw [sizeLine_eq]
  have h2 : ts.length * (100 + 1) ≤ 100 * 101 := Nat.mul_le_mul_right _ hl
  omega
theorem wkS_len {w : List (Int × Int)} (h : WkOk w) : ∀ t ∈ wkS w, t.length ≤ 100 := fun t ht => by
  unfold wkS at ht
  obtain ⟨x, hx, rfl⟩ := List.mem_map.mp ht
  exact plT_len (h.2 x hx).2.2.2.1 (h.2 x hx).2.2.2.2
theorem wkT_len {w : List (Int × Int)} (h : WkOk w) : (wkT w).length ≤ 100000 := by
  have e : wkT w = Str.join (Str.ofString " ") (wkS w) := StrLaws.glued_eq_join _ _
  rw [e]
  have h1 := StrLaws.join_length_le (Str.ofString " ") (wkS w)
  have e1 : (Str.ofString " ").length = 1 := by decide +kernel
  rw [e1] at h1
  have hl : (wkS w).length ≤ 12 := by unfold wkS; rw [List.length_map]; exact h.1.2
  have sm : ∀ ts : List Str, (∀ t ∈ ts, t.length ≤ 100) → (ts.map (·.length)).sum ≤ ts.length * 100 := fun ts => by
    induction ts with
    | nil => intro _; simp
    | cons t ts ih =>
      intro hh
      have a := ih fun x hx => hh x (List.mem_cons_of_mem _ hx)
      have b := hh t List.mem_cons_self
      rw [List.map_cons, List.sum_cons, List.length_cons, Nat.succ_mul]
      omega
  have h2 := sm _ (wkS_len h)
  have h3 : (wkS w).length * 100 ≤ 12 * 100 := Nat.mul_le_mul_right _ hl
  omega
theorem ok_join {s : Str} (hs : PyData.strOk s = true) : ∀ ts : List Str, (∀ t ∈ ts, PyData.strOk t = true) → PyData.strOk (Str.join s ts) = true
  | [], _ => by show PyData.strOk Str.empty = true; decide +kernel
  | [x], h => h x (by simp)
  | x :: y :: r, h => by
    show PyData.strOk (x ++ s ++ Str.join s (y :: r)) = true
    exact ok_app (ok_app (h x (by simp)) hs) (ok_join hs (y :: r) fun t ht => h t (List.mem_cons_of_mem _ ht))
theorem ok_wkT (w : List (Int × Int)) : PyData.strOk (wkT w) = true := by
  have e : wkT w = Str.join (Str.ofString " ") (wkS w) := StrLaws.glued_eq_join _ _
  rw [e]
  refine ok_join (by decide +kernel) _ fun t ht => ?_
  unfold wkS at ht
  obtain ⟨x, hx, rfl⟩ := List.mem_map.mp ht
  exact ok_plT _ _
theorem can_wk (w : List (Int × Int)) : CanEq (.lst (wkD w)) := canEq_lst (f := 1) (fun x hx => by
  unfold wkD at hx
  obtain ⟨t, _, rfl⟩ := List.mem_map.mp hx
  exact lay_pair t.1 t.2) (by decide)
theorem eq_wk (w : List (Int × Int)) : PyData.eqv (D.lst (wkD w)).py (D.lst (wkD w)).py = true := by
  have pl : plain (.lst (wkD w)) = true := by
    show plains (wkD w) = true
    exact plains_of fun x hx => by
      unfold wkD at hx
      obtain ⟨t, _, rfl⟩ := List.mem_map.mp hx
      exact plain_pair _ _
  exact (eqv_plain _ _ pl pl).mpr rfl
/-- a place shown, a text read -/
def shD : D → D
  | .tup [.int p, .int q] => .str (plT p q)
  | _ => .non
def rd2 : List Str → D
  | [a, b] => .tup [.int ((intText? a).getD 0), .int ((intText? b).getD 0)]
  | _ => .non
def rdD : D → D
  | .str s => rd2 (Txt.split s (Str.ofString "/"))
  | _ => .non
theorem sh_map (w : List (Int × Int)) : (wkD w).map shD = (wkS w).map D.str := by
  unfold wkD wkS
  rw [List.map_map, List.map_map]
  rfl
theorem rd_pl {p q : Int} (ok : PlOk p q) : rdD (.str (plT p q)) = .tup [.int p, .int q] := by
  show rd2 (Txt.split (plT p q) (Str.ofString "/")) = _
  rw [plT_split]
  show D.tup [.int ((intText? (shw p)).getD 0), .int ((intText? (shw q)).getD 0)] = _
  rw [shw_reads ok.2.2.2.1 (by decide) (by decide), shw_reads ok.2.2.2.2 (by decide) (by decide)]
  rfl
theorem rd_map {w : List (Int × Int)} (h : WkOk w) : ((wkS w).map D.str).map rdD = wkD w := by
  unfold wkD wkS
  rw [List.map_map, List.map_map]
  exact List.map_congr_left fun t ht => rd_pl (h.2 t ht)
end Fr

set_option Elab.async false
set_option linter.all false
set_option maxRecDepth 100000
set_option maxHeartbeats 1000000
namespace Fr
open PySem L2 L3
local macro_rules | `(tactic| walk_at "w") => `(tactic| conv => whnf)
local macro_rules | `(tactic| walk_at "v") => `(tactic| ((conv => whnf); repeat ((refine ⟨_, rfl, ?_⟩); (conv => whnf))))
local macro_rules | `(tactic| walk_at "m") => `(tactic| ((repeat ((conv => whnf); (refine ⟨⟨by assumption, by assumption⟩, ?_⟩))); (conv => whnf)))
def spShowW : Sp3 := fun δ Q _ => match δ with
  | [.d (.lst xs)] => ∃ w, xs = wkD w ∧ WkOk w ∧ ∀ ob, Q (.d (.str (wkT w))) ob
  | _ => False
def spReadW : Sp3 := fun δ Q _ => match δ with
  | [.d (.str x)] => ∃ w, x = wkT w ∧ WkOk w ∧ ∀ ob, Q (.own (.lst (wkD w))) ob
  | _ => False
def spWalk : Sp3 := fun δ Q _ => match δ with
  | [.d (.scr ns), .d (.int k)] => (0 ≤ k ∧ k < 100) ∧ ∀ w, WkOk w → ∀ ob, Q (.own (.lst (wkD w))) ob
  | _ => False
def spRightW : Sp3 := fun δ Q _ => match δ with
  | [.d (.lst xs)] => ∃ w, xs = wkD w ∧ WkOk w ∧ ∀ ob, Q (.d (.bl true)) ob
  | _ => False
section
variable {P : Program} {w : World} {K : PySem.W.Frag} {mg : Str → Option Value} {base : Heap} {f : Addr} {fd : FuncData}
abbrev sShowW : Stmt := top 16
theorem scShowW : FnScope ["walk"] ["walk"] (defScope sShowW) := ⟨rfl, rfl, rfl, by decide +kernel, rfl, by decide +kernel, by decide +kernel⟩
theorem ok_showW (F : Fun K "show_walk" "show_walk" sShowW f fd) (T : Bt mg) (Oshow_place : Own3 P w K mg base 1 "show_place" ["place"] spShow) : FnOk P w K mg base (CX1 P w) 2 f fd ["walk"] (lsp K spShowW) := by
  refine ok3 F scShowW (fun δ Q Z h => match δ, h with | [.d (.lst xs)], _ => rfl) fun cdv A outer s H E hr => ?_
  have nd := scShowW.nd
  have hu := units1 hr
  refine ⟨_, (b_one (s_ret (D3.toE (d_join d_str (E3.toD (e_comp rfl (ic_listN 0) (Fr.frokV (xs := ["place"]) (fr := []) (sc := defScope sShowW) (N := ["walk"]) rfl rfl (by decide +kernel)) (fun _ _ _ _ => (g_name 0 (show List.Nodup [("place" : Str)] by decide +kernel) rfl (Or.inl rfl))) (fun _ _ _ _ => p_st0 rfl (e_call Oshow_place Fr.pass1 hr rfl (a_cons (dv 0) a_nil Fr.star_name))))))))), fun δ Q Z h => ?_⟩
  match δ, h with
  | [.d (.lst xs)], ⟨w, hx, hw, k⟩ =>
    subst hx
    have hl : (wkD w).length ≤ 12 := by unfold wkD; rw [List.length_map]; exact hw.1.2
    have hl2 : (wkS w).length ≤ 100 := by unfold wkS; rw [List.length_map]; exact Nat.le_trans hw.1.2 (by decide)
    walk_at "w"
    refine ⟨by omega, compL_map (l := []) rfl shD (fun x hx P p => ?_) ?_⟩
    · unfold wkD at hx
      obtain ⟨t, ht, rfl⟩ := List.mem_map.mp hx
      walk_at "w"
      exact ⟨hw.2 t ht, fun ob => p⟩
    rw [sh_map]
    walk_at "v"
    exact ⟨join_ok hl2 (wkS_len hw), k _⟩
abbrev sReadW : Stmt := top 18
theorem scReadW : FnScope ["text", "words"] ["text"] (defScope sReadW) := ⟨rfl, rfl, rfl, by decide +kernel, rfl, by decide +kernel, by decide +kernel⟩
theorem ok_readW {gT : Addr} {t2 t12 : Tok} (F : Fun K "read_walk" "read_walk" sReadW f fd) (T : Bt mg) (mI_LEAST_PLACES : mg "LEAST_PLACES" = some (.int 2 t2)) (mI_MOST_PLACES : mg "MOST_PLACES" = some (.int 12 t12)) (m_NoText : mg "NoText" = some (.ref gT)) (q_NoText : PySem.W.excIn K gT bmVE "ValueError.__new__" = true) (Oread_place : Own3 P w K mg base 4 "read_place" ["text"] spRead) : FnOk P w K mg base (CX1 P w) 5 f fd ["text"] (lsp K spReadW) := by
  refine ok3 F scReadW (fun δ Q Z h => match δ, h with | [.d (.str x)], _ => rfl) fun cdv A outer s H E hr => ?_
  have nd := scReadW.nd
  have hu := units1 hr
  refine ⟨_, (b_cons (s_if (c_not (c_val (d_isiN 0 rfl T.isinstance rfl T.str PyProof.Rows.boot_str))) (b_one (s_raise rfl m_NoText q_NoText (a_cons d_str a_nil Fr.star_const))) b_nil) (b_cons (s_set 1 (by exact nd) rfl (Or.inl rfl) (e_split (dv 0) d_str (hs := Fr.star_const))) (b_cons (s_if (W3.toC (w_or (c_cmp op_lt r_lt (d_lenN 1 rfl T.len) (d_globI rfl mI_LEAST_PLACES) (nomark _)) (w_or1 (c_cmp op_gt r_gt (d_lenN 1 rfl T.len) (d_globI rfl mI_MOST_PLACES) (nomark _))))) (b_one (s_raise rfl m_NoText q_NoText (a_cons d_str a_nil Fr.star_const))) b_nil) (b_one (s_ret (e_comp rfl (ic_listN 1) (Fr.frokV (xs := ["word"]) (fr := []) (sc := defScope sReadW) (N := ["text", "words"]) rfl rfl (by decide +kernel)) (fun _ _ _ _ => (g_name 0 (show List.Nodup [("word" : Str)] by decide +kernel) rfl (Or.inl rfl))) (fun _ _ _ _ => p_st0 rfl (e_call Oread_place Fr.pass1 hr rfl (a_cons (dv 0) a_nil Fr.star_name))))))))), fun δ Q Z h => ?_⟩
  match δ, h with
  | [.d (.str x)], ⟨w, hx, hw, k⟩ =>
    subst hx
    have hl : ((wkS w).map D.str).length = w.length := by unfold wkS; rw [List.length_map, List.length_map]
    have hn := hw.1
    walk_at "w"
    refine ⟨by decide +kernel, wkT_len hw, ?_⟩
    rw [wk_split hw]
    walk_at "w"
    refine brd (fun c => absurd c (by omega)) (fun _ => ?_)
    walk_at "w"
    refine brd (fun c => absurd c (by omega)) (fun _ => ?_)
    walk_at "w"
    refine ⟨by omega, compL_map (l := []) rfl rdD (fun x hx P p => ?_) ?_⟩
    · obtain ⟨y, hy, rfl⟩ := List.mem_map.mp hx
      unfold wkS at hy
      obtain ⟨t, ht, rfl⟩ := List.mem_map.mp hy
      rw [rd_pl (hw.2 t ht)] at p
      walk_at "w"
      exact ⟨_, _, rfl, hw.2 t ht, fun ob => p⟩
    rw [rd_map hw]
    exact k _
abbrev sWalk : Stmt := top 26
theorem scWalk : FnScope ["_law_script", "_law_at", "_law_number_here", "_law_many", "_law_walk_here", "_law_k"] ["_law_script", "_law_at"] (defScope sWalk) := ⟨rfl, rfl, rfl, by decide +kernel, rfl, by decide +kernel, by decide +kernel⟩
theorem ok_walk (F : Fun K "_law_walk" "_law_walk" sWalk f fd) (T : Bt mg) (O_law_number : Own3 P w K mg base 4 "_law_number" ["_law_script", "_law_k"] spNumber) (O_law_drawn_place : Own3 P w K mg base 4 "_law_drawn_place" ["_law_number_here"] spDrawn) : FnOk P w K mg base (CX1 P w) 5 f fd ["_law_script", "_law_at"] (lsp K spWalk) := by
  refine ok3 F scWalk (fun δ Q Z h => ln_si h) fun cdv A outer s H E hr => ?_
  have nd := scWalk.nd
  refine ⟨_, (b_cons (s_set 2 (by exact nd) rfl (Or.inl rfl) (e_call O_law_number Fr.pass_on hr rfl (a_cons (dv 0) (a_cons (dv 1) a_nil Fr.star_name) Fr.star_name))) (b_cons (s_set 3 (by exact nd) rfl (Or.inl rfl) (D3.toE (d_op op_add r_add d_int (d_op op_mod r_mod (dv 2) d_int)))) (b_cons (s_set 4 (by exact nd) rfl (Or.inl rfl) (e_lst a_nil)) (b_cons (s_for PassesOwn.leaving rfl (i_range1 rfl T.range (a_cons (dv 3) a_nil Fr.star_name)) (g_name 5 (by exact nd) rfl (Or.inl rfl)) (b_one (s_append 4 (E3.toD (e_call O_law_drawn_place Fr.pass_on hr rfl (a_cons (d_op op_add r_add (d_op Fr.op_fdivP r_fdiv (d_op Fr.op_fdivP r_fdiv (dv 2) d_int) (d_ixL (E3.toD (e_lst (a_cons d_int (a_cons d_int (a_cons d_int (a_cons d_int a_nil Fr.star_const) Fr.star_const) Fr.star_const) Fr.star_const))) (d_op op_mod r_mod (dv 5) d_int))) (d_op Fr.op_mulW r_mul (d_op Fr.op_mulW r_mul (dv 5) (dv 5)) d_int)) a_nil Fr.star_bin)))))) (b_one (s_ret (e_move 4))))))), fun δ Q Z h => ?_⟩
  obtain ⟨ns, k, rfl, ⟨k0, k1⟩, q⟩ := iv_si h
  walk_at "w"
  refine ⟨⟨k0, k1⟩, fun x x0 ob => ?_⟩
  walk_at "w"
  refine ⟨(by show (0 : Int) < 11; decide), ?_⟩
  have a1 := Int.emod_nonneg x (show (11 : Int) ≠ 0 by decide)
  have a2 := Int.emod_lt_of_pos x (show (0 : Int) < 11 by decide)
  walk_at "w"
  refine ⟨⟨by omega, by omega⟩, ?_⟩
  refine forL_range (fun i δ => ∃ (s5 : Sl) (w : List (Int × Int)), δ = [.d (.scr ns), .d (.int k), .d (.int x), .d (.int (2 + x % 11)), .own (.lst (wkD w)), s5] ∧ w.length = i ∧ ∀ t ∈ w, PlOk t.1 t.2) ⟨.un, [], rfl, rfl, fun _ h => by cases h⟩ ?_ ?_
  · rintro i δ N hi ⟨s5, w, rfl, hl, hw⟩ hN
    have hi2 : i < 12 := by omega
    have key : ∃ d : Int, (0 < d ∧ d < 2 ^ 250) ∧ atI [D.int 1, D.int 61, D.int 3721, D.int 226981] ((0 + (i : Int)) % 4) = some (.int d) := by
      have e0 : (0 + (i : Int)) % 4 = 0 ∨ (0 + (i : Int)) % 4 = 1 ∨ (0 + (i : Int)) % 4 = 2 ∨ (0 + (i : Int)) % 4 = 3 := by omega
      rcases e0 with e | e | e | e
      · exact ⟨1, by decide, by rw [e]; rfl⟩
      · exact ⟨61, by decide, by rw [e]; rfl⟩
      · exact ⟨3721, by decide, by rw [e]; rfl⟩
      · exact ⟨226981, by decide, by rw [e]; rfl⟩
    obtain ⟨d, d0, ed⟩ := key
    have kk0 : 0 ≤ (0 + (i : Int)) * (0 + (i : Int)) := Int.mul_nonneg (by omega) (by omega)
    have kk1 : (0 + (i : Int)) * (0 + (i : Int)) ≤ 12 * 12 := Int.mul_le_mul (by omega) (by omega) (by omega) (by omega)
    have x1 : 0 ≤ x / 11 / d := Int.ediv_nonneg (by omega) (by omega)
    walk_at "w"
    refine ⟨⟨by decide, by decide⟩, ?_⟩
    walk_at "w"
    refine ⟨(by show (0 : Int) < 4; decide), ?_⟩
    walk_at "w"
    refine ⟨_, ed, ?_⟩
    walk_at "w"
    refine ⟨d0, ?_⟩
    walk_at "w"
    refine ⟨⟨fitI (by omega), fitI (by omega)⟩, ?_⟩
    walk_at "w"
    refine ⟨⟨fitI (by omega), fitI (by decide)⟩, ?_⟩
    walk_at "w"
    refine ⟨(by show 0 ≤ x / 11 / d + (0 + (i : Int)) * (0 + (i : Int)) * 104729; omega), fun p q ok ob => ?_⟩
    walk_at "w"
    refine ⟨by unfold wkD; rw [List.length_map]; omega, hN _ ⟨_, w ++ [(p, q)], (by unfold wkD; rw [List.map_append]; rfl), by rw [List.length_append, hl]; rfl, fun t ht => ?_⟩⟩
    rcases List.mem_append.mp ht with ht | ht
    · exact hw t ht
    · rw [List.mem_singleton.mp ht]
      exact ok
  · rintro δ ⟨s5, w, rfl, hl, hw⟩
    exact q w ⟨by omega, hw⟩ _
end
end Fr

set_option Elab.async false
set_option linter.all false
set_option maxRecDepth 100000
set_option maxHeartbeats 1000000
namespace Fr
open PySem L2 L3
local macro_rules | `(tactic| walk_at "w") => `(tactic| conv => whnf)
local macro_rules | `(tactic| walk_at "v") => `(tactic| ((conv => whnf); repeat ((refine ⟨_, rfl, ?_⟩); (conv => whnf))))
local macro_rules | `(tactic| walk_at "m") => `(tactic| ((repeat ((conv => whnf); (refine ⟨⟨by assumption, by assumption⟩, ?_⟩))); (conv => whnf)))
section
variable {P : Program} {w : World} {K : PySem.W.Frag} {mg : Str → Option Value} {base : Heap} {f : Addr} {fd : FuncData}
abbrev sRight : Stmt := top 27
theorem scRight : FnScope ["_law_walk_here", "_law_handed", "_law_text", "_law_due", "_law_turn", "_law_told"] ["_law_walk_here"] (defScope sRight) := ⟨rfl, rfl, rfl, by decide +kernel, rfl, by decide +kernel, by decide +kernel⟩
theorem ok_right (F : Fun K "_law_right" "_law_right" sRight f fd) (T : Bt mg) (Oshow_walk : Own3 P w K mg base 5 "show_walk" ["walk"] spShowW) (Oread_walk : Own3 P w K mg base 5 "read_walk" ["text"] spReadW) (O_law_whole : Own3 P w K mg base 5 "_law_whole" ["_law_thing"] spWhole) : FnOk P w K mg base (CX1 P w) 6 f fd ["_law_walk_here"] (lsp K spRightW) := by
  refine ok3 F scRight (fun δ Q Z h => match δ, h with | [.d (.lst xs)], _ => rfl) fun cdv A outer s H E hr => ?_
  have nd := scRight.nd
  have hu := units1 hr
  refine ⟨_, (b_cons (s_set 1 (by exact nd) rfl (Or.inl rfl) (e_callTyN call_list_of n_list rfl T.list PyProof.Rows.boot_list (a_cons (dv 0) a_nil Fr.star_name))) (b_cons (s_set 2 (by exact nd) rfl (Or.inl rfl) (e_call Oshow_walk Fr.pass_on hr rfl (a_cons (dv 1) a_nil Fr.star_name))) (b_cons (s_set 3 (by exact nd) rfl (Or.inl rfl) (D3.toE (d_join d_str (E3.toD (e_comp rfl (ic_listN 0) (Fr.frokV (xs := ["_law_top", "_law_bottom"]) (fr := []) (sc := defScope sRight) (N := ["_law_walk_here", "_law_handed", "_law_text", "_law_due", "_law_turn", "_law_told"]) rfl rfl (by decide +kernel)) (fun _ _ _ _ => (g_tup (n := 2) rfl (gs_cons (g_name 0 (show List.Nodup [("_law_top" : Str), ("_law_bottom" : Str)] by decide +kernel) rfl (Or.inl rfl)) (gs_cons (g_name 1 (show List.Nodup [("_law_top" : Str), ("_law_bottom" : Str)] by decide +kernel) rfl (Or.inl rfl)) gs_nil)))) (fun _ _ _ _ => p_st0 rfl (D3.toE (d_op op_add_str r_addS (d_op op_add_str r_addS (d_callTy call_str_int cr_strI rfl T.str PyProof.Rows.boot_str (a_cons (dv 0) a_nil Fr.star_name)) d_str) (d_callTy call_str_int cr_strI rfl T.str PyProof.Rows.boot_str (a_cons (dv 1) a_nil Fr.star_name)))))))))) (b_cons (s_if (W3.toC (w_or (c_cmpP 1 0 Fr.op_neD (r_neD hr) (nomark _)) (w_or (c_not (c_val (d_isiN 2 rfl T.isinstance rfl T.str PyProof.Rows.boot_str))) (w_or1 (c_cmp Fr.op_neD (r_neD hr) (dv 2) (dv 3) (nomark _)))))) (b_one (s_ret (D3.toE d_bl))) b_nil) (b_cons (s_for PassesOwn.leaving rfl (i_range1 rfl T.range (a_cons d_int a_nil Fr.star_const)) (g_name 4 (by exact nd) rfl (Or.inl rfl)) (b_cons (s_set 5 (by exact nd) rfl (Or.inl rfl) (e_call Oread_walk Fr.pass_on hr rfl (a_cons (dv 2) a_nil Fr.star_name))) (b_cons (s_if (W3.toC (w_or (c_not (c_val (d_isiN 5 rfl T.isinstance rfl T.list PyProof.Rows.boot_list))) (w_or1 (c_cmpP 5 0 Fr.op_neD (r_neD hr) (nomark _))))) (b_one (s_ret (D3.toE d_bl))) b_nil) (b_cons (s_if (c_not (c_val (d_callB (Fr.call_allB rfl) cr_allB rfl T.all PyProof.Rows.boot_all (a_cons (E3.toD (e_comp rfl (ic_listN 5) (Fr.frokV (xs := ["_law_one"]) (fr := []) (sc := defScope sRight) (N := ["_law_walk_here", "_law_handed", "_law_text", "_law_due", "_law_turn", "_law_told"]) rfl rfl (by decide +kernel)) (fun _ _ _ _ => (g_name 0 (show List.Nodup [("_law_one" : Str)] by decide +kernel) rfl (Or.inl rfl))) (fun _ _ _ _ => p_st0 rfl (D3.toE (d_and (d_isiN 0 rfl T.isinstance rfl T.tuple PyProof.Rows.boot_tuple) (d_and (E3.toD (e_call O_law_whole Fr.pass1 hr rfl (a_cons (d_ixT (dv 0) d_int) a_nil))) (d_one (E3.toD (e_call O_law_whole Fr.pass1 hr rfl (a_cons (d_ixT (dv 0) d_int) a_nil)))))))))) a_nil)))) (b_one (s_ret (D3.toE d_bl))) b_nil) (b_one (s_append 5 (d_tup (a_cons d_int (a_cons d_int a_nil Fr.star_const) Fr.star_const)))))))) (b_one (s_ret (D3.toE d_bl)))))))), fun δ Q Z h => ?_⟩
  match δ, h with
  | [.d (.lst xs)], ⟨w, hx, hw, k⟩ =>
    subst hx
    walk_at "w"
    refine ⟨w, rfl, hw, fun ob => ?_⟩
    have hl : (wkD w).length ≤ 12 := by unfold wkD; rw [List.length_map]; exact hw.1.2
    have hl2 : (wkS w).length ≤ 100 := by unfold wkS; rw [List.length_map]; exact Nat.le_trans hw.1.2 (by decide)
    have trues : (wkD w).map (fun _ => D.bl true) = ((wkD w).map fun _ => true).map D.bl := by rw [List.map_map]; rfl
    have alls : ((wkD w).map fun _ => true).all id = true := by rw [List.all_eq_true]; intro x hx; obtain ⟨_, _, rfl⟩ := List.mem_map.mp hx; rfl
    walk_at "w"
    refine ⟨by omega, compL_map2 (l := []) rfl shD (fun x hx => ?_) ?_⟩
    · unfold wkD at hx
      obtain ⟨t, ht, rfl⟩ := List.mem_map.mp hx
      refine ⟨.int t.1, .int t.2, rfl, fun P p => ?_⟩
      have ok := hw.2 t ht
      have l1 := shw_len ok.2.2.2.1 (by decide)
      have l2 := shw_len ok.2.2.2.2 (by decide)
      have ls : (shw t.1 ++ Str.ofString "/").length ≤ 100 := by
        rw [strLen_append]
        have : (Str.ofString "/").length = 1 := by decide +kernel
        omega
      walk_at "w"
      refine ⟨p30 ok.2.2.2.1, ?_⟩
      walk_at "w"
      refine ⟨by omega, by decide +kernel, ?_⟩
      walk_at "w"
      refine ⟨p30 ok.2.2.2.2, ?_⟩
      walk_at "w"
      exact ⟨by omega, by omega, p⟩
    rw [sh_map]
    walk_at "v"
    refine ⟨join_ok hl2 (wkS_len hw), ?_⟩
    walk_at "w"
    refine ⟨⟨can_wk w, can_wk w⟩, true, eq_wk w, ?_⟩
    walk_at "w"
    refine ⟨⟨can_str (ok_wkT w), can_str (ok_wkT w)⟩, true, (by rw [eq_str]; exact decide_eq_true rfl), ?_⟩
    walk_at "w"
    refine ⟨⟨by decide, by decide⟩, ?_⟩
    refine forL_range (fun i δ => ∃ s1 s3 s4 s5 : Sl, δ = [.d (.lst (wkD w)), s1, .d (.str (wkT w)), s3, s4, s5]) ⟨_, _, _, _, rfl⟩ ?_ ?_
    · rintro i δ N hi ⟨s1, s3, s4, s5, rfl⟩ hN
      walk_at "w"
      refine ⟨w, rfl, hw, fun ob => ?_⟩
      walk_at "w"
      refine ⟨⟨can_wk w, can_wk w⟩, true, eq_wk w, ?_⟩
      walk_at "w"
      refine ⟨by omega, compL_map (l := []) rfl (fun _ => .bl true) (fun x hx P p => ?_) ?_⟩
      · unfold wkD at hx
        obtain ⟨t, ht, rfl⟩ := List.mem_map.mp hx
        walk_at "v"
        refine ⟨rfl, ?_⟩
        walk_at "v"
        exact ⟨rfl, p⟩
      walk_at "w"
      refine ⟨_, trues, ?_⟩
      rw [alls]
      walk_at "w"
      exact ⟨by omega, hN _ ⟨_, _, _, _, rfl⟩⟩
    · rintro δ ⟨s1, s3, s4, s5, rfl⟩
      exact k _
abbrev sLaw : Stmt := top 28
theorem scLaw : FnScope ["_law_script", "_law_at"] ["_law_script"] (defScope sLaw) := ⟨rfl, rfl, rfl, by decide +kernel, rfl, by decide +kernel, by decide +kernel⟩
theorem ok_law (F : Fun K "law" "law" sLaw f fd) (T : Bt mg) (O_law_walk : Own3 P w K mg base 6 "_law_walk" ["_law_script", "_law_at"] spWalk) (O_law_right : Own3 P w K mg base 6 "_law_right" ["_law_walk_here"] spRightW) : FnOk P w K mg base (CX1 P w) 7 f fd ["_law_script"] (lsp K sp3Law) := by
  refine ok3 F scLaw (fun δ Q Z h => ln_s h) fun cdv A outer s H E hr => ?_
  have nd := scLaw.nd
  refine ⟨_, (b_cons (s_for PassesOwn.leaving rfl (i_range1 rfl T.range (a_cons (d_callB (call_max2 rfl) cr_two rfl T.max PyProof.Rows.boot_max (a_cons d_int (a_cons (d_callB (call_min2 rfl) cr_two rfl T.min PyProof.Rows.boot_min (a_cons d_int (a_cons (d_callB call_len_seq cr_len rfl T.len PySem.boot_len (a_cons (dv 0) a_nil Fr.star_name)) a_nil Fr.star_call) Fr.star_const)) a_nil Fr.star_call) Fr.star_const)) a_nil Fr.star_call)) (g_name 1 (by exact nd) rfl (Or.inl rfl)) (b_one (s_if (c_not (c_val (E3.toD (e_call O_law_right Fr.pass_on hr rfl (a_cons (E3.toD (e_call O_law_walk Fr.pass_on hr rfl (a_cons (dv 0) (a_cons (dv 1) a_nil Fr.star_name) Fr.star_name))) a_nil Fr.star_call))))) (b_one (s_ret (D3.toE d_bl))) b_nil))) (b_one (s_ret (e_call O_law_right Fr.pass_on hr rfl (a_cons (E3.toD (e_lst (a_cons (d_tup (a_cons d_int (a_cons d_int a_nil Fr.star_const) Fr.star_const)) (a_cons (d_tup (a_cons d_int (a_cons d_int a_nil Fr.star_const) Fr.star_const)) a_nil Fr.star_tup) Fr.star_tup))) a_nil Fr.star_lst))))), fun δ Q Z h => ?_⟩
  obtain ⟨ns, rfl, hn, k⟩ := iv_s h
  walk_at "w"
  have hM : ∃ M : Nat, 2 ≤ M ∧ M ≤ 6 ∧ ((fun (i j : Int) => if j > i then j else i) 2 ((fun (i j : Int) => if j < i then j else i) 6 ↑ns.length)) = (M : Int) := by
    refine ⟨max 2 (min 6 ns.length), by omega, by omega, ?_⟩
    show (if (if (ns.length : Int) < 6 then (ns.length : Int) else 6) > 2 then (if (ns.length : Int) < 6 then (ns.length : Int) else 6) else 2) = _
    split <;> split <;> omega
  obtain ⟨M, m1, m2, eM⟩ := hM
  rw [eM, Int.toNat_natCast]
  refine ⟨⟨by omega, by omega⟩, ?_⟩
  refine forL_range (fun i δ => ∃ (s1 : Sl), δ = [.d (.scr ns), s1]) ⟨.un, rfl⟩ ?_ ?_
  · rintro i δ N hi ⟨s1, rfl⟩ hN
    walk_at "w"
    refine ⟨⟨by omega, by omega⟩, fun w hw ob => ?_⟩
    walk_at "w"
    refine ⟨w, rfl, hw, fun ob2 => ?_⟩
    walk_at "w"
    exact hN _ ⟨_, rfl⟩
  · rintro δ ⟨s1, rfl⟩
    walk_at "w"
    exact ⟨[(1, 0), (1, 0)], rfl, ⟨by decide, fun t ht => by
      have : t = (1, 0) := by simpa using ht
      rw [this]
      unfold PlOk
      decide⟩, fun ob => k _⟩
end
end Fr

set_option Elab.async false
set_option linter.all false
set_option maxRecDepth 100000
set_option maxHeartbeats 8000000
namespace Fr
open PySem L2 L3
theorem all_mk {l : PySem.W.OpenLaw} {w : World} {K : PySem.W.Frag} {h : Heap} {mg : Str → Option Value} {fa f1 f2 f3 f4 f5 f6 f7 f8 f9 f10 f11 f12 f13 f14 f15 f16 f17 f18 : Addr} {od1 an1 od2 an2 od3 an3 od4 an4 od5 an5 od6 an6 od7 an7 od8 an8 od9 an9 od10 an10 od11 an11 od12 an12 od13 an13 od14 an14 od15 an15 od16 an16 od17 an17 od18 an18 : Option Addr} {sl1 sl2 sl3 sl4 sl5 sl6 sl7 sl8 sl9 sl10 sl11 sl12 sl13 sl14 sl15 sl16 sl17 sl18 : Array (Option Value)} {oc1 kV1 dc1 pm1 cd1 ct1 oc2 kV2 dc2 pm2 cd2 ct2 oc3 kV3 dc3 pm3 cd3 ct3 oc4 kV4 dc4 pm4 cd4 ct4 oc5 kV5 dc5 pm5 cd5 ct5 oc6 kV6 dc6 pm6 cd6 ct6 oc7 kV7 dc7 pm7 cd7 ct7 oc8 kV8 dc8 pm8 cd8 ct8 oc9 kV9 dc9 pm9 ct9 oc10 kV10 dc10 pm10 cd10 ct10 oc11 kV11 dc11 pm11 cd11 ct11 oc12 kV12 dc12 pm12 cd12 ct12 oc13 kV13 dc13 pm13 cd13 ct13 oc14 kV14 dc14 pm14 cd14 ct14 oc15 kV15 dc15 pm15 cd15 ct15 oc16 kV16 dc16 pm16 cd16 ct16 oc17 kV17 dc17 pm17 cd17 ct17 oc18 kV18 dc18 pm18 cd18 ct18 : Value} {gT : Addr} {t_MOST_FIGURES t_LEAST_PLACES t_MOST_PLACES : Tok} {t_FIGURES : Tok} {cG TG : Addr} {odG : Option Addr} {vG : Array Value} {slG : Array (Option Value)} (X : K.In h) (G : h.Ns mainGlobals mg) (hfa : mg "law" = some (.ref fa))
    (a1 : PySem.W.nsIn K mainGlobals "_law_cell_at" = some (some (.ref f1)))
    (l1 : K.lookup f1 = some ⟨oc1, od1, .func (PySem.W.fnOf "_law_cell_at" "_law_cell_at" (defArgs sCell) (defBody sCell) (defScope sCell) .none kV1 dc1 pm1 an1 cd1 ct1), sl1⟩)
    (c1 : PySem.W.codeIn K cd1 "_law_cell_at" = true)
    (k1 : PySem.W.keepIn K (.ref f1) = true)
    (a2 : PySem.W.nsIn K mainGlobals "_law_number" = some (some (.ref f2)))
    (l2 : K.lookup f2 = some ⟨oc2, od2, .func (PySem.W.fnOf "_law_number" "_law_number" (defArgs sNumber) (defBody sNumber) (defScope sNumber) .none kV2 dc2 pm2 an2 cd2 ct2), sl2⟩)
    (c2 : PySem.W.codeIn K cd2 "_law_number" = true)
    (k2 : PySem.W.keepIn K (.ref f2) = true)
    (a3 : PySem.W.nsIn K mainGlobals "_law_common" = some (some (.ref f3)))
    (l3 : K.lookup f3 = some ⟨oc3, od3, .func (PySem.W.fnOf "_law_common" "_law_common" (defArgs sLCommon) (defBody sLCommon) (defScope sLCommon) .none kV3 dc3 pm3 an3 cd3 ct3), sl3⟩)
    (c3 : PySem.W.codeIn K cd3 "_law_common" = true)
    (k3 : PySem.W.keepIn K (.ref f3) = true)
    (a4 : PySem.W.nsIn K mainGlobals "_law_place" = some (some (.ref f4)))
    (l4 : K.lookup f4 = some ⟨oc4, od4, .func (PySem.W.fnOf "_law_place" "_law_place" (defArgs sLPlace) (defBody sLPlace) (defScope sLPlace) .none kV4 dc4 pm4 an4 cd4 ct4), sl4⟩)
    (c4 : PySem.W.codeIn K cd4 "_law_place" = true)
    (k4 : PySem.W.keepIn K (.ref f4) = true)
    (a5 : PySem.W.nsIn K mainGlobals "_law_drawn_place" = some (some (.ref f5)))
    (l5 : K.lookup f5 = some ⟨oc5, od5, .func (PySem.W.fnOf "_law_drawn_place" "_law_drawn_place" (defArgs sDrawn) (defBody sDrawn) (defScope sDrawn) .none kV5 dc5 pm5 an5 cd5 ct5), sl5⟩)
    (c5 : PySem.W.codeIn K cd5 "_law_drawn_place" = true)
    (k5 : PySem.W.keepIn K (.ref f5) = true)
    (a6 : PySem.W.nsIn K mainGlobals "_law_walk" = some (some (.ref f6)))
    (l6 : K.lookup f6 = some ⟨oc6, od6, .func (PySem.W.fnOf "_law_walk" "_law_walk" (defArgs sWalk) (defBody sWalk) (defScope sWalk) .none kV6 dc6 pm6 an6 cd6 ct6), sl6⟩)
    (c6 : PySem.W.codeIn K cd6 "_law_walk" = true)
    (k6 : PySem.W.keepIn K (.ref f6) = true)
    (a7 : PySem.W.nsIn K mainGlobals "show_place" = some (some (.ref f7)))
    (l7 : K.lookup f7 = some ⟨oc7, od7, .func (PySem.W.fnOf "show_place" "show_place" (defArgs sShow) (defBody sShow) (defScope sShow) .none kV7 dc7 pm7 an7 cd7 ct7), sl7⟩)
    (c7 : PySem.W.codeIn K cd7 "show_place" = true)
    (k7 : PySem.W.keepIn K (.ref f7) = true)
    (a8 : PySem.W.nsIn K mainGlobals "show_walk" = some (some (.ref f8)))
    (l8 : K.lookup f8 = some ⟨oc8, od8, .func (PySem.W.fnOf "show_walk" "show_walk" (defArgs sShowW) (defBody sShowW) (defScope sShowW) .none kV8 dc8 pm8 an8 cd8 ct8), sl8⟩)
    (c8 : PySem.W.codeIn K cd8 "show_walk" = true)
    (k8 : PySem.W.keepIn K (.ref f8) = true)
    (a9 : PySem.W.nsIn K mainGlobals "is_number_text" = some (some (.ref f9)))
    (l9 : K.lookup f9 = some ⟨oc9, od9, .func (PySem.W.fnOf "is_number_text" "is_number_text" (defArgs sNumT) (defBody sNumT) (defScope sNumT) .none kV9 dc9 pm9 an9 (.ref cG) ct9), sl9⟩)
    (c9 : PySem.W.codeIn K (.ref cG) "is_number_text" = true)
    (k9 : PySem.W.keepIn K (.ref f9) = true)
    (a10 : PySem.W.nsIn K mainGlobals "read_number" = some (some (.ref f10)))
    (l10 : K.lookup f10 = some ⟨oc10, od10, .func (PySem.W.fnOf "read_number" "read_number" (defArgs sReadN) (defBody sReadN) (defScope sReadN) .none kV10 dc10 pm10 an10 cd10 ct10), sl10⟩)
    (c10 : PySem.W.codeIn K cd10 "read_number" = true)
    (k10 : PySem.W.keepIn K (.ref f10) = true)
    (a11 : PySem.W.nsIn K mainGlobals "is_whole" = some (some (.ref f11)))
    (l11 : K.lookup f11 = some ⟨oc11, od11, .func (PySem.W.fnOf "is_whole" "is_whole" (defArgs sWholeP) (defBody sWholeP) (defScope sWholeP) .none kV11 dc11 pm11 an11 cd11 ct11), sl11⟩)
    (c11 : PySem.W.codeIn K cd11 "is_whole" = true)
    (k11 : PySem.W.keepIn K (.ref f11) = true)
    (a12 : PySem.W.nsIn K mainGlobals "common_divisor" = some (some (.ref f12)))
    (l12 : K.lookup f12 = some ⟨oc12, od12, .func (PySem.W.fnOf "common_divisor" "common_divisor" (defArgs sDivisor) (defBody sDivisor) (defScope sDivisor) .none kV12 dc12 pm12 an12 cd12 ct12), sl12⟩)
    (c12 : PySem.W.codeIn K cd12 "common_divisor" = true)
    (k12 : PySem.W.keepIn K (.ref f12) = true)
    (a13 : PySem.W.nsIn K mainGlobals "is_place" = some (some (.ref f13)))
    (l13 : K.lookup f13 = some ⟨oc13, od13, .func (PySem.W.fnOf "is_place" "is_place" (defArgs sIsPlace) (defBody sIsPlace) (defScope sIsPlace) .none kV13 dc13 pm13 an13 cd13 ct13), sl13⟩)
    (c13 : PySem.W.codeIn K cd13 "is_place" = true)
    (k13 : PySem.W.keepIn K (.ref f13) = true)
    (a14 : PySem.W.nsIn K mainGlobals "read_place" = some (some (.ref f14)))
    (l14 : K.lookup f14 = some ⟨oc14, od14, .func (PySem.W.fnOf "read_place" "read_place" (defArgs sReadP) (defBody sReadP) (defScope sReadP) .none kV14 dc14 pm14 an14 cd14 ct14), sl14⟩)
    (c14 : PySem.W.codeIn K cd14 "read_place" = true)
    (k14 : PySem.W.keepIn K (.ref f14) = true)
    (a15 : PySem.W.nsIn K mainGlobals "read_walk" = some (some (.ref f15)))
    (l15 : K.lookup f15 = some ⟨oc15, od15, .func (PySem.W.fnOf "read_walk" "read_walk" (defArgs sReadW) (defBody sReadW) (defScope sReadW) .none kV15 dc15 pm15 an15 cd15 ct15), sl15⟩)
    (c15 : PySem.W.codeIn K cd15 "read_walk" = true)
    (k15 : PySem.W.keepIn K (.ref f15) = true)
    (a16 : PySem.W.nsIn K mainGlobals "_law_whole" = some (some (.ref f16)))
    (l16 : K.lookup f16 = some ⟨oc16, od16, .func (PySem.W.fnOf "_law_whole" "_law_whole" (defArgs sLWhole) (defBody sLWhole) (defScope sLWhole) .none kV16 dc16 pm16 an16 cd16 ct16), sl16⟩)
    (c16 : PySem.W.codeIn K cd16 "_law_whole" = true)
    (k16 : PySem.W.keepIn K (.ref f16) = true)
    (a17 : PySem.W.nsIn K mainGlobals "_law_right" = some (some (.ref f17)))
    (l17 : K.lookup f17 = some ⟨oc17, od17, .func (PySem.W.fnOf "_law_right" "_law_right" (defArgs sRight) (defBody sRight) (defScope sRight) .none kV17 dc17 pm17 an17 cd17 ct17), sl17⟩)
    (c17 : PySem.W.codeIn K cd17 "_law_right" = true)
    (k17 : PySem.W.keepIn K (.ref f17) = true)
    (a18 : PySem.W.nsIn K mainGlobals "law" = some (some (.ref f18)))
    (l18 : K.lookup f18 = some ⟨oc18, od18, .func (PySem.W.fnOf "law" "law" (defArgs sLaw) (defBody sLaw) (defScope sLaw) .none kV18 dc18 pm18 an18 cd18 ct18), sl18⟩)
    (c18 : PySem.W.codeIn K cd18 "law" = true)
    (k18 : PySem.W.keepIn K (.ref f18) = true)
    (aXNoText : PySem.W.nsIn K mainGlobals "NoText" = some (some (.ref gT)))
    (q_NoText : PySem.W.excIn K gT [.type "ValueError", .type "Exception", .type "BaseException", .type "object"] "ValueError.__new__" = true)
    (aIMOST_FIGURES : PySem.W.nsIn K mainGlobals "MOST_FIGURES" = some (some (.int 30 t_MOST_FIGURES)))
    (aILEAST_PLACES : PySem.W.nsIn K mainGlobals "LEAST_PLACES" = some (some (.int 2 t_LEAST_PLACES)))
    (aIMOST_PLACES : PySem.W.nsIn K mainGlobals "MOST_PLACES" = some (some (.int 12 t_MOST_PLACES)))
    (aTFIGURES : PySem.W.nsIn K mainGlobals "FIGURES" = some (some (.str (Str.ofString "0123456789") t_FIGURES)))
    (lG : K.lookup cG = some ⟨.type "code", odG, .fields vG, slG⟩)
    (vG11 : vG[11]? = some (.ref TG))
    (hG : ∃ file tf flags tg inF text tt, vG.getD 18 .none = .str file tf ∧ vG.getD 7 .none = .int flags tg ∧ vG.getD 9 .none = .bool inF ∧ vG.getD 10 .none = .int text tt ∧ cG ≠ TG)
    (nG : K.lookup TG = none)
    (z_len : PySem.W.nsIn K mainGlobals "len" = some none)
    (z_abs : PySem.W.nsIn K mainGlobals "abs" = some none)
    (z_int : PySem.W.nsIn K mainGlobals "int" = some none)
    (z_max : PySem.W.nsIn K mainGlobals "max" = some none)
    (z_min : PySem.W.nsIn K mainGlobals "min" = some none)
    (z_range : PySem.W.nsIn K mainGlobals "range" = some none)
    (z_isinstance : PySem.W.nsIn K mainGlobals "isinstance" = some none)
    (z_bool : PySem.W.nsIn K mainGlobals "bool" = some none)
    (z_tuple : PySem.W.nsIn K mainGlobals "tuple" = some none)
    (z_list : PySem.W.nsIn K mainGlobals "list" = some none)
    (z_str : PySem.W.nsIn K mainGlobals "str" = some none)
    (z_zip : PySem.W.nsIn K mainGlobals "zip" = some none)
    (z_all : PySem.W.nsIn K mainGlobals "all" = some none)
    (z_divmod : PySem.W.nsIn K mainGlobals "divmod" = some none)
    (z_enumerate : PySem.W.nsIn K mainGlobals "enumerate" = some none)
    (z_sum : PySem.W.nsIn K mainGlobals "sum" = some none)
    (z_sorted : PySem.W.nsIn K mainGlobals "sorted" = some none)
    (z_any : PySem.W.nsIn K mainGlobals "any" = some none)
    (z_dict : PySem.W.nsIn K mainGlobals "dict" = some none)
    (z_reversed : PySem.W.nsIn K mainGlobals "reversed" = some none)
    : ∃ (fd fd' : FuncData) (f' c T : Addr) (o oc : Obj) (cs : Array Value), (∀ (s : Shared) (v : Value), BindsTo s fd ⟨[v], []⟩ [("_law_script", v)]) ∧ (PySem.W.nsIn K mainGlobals "is_number_text" = some (some (.ref f')) ∧ K.lookup f' = some o ∧ o.data = .func fd' ∧ fd'.code = .ref c ∧ K.lookup c = some oc ∧ oc.data = .fields cs ∧ cs[11]? = some (.ref T) ∧ K.lookup T = none) ∧ ∀ (base : Heap) (bm : Addr) (ob : Obj), K.In base → base.Ns mainGlobals mg → PyProof.Rows.BMod base mainGlobals mg bm ob → base.get? T = none → T ≠ cStatics → FnOk l.prog w K mg base CX0 7 fa fd ["_law_script"] (L3.spLaw K) := by
  have e := hfa.symm.trans (PySem.W.mg_of X G a18)
  cases e
  have T : Bt mg := { len := PySem.W.mg_none_of X G z_len, abs := PySem.W.mg_none_of X G z_abs, int := PySem.W.mg_none_of X G z_int, max := PySem.W.mg_none_of X G z_max, min := PySem.W.mg_none_of X G z_min, range := PySem.W.mg_none_of X G z_range, isinstance := PySem.W.mg_none_of X G z_isinstance, bool := PySem.W.mg_none_of X G z_bool, tuple := PySem.W.mg_none_of X G z_tuple, list := PySem.W.mg_none_of X G z_list, str := PySem.W.mg_none_of X G z_str, zip := PySem.W.mg_none_of X G z_zip, all := PySem.W.mg_none_of X G z_all, divmod := PySem.W.mg_none_of X G z_divmod, enumerate := PySem.W.mg_none_of X G z_enumerate, sum := PySem.W.mg_none_of X G z_sum, sorted := PySem.W.mg_none_of X G z_sorted, any := PySem.W.mg_none_of X G z_any, dict := PySem.W.mg_none_of X G z_dict, reversed := PySem.W.mg_none_of X G z_reversed }
  have m_NoText := PySem.W.mg_of X G aXNoText
  have mI_MOST_FIGURES := PySem.W.mg_of X G aIMOST_FIGURES
  have mI_LEAST_PLACES := PySem.W.mg_of X G aILEAST_PLACES
  have mI_MOST_PLACES := PySem.W.mg_of X G aIMOST_PLACES
  have m_FIGURES := PySem.W.mg_of X G aTFIGURES
  have F1 := fun_mk (st := sCell) l1 c1 k1
  have b1 := F1.binds (ps := ["_law_script", "_law_k"]) fun _ _ _ _ _ _ us hl => by obtain ⟨a0, a1, rfl⟩ := us_2 hl; rfl
  have m1 := PySem.W.mg_of X G a1
  have F2 := fun_mk (st := sNumber) l2 c2 k2
  have b2 := F2.binds (ps := ["_law_script", "_law_k"]) fun _ _ _ _ _ _ us hl => by obtain ⟨a0, a1, rfl⟩ := us_2 hl; rfl
  have m2 := PySem.W.mg_of X G a2
  have F3 := fun_mk (st := sLCommon) l3 c3 k3
  have b3 := F3.binds (ps := ["_law_one", "_law_other"]) fun _ _ _ _ _ _ us hl => by obtain ⟨a0, a1, rfl⟩ := us_2 hl; rfl
  have m3 := PySem.W.mg_of X G a3
  have F4 := fun_mk (st := sLPlace) l4 c4 k4
  have b4 := F4.binds (ps := ["_law_top", "_law_bottom"]) fun _ _ _ _ _ _ us hl => by obtain ⟨a0, a1, rfl⟩ := us_2 hl; rfl
  have m4 := PySem.W.mg_of X G a4
  have F5 := fun_mk (st := sDrawn) l5 c5 k5
  have b5 := F5.binds (ps := ["_law_number_here"]) fun _ _ _ _ _ _ us hl => by obtain ⟨a0, rfl⟩ := us_1 hl; rfl
  have m5 := PySem.W.mg_of X G a5
  have F6 := fun_mk (st := sWalk) l6 c6 k6
  have b6 := F6.binds (ps := ["_law_script", "_law_at"]) fun _ _ _ _ _ _ us hl => by obtain ⟨a0, a1, rfl⟩ := us_2 hl; rfl
  have m6 := PySem.W.mg_of X G a6
  have F7 := fun_mk (st := sShow) l7 c7 k7
  have b7 := F7.binds (ps := ["place"]) fun _ _ _ _ _ _ us hl => by obtain ⟨a0, rfl⟩ := us_1 hl; rfl
  have m7 := PySem.W.mg_of X G a7
  have F8 := fun_mk (st := sShowW) l8 c8 k8
  have b8 := F8.binds (ps := ["walk"]) fun _ _ _ _ _ _ us hl => by obtain ⟨a0, rfl⟩ := us_1 hl; rfl
  have m8 := PySem.W.mg_of X G a8
  have F9 := fun_mk (st := sNumT) l9 c9 k9
  have b9 := F9.binds (ps := ["text", "most"]) fun _ _ _ _ _ _ us hl => by obtain ⟨a0, a1, rfl⟩ := us_2 hl; rfl
  have m9 := PySem.W.mg_of X G a9
  have F10 := fun_mk (st := sReadN) l10 c10 k10
  have b10 := F10.binds (ps := ["text", "most"]) fun _ _ _ _ _ _ us hl => by obtain ⟨a0, a1, rfl⟩ := us_2 hl; rfl
  have m10 := PySem.W.mg_of X G a10
  have F11 := fun_mk (st := sWholeP) l11 c11 k11
  have b11 := F11.binds (ps := ["thing"]) fun _ _ _ _ _ _ us hl => by obtain ⟨a0, rfl⟩ := us_1 hl; rfl
  have m11 := PySem.W.mg_of X G a11
  have F12 := fun_mk (st := sDivisor) l12 c12 k12
  have b12 := F12.binds (ps := ["one", "other"]) fun _ _ _ _ _ _ us hl => by obtain ⟨a0, a1, rfl⟩ := us_2 hl; rfl
  have m12 := PySem.W.mg_of X G a12
  have F13 := fun_mk (st := sIsPlace) l13 c13 k13
  have b13 := F13.binds (ps := ["thing"]) fun _ _ _ _ _ _ us hl => by obtain ⟨a0, rfl⟩ := us_1 hl; rfl
  have m13 := PySem.W.mg_of X G a13
  have F14 := fun_mk (st := sReadP) l14 c14 k14
  have b14 := F14.binds (ps := ["text"]) fun _ _ _ _ _ _ us hl => by obtain ⟨a0, rfl⟩ := us_1 hl; rfl
  have m14 := PySem.W.mg_of X G a14
  have F15 := fun_mk (st := sReadW) l15 c15 k15
  have b15 := F15.binds (ps := ["text"]) fun _ _ _ _ _ _ us hl => by obtain ⟨a0, rfl⟩ := us_1 hl; rfl
  have m15 := PySem.W.mg_of X G a15
  have F16 := fun_mk (st := sLWhole) l16 c16 k16
  have b16 := F16.binds (ps := ["_law_thing"]) fun _ _ _ _ _ _ us hl => by obtain ⟨a0, rfl⟩ := us_1 hl; rfl
  have m16 := PySem.W.mg_of X G a16
  have F17 := fun_mk (st := sRight) l17 c17 k17
  have b17 := F17.binds (ps := ["_law_walk_here"]) fun _ _ _ _ _ _ us hl => by obtain ⟨a0, rfl⟩ := us_1 hl; rfl
  have m17 := PySem.W.mg_of X G a17
  have F18 := fun_mk (st := sLaw) l18 c18 k18
  have b18 := F18.binds (ps := ["_law_script"]) fun _ _ _ _ _ _ us hl => by obtain ⟨a0, rfl⟩ := us_1 hl; rfl
  have m18 := PySem.W.mg_of X G a18
  obtain ⟨tin, _⟩ := tabIn_one a9 l9 rfl rfl lG rfl vG11
  refine ⟨PySem.W.fnOf "law" "law" (defArgs sLaw) (defBody sLaw) (defScope sLaw) .none kV18 dc18 pm18 an18 cd18 ct18, _, _, _, _, _, _, _, fun s v => .of_eq rfl, ⟨a9, l9, rfl, rfl, lG, rfl, vG11, nG⟩, fun base bm ob hb1 hb2 hM hbT hnT => ?_⟩
  have hC : CodeP base cG TG := codeP_mk (hb1 _ _ lG) vG11 hG
  have O1 : Own3 l.prog w K mg base 1 "_law_cell_at" ["_law_script", "_law_k"] (spCell) := ⟨_, _, ok_cell F1 T  , m1, k1, b1⟩
  have O2 : Own3 l.prog w K mg base 2 "_law_number" ["_law_script", "_law_k"] (spNumber) := ⟨_, _, ok_number F2 T  (O1.mono (by decide)), m2, k2, b2⟩
  have O3 : Own3 l.prog w K mg base 1 "_law_common" ["_law_one", "_law_other"] (spDivisor) := ⟨_, _, ok_lCommon F3 T  , m3, k3, b3⟩
  have O4 : Own3 l.prog w K mg base 2 "_law_place" ["_law_top", "_law_bottom"] (spPlace) := ⟨_, _, ok_lPlace F4 T  (O3.mono (by decide)), m4, k4, b4⟩
  have O5 : Own3 l.prog w K mg base 3 "_law_drawn_place" ["_law_number_here"] (spDrawn) := ⟨_, _, ok_drawn F5 T  (O4.mono (by decide)), m5, k5, b5⟩
  have O6 : Own3 l.prog w K mg base 5 "_law_walk" ["_law_script", "_law_at"] (spWalk) := ⟨_, _, ok_walk F6 T  (O2.mono (by decide)) (O5.mono (by decide)), m6, k6, b6⟩
  have O7 : Own3 l.prog w K mg base 1 "show_place" ["place"] (spShow) := ⟨_, _, ok_show F7 T  , m7, k7, b7⟩
  have O8 : Own3 l.prog w K mg base 2 "show_walk" ["walk"] (spShowW) := ⟨_, _, ok_showW F8 T  (O7.mono (by decide)), m8, k8, b8⟩
  have O9 : Own3 l.prog w K mg base 2 "is_number_text" ["text", "most"] (spNumT) := ⟨_, _, ok_numT F9 T tin hC hM hbT hnT m_FIGURES rfl , m9, k9, b9⟩
  have O10 : Own3 l.prog w K mg base 3 "read_number" ["text", "most"] (spReadN) := ⟨_, _, ok_readN F10 T m_NoText q_NoText (O9.mono (by decide)), m10, k10, b10⟩
  have O11 : Own3 l.prog w K mg base 1 "is_whole" ["thing"] (spWhole) := ⟨_, _, ok_wholeP F11 T  , m11, k11, b11⟩
  have O12 : Own3 l.prog w K mg base 1 "common_divisor" ["one", "other"] (spDivisor) := ⟨_, _, ok_divisor F12 T  , m12, k12, b12⟩
  have O13 : Own3 l.prog w K mg base 2 "is_place" ["thing"] (spPl) := ⟨_, _, ok_isPlace F13 T  (O11.mono (by decide)) (O12.mono (by decide)), m13, k13, b13⟩
  have O14 : Own3 l.prog w K mg base 4 "read_place" ["text"] (spRead) := ⟨_, _, ok_readP F14 T mI_MOST_FIGURES m_NoText q_NoText (O10.mono (by decide)) (O13.mono (by decide)), m14, k14, b14⟩
  have O15 : Own3 l.prog w K mg base 5 "read_walk" ["text"] (spReadW) := ⟨_, _, ok_readW F15 T mI_LEAST_PLACES mI_MOST_PLACES m_NoText q_NoText (O14.mono (by decide)), m15, k15, b15⟩
  have O16 : Own3 l.prog w K mg base 1 "_law_whole" ["_law_thing"] (spWhole) := ⟨_, _, ok_lWhole F16 T  , m16, k16, b16⟩
  have O17 : Own3 l.prog w K mg base 6 "_law_right" ["_law_walk_here"] (spRightW) := ⟨_, _, ok_right F17 T  (O8.mono (by decide)) (O15.mono (by decide)) (O16.mono (by decide)), m17, k17, b17⟩
  exact law_of (ok_law F18 T  (O6.mono (by decide)) (O17.mono (by decide))) fun ns hn Q q => ⟨hn, q⟩
end Fr
open PySem PySem.W PyProof.Rows
set_option maxRecDepth 100000 in
set_option maxHeartbeats 0 in
theorem PySem.Challenge.cw_fractionroads_k84_walks_written_holds : PySem.Challenge.rw_fractionroads_k84_walks_written.Holds := by
  w_on; o_law; k_head; (case hw => w_witness2)
  k_fill
  refine Fr.walk_ofP (l := PySem.Challenge.rw_fractionroads_k84_walks_written) (k := 7) (x := "_law_script") rfl rfl ⟨rfl, by decide, by decide⟩ (fun w h Y => PySem.W.kIn_of Y) ?Q ?F
  case Q => decide +kernel
  case F =>
    intro w mg fa h KX G hmg
    refine' Fr.all_mk KX G hmg ?a1 ?l1 ?c1 ?k1 ?a2 ?l2 ?c2 ?k2 ?a3 ?l3 ?c3 ?k3 ?a4 ?l4 ?c4 ?k4 ?a5 ?l5 ?c5 ?k5 ?a6 ?l6 ?c6 ?k6 ?a7 ?l7 ?c7 ?k7 ?a8 ?l8 ?c8 ?k8 ?a9 ?l9 ?c9 ?k9 ?a10 ?l10 ?c10 ?k10 ?a11 ?l11 ?c11 ?k11 ?a12 ?l12 ?c12 ?k12 ?a13 ?l13 ?c13 ?k13 ?a14 ?l14 ?c14 ?k14 ?a15 ?l15 ?c15 ?k15 ?a16 ?l16 ?c16 ?k16 ?a17 ?l17 ?c17 ?k17 ?a18 ?l18 ?c18 ?k18 ?aXNoText ?q_NoText ?aIMOST_FIGURES ?aILEAST_PLACES ?aIMOST_PLACES ?aTFIGURES ?lG ?vG11 ?hG ?nG ?z_len ?z_abs ?z_int ?z_max ?z_min ?z_range ?z_isinstance ?z_bool ?z_tuple ?z_list ?z_str ?z_zip ?z_all ?z_divmod ?z_enumerate ?z_sum ?z_sorted ?z_any ?z_dict ?z_reversed
    (case a1 => k_is)
    (case l1 => k_is)
    (case c1 => k_is)
    (case k1 => k_is)
    (case a2 => k_is)
    (case l2 => k_is)
    (case c2 => k_is)
    (case k2 => k_is)
    (case a3 => k_is)
    (case l3 => k_is)
    (case c3 => k_is)
    (case k3 => k_is)
    (case a4 => k_is)
    (case l4 => k_is)
    (case c4 => k_is)
    (case k4 => k_is)
    (case a5 => k_is)
    (case l5 => k_is)
    (case c5 => k_is)
    (case k5 => k_is)
    (case a6 => k_is)
    (case l6 => k_is)
    (case c6 => k_is)
    (case k6 => k_is)
    (case a7 => k_is)
    (case l7 => k_is)
    (case c7 => k_is)
    (case k7 => k_is)
    (case a8 => k_is)
    (case l8 => k_is)
    (case c8 => k_is)
    (case k8 => k_is)
    (case a9 => k_is)
    (case l9 => k_is)
    (case c9 => k_is)
    (case k9 => k_is)
    (case a10 => k_is)
    (case l10 => k_is)
    (case c10 => k_is)
    (case k10 => k_is)
    (case a11 => k_is)
    (case l11 => k_is)
    (case c11 => k_is)
    (case k11 => k_is)
    (case a12 => k_is)
    (case l12 => k_is)
    (case c12 => k_is)
    (case k12 => k_is)
    (case a13 => k_is)
    (case l13 => k_is)
    (case c13 => k_is)
    (case k13 => k_is)
    (case a14 => k_is)
    (case l14 => k_is)
    (case c14 => k_is)
    (case k14 => k_is)
    (case a15 => k_is)
    (case l15 => k_is)
    (case c15 => k_is)
    (case k15 => k_is)
    (case a16 => k_is)
    (case l16 => k_is)
    (case c16 => k_is)
    (case k16 => k_is)
    (case a17 => k_is)
    (case l17 => k_is)
    (case c17 => k_is)
    (case k17 => k_is)
    (case a18 => k_is)
    (case l18 => k_is)
    (case c18 => k_is)
    (case k18 => k_is)
    (case aXNoText => k_is)
    (case q_NoText => k_exc)
    (case aIMOST_FIGURES => k_is)
    (case aILEAST_PLACES => k_is)
    (case aIMOST_PLACES => k_is)
    (case aTFIGURES => k_is)
    (case lG => k_is)
    (case vG11 => rfl)
    (case hG => exact ⟨_, _, _, _, _, _, _, rfl, rfl, rfl, rfl, by decide⟩)
    (case nG => rfl)
    (case z_len => k_is)
    (case z_abs => k_is)
    (case z_int => k_is)
    (case z_max => k_is)
    (case z_min => k_is)
    (case z_range => k_is)
    (case z_isinstance => k_is)
    (case z_bool => k_is)
    (case z_tuple => k_is)
    (case z_list => k_is)
    (case z_str => k_is)
    (case z_zip => k_is)
    (case z_all => k_is)
    (case z_divmod => k_is)
    (case z_enumerate => k_is)
    (case z_sum => k_is)
    (case z_sorted => k_is)
    (case z_any => k_is)
    (case z_dict => k_is)
    (case z_reversed => k_is)
