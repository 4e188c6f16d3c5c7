import PyProof.Rows.All
import Wide.All
import OpenK.AllK
import Wide.FinOn
import Lean
import PyProof.EqAt
import PyProof.EqKinds
import PyProof.TupleCall
import PyProof.ZipIter
import PyProof.Rows.Range3
import PyProof.EnumFor
import PyProof.SumWalk
import PyProof.EnumMake
import PyProof.EnumStmt
import OpenK.KOwn
import KE.KIsAll
import PyProof.Rows.Catch
import PyProof.NsDelKeeps
import KE.KSortTup
import KE.KSortAsk
import PySem.Challenge.RW_fractionroads_k21_apart
set_option Elab.async false
set_option linter.all false
set_option maxRecDepth 100000
section HeadS
namespace Fr
open PySem
def vwAt (i : Nat) : Stmt := PySem.Challenge.pw_fractionroads_k21_apart.main.body.getD i (.Pass ⟨0, 0, 0, 0⟩)
def vw : Program := { PySem.Challenge.pw_fractionroads_k21_apart with main := { PySem.Challenge.pw_fractionroads_k21_apart.main with body := [vwAt 0, vwAt 2, vwAt 3, vwAt 4, vwAt 5, vwAt 6, vwAt 7, vwAt 8, vwAt 9, vwAt 10, vwAt 11, vwAt 12, vwAt 13, vwAt 14, vwAt 16, vwAt 17, vwAt 18, vwAt 20, vwAt 21, vwAt 22, vwAt 23, vwAt 25, vwAt 27, vwAt 28, vwAt 29, vwAt 30, vwAt 31, vwAt 33, vwAt 34, vwAt 35, vwAt 36, vwAt 37, vwAt 38, vwAt 39, vwAt 40, vwAt 41, vwAt 42, vwAt 43, vwAt 44, vwAt 45, vwAt 46] } }
end Fr
open PySem PySem.W PyProof.Rows
local macro_rules | `(tactic| o_head $H) => `(tactic| refine holds_open (q := Fr.vw) (loose := []) (Xt := fun s => xlAt Fr.vw [] s && recOk (RowW.records (OpenRow.toRowW (OpenLaw.row PySem.Challenge.rw_fractionroads_k21_apart))) s) (XP := XL Fr.vw []) (Yf := Hook.obs $H) (Ya := Hook.val $H) (YP := Hook.says $H) (N := 8100) ?hl (Hook.of $H) (Hook.keeps $H) (fun s e => xl_of s (Bool.and_eq_true_iff.mp e).1) XL.keeps (by rfl) (by rfl) (by rfl) (fun s e => recFacts_of (Bool.and_eq_true_iff.mp e).2) (by rfl) (by assumption) (by decide +kernel) ⟨rfl, rfl, rfl, rfl, rfl, by decide +kernel⟩ ?hw ?hc)
def Fr.topRun (w : World) : Option Shared := openEnds treeTable PySem.Challenge.pw_fractionroads_k21_apart w 8100
lay_quick Fr.topRun
set_option maxRecDepth 100000 in
set_option maxHeartbeats 0 in
def Fr.headPack : PSigma fun G : Prop => (G → PySem.Challenge.rw_fractionroads_k21_apart.Holds) := by
  refine' ⟨_, fun g => _⟩
  rotate_left
  w_on; o_law; k_head
  (case hw => w_witness2)
  (case hl => intro w; refine (congrArg (Option.map _) (congrFun PySem.W.Fast.te1390306406435745066 w)).trans ?_; kernel_rfl)
  k_fill
  exact g
end HeadS

-- CHANGE: your row's module here, as the last of these rows
set_option Elab.async false
set_option linter.all false
set_option maxRecDepth 100000
/-! THE HAND LAYER, for ints, bools, texts, own classes, LISTS and tuples (index, slices, in, append, pop ..), calls, loops. Paste it whole ahead of your own text; what your proof does not reach may be deleted. -/
namespace L2
open PySem PySem.Spec PyProof.Rows

/-- a key: an int or a str -/
abbrev Key := Sum Int Str
def keyIs : Key → Value → Bool
  | .inl k, v => Value.isInt k v
  | .inr x, v => Value.isStrOf x v
def keyH (w : World) : Key → Int
  | .inl k => hashInt k
  | .inr x => hashStr w x
theorem keyIs_shape : ∀ {k : Key} {v : Value}, keyIs k v = true → (∃ i t, k = Sum.inl i ∧ v = Value.int i t) ∨ (∃ x t, k = Sum.inr x ∧ v = Value.str x t)
  | .inl i, v, h => by
    obtain ⟨t, e⟩ := Value.isInt_shape (k := i) (v := v) h
    exact .inl ⟨i, t, rfl, e⟩
  | .inr x, v, h => by
    obtain ⟨t, e⟩ := Value.isStrOf_shape (x := x) (v := v) h
    exact .inr ⟨x, t, rfl, e⟩
theorem keyIs_int (i : Int) (t : Tok) : keyIs (.inl i) (.int i t) = true := by simp [keyIs, Value.isInt]
theorem keyIs_str (x : Str) (t : Tok) : keyIs (.inr x) (.str x t) = true := by simp [keyIs, Value.isStrOf]
theorem key_ll (a b : Int) : decide ((Sum.inl a : Key) = Sum.inl b) = (a == b) := by
  by_cases e : a = b
  · subst e; simp
  · have h : ¬ (Sum.inl a : Key) = Sum.inl b := fun q => e (Sum.inl.inj q)
    rw [decide_eq_false h]
    exact (beq_eq_false_iff_ne.mpr e).symm
theorem key_rr (a b : Str) : decide ((Sum.inr a : Key) = Sum.inr b) = decide (a = b) := by
  by_cases e : a = b
  · subst e; simp
  · have h : ¬ (Sum.inr a : Key) = Sum.inr b := fun q => e (Sum.inr.inj q)
    rw [decide_eq_false h, decide_eq_false e]
theorem key_lr (a : Int) (b : Str) : decide ((Sum.inl a : Key) = Sum.inr b) = false := decide_eq_false (fun q => nomatch q)
theorem key_rl (a : Str) (b : Int) : decide ((Sum.inr a : Key) = Sum.inl b) = false := decide_eq_false (fun q => nomatch q)

def mixKind (prog : Program) (w : World) : PySem.KeyKind prog w Key where
  is := keyIs
  hash := keyH w
  inj := fun v a b ha hb => by
    rcases keyIs_shape ha with ⟨i, t, rfl, rfl⟩ | ⟨x, t, rfl, rfl⟩
    · rcases keyIs_shape hb with ⟨j, u, rfl, e⟩ | ⟨y, u, rfl, e⟩
      · injection e with e1 _; rw [e1]
      · exact nomatch e
    · rcases keyIs_shape hb with ⟨j, u, rfl, e⟩ | ⟨y, u, rfl, e⟩
      · exact nomatch e
      · injection e with e1 _; rw [e1]
  byValue := fun k v h => by
    rcases keyIs_shape h with ⟨i, t, rfl, rfl⟩ | ⟨x, t, rfl, rfl⟩ <;> rfl
  pyHash := fun hv h => by
    rcases keyIs_shape hv with ⟨i, t, rfl, rfl⟩ | ⟨x, t, rfl, rfl⟩
    · exact wpAny_pyHash_int h
    · exact wpAny_pyHash_str h
  eqBool := fun hu hv h => by
    rcases keyIs_shape hu with ⟨i, t, rfl, rfl⟩ | ⟨x, t, rfl, rfl⟩
    · rcases keyIs_shape hv with ⟨j, u, rfl, rfl⟩ | ⟨y, u, rfl, rfl⟩
      · rw [key_ll] at h; exact wpAny_eqBool_int h
      · rw [key_lr] at h; exact SeqAt.EqAt.int_str i t y u _ _ _ _ h
    · rcases keyIs_shape hv with ⟨j, u, rfl, rfl⟩ | ⟨y, u, rfl, rfl⟩
      · rw [key_rl] at h; exact SeqAt.EqAt.str_int x t j u _ _ _ _ h
      · rw [key_rr] at h; exact wpAny_eqBool_str h
  «strs» := fun k x t v h => by
    rcases keyIs_shape h with ⟨i, u, rfl, e⟩ | ⟨y, u, rfl, e⟩
    · exact nomatch e
    · injection e with e1 _
      subst e1
      cases v <;> rfl

theorem mixKind_int (prog : Program) (w : World) (i : Int) (t : Tok) : (mixKind prog w).is (.inl i) (.int i t) = true := keyIs_int i t
theorem mixKind_str (prog : Program) (w : World) (x : Str) (t : Tok) : (mixKind prog w).is (.inr x) (.str x t) = true := keyIs_str x t
end L2

namespace L2
open PySem PySem.Spec PyProof.Rows

/-- a value, without the heap -/
inductive V where
  | non | bl (b : Bool) | int (i : Int) | str (x : Str) | byt (b : Array UInt8) | flt (b : UInt64) | ref (a : Addr) | ty (n : String)
  deriving DecidableEq

def RelV : V → Value → Prop
  | .non, u => u = Value.none
  | .bl b, u => u = Value.bool b
  | .int i, u => ∃ t, u = Value.int i t
  | .str x, u => ∃ t, u = Value.str x t
  | .byt b, u => ∃ t, u = Value.bytes b t
  | .flt b, u => ∃ t, u = Value.float b t
  | .ref a, u => u = Value.ref a
  | .ty n, u => u = Value.type n

abbrev Vals : List V → List Value → Prop := Paired RelV
theorem Vals.length {xs : List V} {us : List Value} (r : Vals xs us) : xs.length = us.length := Paired.length r
theorem Vals.get : ∀ {xs : List V} {us : List Value} {i : Nat} {x : V}, Vals xs us → xs[i]? = some x → ∃ u, us[i]? = some u ∧ RelV x u
  | _, _, _, _, .nil, e => by simp at e
  | _, _, 0, _, .cons r _, e => by simp at e; subst e; exact ⟨_, rfl, r⟩
  | _, _, i + 1, x, .cons _ t, e => by
    obtain ⟨u, h1, h2⟩ := Vals.get (i := i) (x := x) t (by simpa using e)
    exact ⟨u, by simpa using h1, h2⟩
theorem Vals.set {x : V} {u : Value} (r : RelV x u) : ∀ {xs : List V} {us : List Value} (i : Nat), Vals xs us → Vals (xs.set i x) (us.set i u)
  | _, _, _, .nil => .nil
  | _, _, 0, .cons _ t => .cons r t
  | _, _, i + 1, .cons q t => .cons q (Vals.set r i t)
theorem Vals.append : ∀ {xs ys : List V} {us ws : List Value}, Vals xs us → Vals ys ws → Vals (xs ++ ys) (us ++ ws)
  | _, _, _, _, .nil, s => s
  | _, _, _, _, .cons r t, s => .cons r (Vals.append t s)
theorem Vals.take : ∀ {xs : List V} {us : List Value} (n : Nat), Vals xs us → Vals (xs.take n) (us.take n)
  | _, _, 0, _ => .nil
  | _, _, _ + 1, .nil => .nil
  | _, _, n + 1, .cons r t => .cons r (Vals.take n t)
theorem Vals.drop : ∀ {xs : List V} {us : List Value} (n : Nat), Vals xs us → Vals (xs.drop n) (us.drop n)
  | _, _, 0, r => r
  | _, _, _ + 1, .nil => .nil
  | _, _, n + 1, .cons _ t => Vals.drop n t
theorem Vals.none_of : ∀ {xs : List V} {us : List Value} {i : Nat}, Vals xs us → xs[i]? = none → us[i]? = none := fun {xs us i} r e => by
  have h1 := r.length
  have h2 : xs.length ≤ i := List.getElem?_eq_none_iff.mp e
  exact List.getElem?_eq_none_iff.mpr (by omega)

def RelO : Option V → Option Value → Prop
  | some v, some u => RelV v u
  | none, none => True
  | _, _ => False
def KV {κ : Type} : List (κ × V) → List (κ × Value) → Prop := Paired fun (p : κ × V) (q : κ × Value) => p.1 = q.1 ∧ RelV p.2 q.2

/-- a key of a dict (00_mix): an int or a text -/
def kV : Key → V
  | .inl i => .int i
  | .inr x => .str x

/-- what stands at a tracked address -/
inductive HO where
  /-- a list -/
  | lst (xs : List V)
  /-- a tuple (never changes) -/
  | tup (xs : List V)
  /-- a dict whose keys are ints and texts; one whose keys are tuples of ints and texts (the empty one is both) -/
  | dK (kvs : List (Key × V)) | dT (kvs : List (List Key × V))
  /-- a set of ints: its members, its size -/
  | set (S : Int → Bool) (n : Nat)
  /-- an instance of the class at C, its dict at dx, its attributes -/
  | ins (C dx : Addr) (fs : List (Str × V))
  /-- the dict of the instance at x -/
  | own (x : Addr)
  /-- the dict of an exception -/
  | xd (fs : List (Str × V))
  /-- a bound method, f of x -/
  | met (f x : Addr)
  /-- a range object lo, lo + 1, .. below hi -/
  | rng (lo hi : Int)
  /-- a thing that is known to the object (the script; a dict while a loop walks it): read, never written while it is so -/
  | frz (o : Obj) (u : HO)
  /-- a code object's table -/
  | tbl (ps : Array Value)
  /-- any other thing, by what is true of its one object (a def of one's own: SetO a S n := HO.ext fun h => ..) -/
  | ext (φ : Heap → Prop)

abbrev Hp := Addr → Option HO
def upd (H : Hp) (a : Addr) (o : HO) : Hp := fun b => if b = a then some o else H b
theorem upd_same {H : Hp} {a : Addr} {o : HO} : upd H a o a = some o := by unfold upd; rw [if_pos rfl]
theorem upd_ne {H : Hp} {a b : Addr} {o : HO} (h : b ≠ a) : upd H a o b = H b := by unfold upd; rw [if_neg h]
theorem upd_upd {H : Hp} {a : Addr} {o u : HO} : upd (upd H a o) a u = upd H a u := by
  funext b; unfold upd; split <;> rfl
/-- two objects of different content stand apart -/
theorem ne_of {H : Hp} {a b : Addr} {o u : HO} (h : H a = some o) (h' : H b = some u) (d : o ≠ u) : a ≠ b := by
  intro e; subst e; rw [h] at h'; exact d (Option.some.inj h')
theorem ne_of_none {H : Hp} {a b : Addr} {o : HO} (h : H a = some o) (h' : H b = none) : a ≠ b := by
  intro e; subst e; rw [h] at h'; cases h'

section
variable (P : Program) (w : World)
def ObjOk (H : Hp) (h : Heap) (a : Addr) : HO → Prop
  | .lst xs => xs.length ≤ sizeLine ∧ ∃ (its : List Value) (n : Nat), Vals xs its ∧ h.get? a = some { cls := .type "list", data := .seq its.toArray n }
  | .tup xs => xs.length ≤ sizeLine ∧ ∃ its : List Value, Vals xs its ∧ IsTup h a its.toArray
  | .dK kvs => kvs.length ≤ sizeLine ∧ (a == sysModules) = false ∧ ∃ vs, KV kvs vs ∧ h.DictOf (mixKind P w) a vs
  | .dT kvs => kvs.length ≤ sizeLine ∧ (a == sysModules) = false ∧ ∃ xs : List (List Key × Addr × Value),
      Paired (fun (p : List Key × V) (q : List Key × Addr × Value) => p.1 = q.1 ∧ H q.2.1 = some (.tup (p.1.map kV)) ∧ RelV p.2 q.2.2) kvs xs ∧
      ∃ o es ep, h.get? a = some o ∧ o.ExactDict ∧ o.data = .dict es ep ∧ es.toList = xs.map (entryOfKey (tupleKind (mixKind P w))) ∧ (xs.map (·.1)).Nodup
  | .set S n => h.SetOf (intKind P w) a S n
  | .ins C dx fs => H dx = some (.own a) ∧ fs.length ≤ 1000 ∧ dx ≠ a ∧ h.get? a = some (PySem.W.instObj C dx) ∧
      ∃ mA, h.Ns1 dx mA ∧ (∀ f, RelO (fs.lookup f) (mA f)) ∧ PySem.Within mA (fs.map (·.1))
  | .own _ => ∃ o, h.get? a = some o
  | .xd fs => ∃ mA, h.Ns1 a mA ∧ ∀ f, RelO (fs.lookup f) (mA f)
  | .rng lo hi => ∃ t u v, h.get? a = some { cls := .type "range", data := .fields #[.int lo t, .int hi u, .int 1 v] }
  | .frz o u => h.get? a = some o ∧ ObjOk H h a u
  | .tbl ps => h.get? a = some { cls := .none, data := .fields ps }
  | .met f x => h.get? a = some (PySem.W.methodObj (.ref f) (.ref x))
  | .ext φ => φ h ∧ (∃ o, h.get? a = some o) ∧ ∀ h1 h2 : Heap, φ h1 → (∀ o, h1.get? a = some o → h2.get? a = some o) → φ h2
/-- the abstract heap is held -/
def HOk (H : Hp) (h : Heap) : Prop := ∀ a o, H a = some o → ObjOk P w H h a o
end

section
variable {P : Program} {w : World} {H H' : Hp} {h h' : Heap} {a : Addr} {o : HO}
theorem ObjOk.lt (x : ObjOk P w H h a o) : a < h.objs.size := by
  cases o with
  | lst xs => obtain ⟨_, _, _, _, e⟩ := x; exact Heap.lt_size e
  | tup xs => obtain ⟨_, _, _, p⟩ := x; exact p.lt
  | dK kvs => obtain ⟨_, _, _, _, o, _, _, e, _⟩ := x; exact Heap.lt_size e
  | dT kvs => obtain ⟨_, _, _, _, o, _, _, e, _⟩ := x; exact Heap.lt_size e
  | set S n => obtain ⟨o, _, _, _, e, _⟩ := x; exact Heap.lt_size e
  | ins C dx fs => obtain ⟨_, _, _, e, _⟩ := x; exact Heap.lt_size e
  | own y => obtain ⟨_, e⟩ := x; exact Heap.lt_size e
  | xd fs => obtain ⟨_, ⟨_, _, _, e, _⟩, _⟩ := x; exact Heap.lt_size e
  | rng lo hi => obtain ⟨_, _, _, e⟩ := x; exact Heap.lt_size e
  | frz ob u => obtain ⟨e, _⟩ := x; exact Heap.lt_size e
  | tbl ps => exact Heap.lt_size (show h.get? a = some _ from x)
  | met f y => exact Heap.lt_size (show h.get? a = some _ from x)
  | ext φ => obtain ⟨_, ⟨_, e⟩, _⟩ := x; exact Heap.lt_size e
theorem Paired.mapP {α β : Type} {F G : α → β → Prop} : ∀ {l₁ : List α} {l₂ : List β}, Paired F l₁ l₂ → (∀ a b, F a b → G a b) → Paired G l₁ l₂
  | _, _, .nil, _ => .nil
  | _, _, .cons r t, f => .cons (f _ _ r) (Paired.mapP t f)
/-- what an object's description leans on: its own object, its own dict, the tuples -/
theorem ObjOk.stay (x : ObjOk P w H h a o) (k : ∀ b u, (b = a ∨ H b = some (.own a)) → h.get? b = some u → h'.get? b = some u)
    (ho : ∀ b, H b = some (.own a) → H' b = some (.own a)) (ht : ∀ b xs, H b = some (.tup xs) → H' b = some (.tup xs)) : ObjOk P w H' h' a o := by
  induction o with
  | lst xs => obtain ⟨z, its, n, r, e⟩ := x; exact ⟨z, its, n, r, k _ _ (.inl rfl) e⟩
  | tup xs => obtain ⟨z, its, r, ob, e, c⟩ := x; exact ⟨z, its, r, ob, k _ _ (.inl rfl) e, c⟩
  | dK kvs => obtain ⟨z, y, vs, r, ob, es, ep, e, c⟩ := x; exact ⟨z, y, vs, r, ob, es, ep, k _ _ (.inl rfl) e, c⟩
  | dT kvs =>
    obtain ⟨z, y, xs, r, ob, es, ep, e, c⟩ := x
    exact ⟨z, y, xs, Paired.mapP r fun p q z => ⟨z.1, ht _ _ z.2.1, z.2.2⟩, ob, es, ep, k _ _ (.inl rfl) e, c⟩
  | set S n => obtain ⟨ob, es, ep, t, e, c⟩ := x; exact ⟨ob, es, ep, t, k _ _ (.inl rfl) e, c⟩
  | ins C dx fs =>
    obtain ⟨d, z, ne, e, mA, ⟨od, es, ep, e2, c⟩, r⟩ := x
    exact ⟨ho _ d, z, ne, k _ _ (.inl rfl) e, mA, ⟨od, es, ep, k _ _ (.inr d) e2, c⟩, r⟩
  | own y => obtain ⟨ob, e⟩ := x; exact ⟨ob, k _ _ (.inl rfl) e⟩
  | xd fs => obtain ⟨mA, ⟨od, es, ep, e, c⟩, r⟩ := x; exact ⟨mA, ⟨od, es, ep, k _ _ (.inl rfl) e, c⟩, r⟩
  | rng lo hi => obtain ⟨t, u, v, e⟩ := x; exact ⟨t, u, v, k _ _ (.inl rfl) e⟩
  | frz ob u ih => obtain ⟨e, q⟩ := x; exact ⟨k _ _ (.inl rfl) e, ih q⟩
  | tbl ps =>
    have e : h.get? a = some { cls := .none, data := .fields ps } := x
    show h'.get? a = some { cls := .none, data := .fields ps }
    exact k a _ (.inl rfl) e
  | met f y =>
    have e : h.get? a = some (PySem.W.methodObj (.ref f) (.ref y)) := x
    show h'.get? a = some (PySem.W.methodObj (.ref f) (.ref y))
    exact k a _ (.inl rfl) e
  | ext φ => obtain ⟨p, ⟨o, e⟩, st⟩ := x; exact ⟨st _ _ p fun o q => k _ _ (.inl rfl) q, ⟨o, k _ _ (.inl rfl) e⟩, st⟩
theorem HOk.lt (x : HOk P w H h) (e : H a = some o) : a < h.objs.size := (x a o e).lt
theorem HOk.fresh (x : HOk P w H h) (e : h.objs.size ≤ a) : H a = none := by
  cases q : H a with
  | none => rfl
  | some u => exact absurd (Nat.lt_of_lt_of_le (x.lt q) e) (Nat.lt_irrefl _)
/-- every object of the heap is kept -/
theorem HOk.kept (x : HOk P w H h) (k : ∀ b u, h.get? b = some u → h'.get? b = some u) : HOk P w H h' := fun a o e =>
  (x a o e).stay (fun b u _ q => k b u q) (fun _ q => q) fun _ _ q => q
/-- a new object is laid and tracked -/
theorem HOk.laid (x : HOk P w H h) (k : ∀ b u, h.get? b = some u → h'.get? b = some u) (hp : h.objs.size ≤ a) (new : ObjOk P w (upd H a o) h' a o) : HOk P w (upd H a o) h' := fun b u e => by
  have hn := x.fresh hp
  by_cases hb : b = a
  · subst hb; rw [upd_same] at e; cases e; exact new
  · rw [upd_ne hb] at e
    exact (x b u e).stay (fun c v _ q => k c v q) (fun c q => by rw [upd_ne (ne_of_none q hn)]; exact q) fun c xs q => by rw [upd_ne (ne_of_none q hn)]; exact q
end

/-- what may be read as u: it is u, or a known u -/
def Rd (H : Hp) (a : Addr) (u : HO) : Prop := H a = some u ∨ ∃ o, H a = some (.frz o u)
theorem Rd.of {H : Hp} {a : Addr} {u : HO} (h : H a = some u) : Rd H a u := .inl h
theorem Rd.ok {P : Program} {w : World} {H : Hp} {h : Heap} {a : Addr} {u : HO} (r : Rd H a u) (x : HOk P w H h) : ObjOk P w H h a u := by
  rcases r with r | ⟨o, r⟩
  · exact x a u r
  · obtain ⟨_, q⟩ := x a _ r
    exact q
/-- what may be written -/
def Mut : Option HO → Prop
  | some (.lst _) => True
  | some (.dK _) => True
  | some (.dT _) => True
  | some (.set _ _) => True
  | some (.ins _ _ _) => True
  | some (.ext _) => True
  | _ => False
section
variable {P : Program} {w : World} {H : Hp} {h h' : Heap} {x e : Addr} {o' : HO}
/-- the object at e is changed: x itself, or the dict of the instance x -/
theorem HOk.write (ok : HOk P w H h) (mu : Mut (H x)) (he : e = x ∨ H e = some (.own x)) (k : ∀ b u, b ≠ e → h.get? b = some u → h'.get? b = some u) (heo : ∃ u, h'.get? e = some u)
    (new : ObjOk P w (upd H x o') h' x o') : HOk P w (upd H x o') h' := fun b u q => by
  have nown : ∀ c y, H c = some (.own y) → c ≠ x := fun c y r z => by subst z; rw [r] at mu; exact mu
  have ntup : ∀ c xs, H c = some (.tup xs) → c ≠ x := fun c xs r z => by subst z; rw [r] at mu; exact mu
  by_cases hb : b = x
  · subst hb; rw [upd_same] at q; cases q; exact new
  · rw [upd_ne hb] at q
    by_cases hbe : b = e
    · have q' : H b = some (.own x) := by
        rcases he with z | z
        · exact absurd (hbe.trans z) hb
        · rw [hbe]; exact z
      rw [q] at q'; cases q'
      obtain ⟨v, hv⟩ := heo
      exact ⟨v, by rw [hbe]; exact hv⟩
    · refine (ok b u q).stay (fun c v hc r => k c v ?_ r) (fun c r => by rw [upd_ne (nown c b r)]; exact r) fun c xs r => by rw [upd_ne (ntup c xs r)]; exact r
      rcases hc with rfl | hc
      · exact hbe
      · rintro rfl
        rcases he with z | z
        · exact nown c b hc z
        · rw [hc] at z; cases z; exact hb rfl
end

/-! ### kept unless tracked; of the frames at fs (the callers') the slots may change (an exception that passes writes there); of the records at ex (iterators) nothing is said -/
structure Un (fs ex : List Addr) (H H' : Hp) (h h' : Heap) : Prop where
  keep : ∀ b o, h.get? b = some o → H b = none → b ∉ fs → b ∉ ex → h'.get? b = some o
  slot : ∀ b o, h.get? b = some o → H b = none → b ∈ fs → b ∉ ex → ∃ sl, h'.get? b = some { o with slots := sl }
  free : ∀ b o, h.get? b = some o → H b = none → b ∉ ex → H' b = none
  there : ∀ b o, h.get? b = some o → b ∉ ex → ∃ o', h'.get? b = some o'
  tups : ∀ b xs, H b = some (.tup xs) → H' b = some (.tup xs)
  frzs : ∀ b o u, H b = some (.frz o u) → H' b = some (.frz o u)
  tbls : ∀ b ps, H b = some (.tbl ps) → ∃ more, H' b = some (.tbl (ps ++ more))
section
variable {fs fs' ex ex' : List Addr} {H H1 H2 : Hp} {h h1 h2 h' : Heap} {a x e : Addr} {o : HO}
theorem Un.any (u : Un fs ex H H1 h h1) {b : Addr} {ob : Obj} (q : h.get? b = some ob) (n : H b = none) (hx : b ∉ ex) : ∃ sl, h1.get? b = some { ob with slots := sl } := by
  by_cases hb : b ∈ fs
  · exact u.slot b ob q n hb hx
  · exact ⟨ob.slots, u.keep b ob q n hb hx⟩
theorem Un.trans (a : Un fs ex H H1 h h1) (b : Un fs ex H1 H2 h1 h2) : Un fs ex H H2 h h2 where
  keep := fun c ob q n hc hx => b.keep c ob (a.keep c ob q n hc hx) (a.free c ob q n hx) hc hx
  slot := fun c ob q n hc hx => by
    obtain ⟨sl, e1⟩ := a.slot c ob q n hc hx
    obtain ⟨sl', e2⟩ := b.slot c _ e1 (a.free c ob q n hx) hc hx
    exact ⟨sl', e2⟩
  free := fun c ob q n hx => by
    obtain ⟨o', e1⟩ := a.there c ob q hx
    exact b.free c o' e1 (a.free c ob q n hx) hx
  there := fun c ob q hx => by
    obtain ⟨o', e1⟩ := a.there c ob q hx
    exact b.there c o' e1 hx
  tups := fun c xs q => b.tups c xs (a.tups c xs q)
  frzs := fun c ob xs q => b.frzs c ob xs (a.frzs c ob xs q)
  tbls := fun c ps q => by
    obtain ⟨m1, e1⟩ := a.tbls c ps q
    obtain ⟨m2, e2⟩ := b.tbls c _ e1
    exact ⟨m1 ++ m2, by rw [e2, Array.append_assoc]⟩
theorem Un.kept (k : ∀ b u, h.get? b = some u → h'.get? b = some u) : Un fs ex H H h h' :=
  ⟨fun b ob q _ _ _ => k b ob q, fun b ob q _ _ _ => ⟨ob.slots, k b ob q⟩, fun _ _ _ n _ => n, fun b ob q _ => ⟨ob, k b ob q⟩, fun _ _ q => q, fun _ _ _ q => q, fun _ ps q => ⟨#[], by rw [q]; simp⟩⟩
theorem Un.refl : Un fs ex H H h h := Un.kept fun _ _ q => q
theorem Un.laid (k : ∀ b u, h.get? b = some u → h'.get? b = some u) (hp : h.objs.size ≤ a) (hn : H a = none) : Un fs ex H (upd H a o) h h' where
  keep := fun b u q _ _ _ => k b u q
  slot := fun b u q _ _ _ => ⟨u.slots, k b u q⟩
  free := fun b u q n _ => by rw [upd_ne (Nat.ne_of_lt (Nat.lt_of_lt_of_le (Heap.lt_size q) hp))]; exact n
  there := fun b u q _ => ⟨u, k b u q⟩
  tups := fun b xs q => by rw [upd_ne (ne_of_none q hn)]; exact q
  frzs := fun b u xs q => by rw [upd_ne (ne_of_none q hn)]; exact q
  tbls := fun b ps q => ⟨#[], by rw [upd_ne (ne_of_none q hn), q]; simp⟩
theorem Un.write (mu : Mut (H x)) (he : e = x ∨ H e = some (.own x)) (k : ∀ b u, b ≠ e → h.get? b = some u → h'.get? b = some u) (heo : ∃ u, h'.get? e = some u) : Un fs ex H (upd H x o) h h' := by
  have hx : ∀ b, H b = none → b ≠ x := fun b n z => by subst z; rw [n] at mu; exact mu
  have hb : ∀ b, H b = none → b ≠ e := fun b n z => by
    subst z
    rcases he with r | r
    · exact hx b n r
    · rw [n] at r; cases r
  have hm : ∀ b u, H b = some u → ¬ Mut (some u) → b ≠ x := fun b u q nm z => by subst z; rw [q] at mu; exact nm mu
  refine ⟨fun b u q n _ _ => k b u (hb b n) q, fun b u q n _ _ => ⟨u.slots, k b u (hb b n) q⟩, fun b u q n _ => by rw [upd_ne (hx b n)]; exact n, fun b u q _ => ?_,
    fun b xs q => by rw [upd_ne (hm b _ q fun z => z)]; exact q, fun b u xs q => by rw [upd_ne (hm b _ q fun z => z)]; exact q, fun b ps q => ⟨#[], by rw [upd_ne (hm b _ q fun z => z), q]; simp⟩⟩
  by_cases hbe : b = e
  · subst hbe; exact heo
  · exact ⟨u, k b u hbe q⟩
theorem Un.mono (u : Un fs ex H H1 h h1) (hs : ∀ b ∈ fs, b ∈ fs') (hx : ∀ b ∈ ex, b ∈ ex') : Un fs' ex' H H1 h h1 :=
  ⟨fun b ob q n hb he => u.keep b ob q n (fun z => hb (hs b z)) fun z => he (hx b z), fun _ _ q n _ he => u.any q n fun z => he (hx _ z), fun b ob q n he => u.free b ob q n fun z => he (hx b z), fun b ob q he => u.there b ob q fun z => he (hx b z), u.tups, u.frzs, u.tbls⟩
end

/-! ### the heap without what is tracked -/
def trk (h : Heap) (H : Hp) : List Addr := (List.range h.objs.size).filter fun a => (H a).isSome
def hidT (h : Heap) (H : Hp) : Heap := PySem.W.hideAll h (trk h H)
theorem hidT_size (h : Heap) (H : Hp) : (hidT h H).objs.size = h.objs.size := PySem.W.hideAll_size _ _
theorem hidT_get {h : Heap} {H : Hp} {b : Addr} {o : Obj} (e : h.get? b = some o) (n : H b = none) : (hidT h H).get? b = some o :=
  PySem.W.hideAll_get _ e fun hm => by
    have q : (H b).isSome = true := (List.mem_filter.mp hm).2
    rw [n] at q; simp at q
theorem of_hidT {h : Heap} {H : Hp} {b : Addr} {o : Obj} (e : (hidT h H).get? b = some o) : h.get? b = some o ∧ H b = none := by
  have e' : h.get? b = some o := PySem.W.of_hideAll (trk h H) e
  refine ⟨e', ?_⟩
  cases q : H b with
  | none => rfl
  | some x =>
    have hm : b ∈ trk h H := List.mem_filter.mpr ⟨List.mem_range.mpr (Heap.lt_size e'), by simp [q]⟩
    have z : (hidT h H).get? b = none := PySem.W.hideAll_none (trk h H) hm
    rw [z] at e; cases e

/-! ### OpenK's ledger, filled with every new object but one -/
def allNews (g h : Heap) (L : Addr) : List (Addr × Obj) := (List.range h.objs.size).filterMap fun a => if a = L ∨ (g.get? a).isSome = true then none else (h.get? a).map fun o => (a, o)
def rest (g h : Heap) (L d : Addr) : List (Addr × Obj) := (allNews g h L).filter fun p => decide (p.1 ≠ d)
end L2

namespace L2
open PySem PySem.Spec PyProof.Rows

/-- the module's facts, over the base: the heap at the law's entry without what is tracked there -/
structure Mod (K : PySem.W.Frag) (mg : Str → Option Value) (base : Heap) : Prop where
  kin : K.In base
  glob : base.Ns mainGlobals mg
  blt : ∃ mb, base.Ns builtinsNs mb ∧ ∀ x : Str, x ≠ "__name__" → mb x = bootBuiltins x
  nolimit : base.NoLimit

/-- the context: a def's body (or a comprehension's block) running. base: fixed through the whole law; s₀, H₀: the entry; outer: the frames whose slots others may change (a def's callers); stack: all frames that run;
   ex: iterators that were made ahead of the entry and are walked here (a comprehension's); fn: the names whose cells were made at the entry (a def: all; a comprehension's block: its own); calm: not within an except suite; pn: pins that every state bears; xe: what is wanted of an exception that leaves the code -/
structure Cx where
  prog : Program
  w : World
  K : PySem.W.Frag
  mg : Str → Option Value
  base : Heap
  A : Around
  N : List Str
  s₀ : Shared
  H₀ : Hp
  env : Env
  outer : List Env
  stack : List Env
  ex : List Addr
  fn : Str → Bool
  calm : Bool
  pn : List (Addr × Obj)
  xe : Value → Shared → Prop
/-- the callers' frames -/
def frs (l : List Env) : List Addr := l.filterMap (·.frame)
abbrev Cx.fs (X : Cx) : List Addr := frs X.outer

def Vis (sc : Scope) (x : Str) : Prop := sc.names.lookup x = some .local ∨ sc.names.lookup x = some .cell ∨ sc.names.lookup x = some .free
def Loc (sc : Scope) (x : Str) : Prop := sc.names.lookup x = some .local ∨ sc.names.lookup x = some .cell
def Look (env : Env) (h : Heap) (m : Str → Option Value) (x : Str) (u : Value) : Prop :=
  (env.kindOf x = some .local ∧ m x = some u) ∨ ((env.kindOf x = some .cell ∨ env.kindOf x = some .free) ∧ ∃ c, env.cells.lookup x = some c ∧ h.IsCell c (some u))

structure Cx.Ok (X : Cx) : Prop where
  mod : Mod X.K X.mg X.base
  kind : X.env.scope.kind = .function
  glob : X.env.globals = mainGlobals
  blt : X.env.builtins = builtinsNs
  above : X.s₀.heap.objs.size ≤ X.env.locals
  inj : ∀ x y c, X.env.cells.lookup x = some c → X.env.cells.lookup y = some c → x = y
  has : ∀ x, (X.env.kindOf x = some .cell ∨ X.env.kindOf x = some .free) → ∃ c, X.env.cells.lookup x = some c
  cab : ∀ x c, X.fn x = true → X.env.cells.lookup x = some c → X.s₀.heap.objs.size ≤ c
  hd : X.calm = true → X.A.handled = none
  frames : X.A.frames = some X.stack
  stk : X.stack = X.outer ∨ (X.stack = X.env :: X.outer ∧ X.env.frame = some X.env.locals)
  exf : ∀ b ∈ X.ex, b ≠ X.env.locals ∧ ∀ x c, X.env.cells.lookup x = some c → c ≠ b
  bs : ∀ b o, X.base.get? b = some o → X.s₀.heap.get? b = some o ∧ X.H₀ b = none
  bsz : X.base.objs.size ≤ X.s₀.heap.objs.size
  noex : ∀ b o, X.base.get? b = some o → b ∉ X.ex
  exfs : ∀ b ∈ X.ex, b ∉ X.fs
  funs : X.s₀.heap.FunFrames X.base X.outer
  frf : ∀ b ∈ X.fs, X.H₀ b = none

structure Inv (X : Cx) (pins : List (Addr × Obj)) (σ : List (Option V)) (H : Hp) (s : Shared) : Prop where
  ok : X.Ok
  os : s.os = X.s₀.os
  bare : AllBare s.gens
  base : Un X.fs X.ex X.H₀ H X.s₀.heap s.heap
  loc : ∃ m, s.heap.Ns X.env.locals m ∧ ∀ (i : Nat) (x : Str) (v : V), X.N[i]? = some x → σ[i]? = some (some v) → Vis X.env.scope x → ∃ u, RelV v u ∧ Look X.env s.heap m x u
  cell : ∀ x c, X.env.cells.lookup x = some c → ∃ v, s.heap.IsCell c v
  free : H X.env.locals = none
  freeC : ∀ x c, X.env.cells.lookup x = some c → H c = none
  pin : ∀ p ∈ X.pn ++ pins, s.heap.get? p.1 = some p.2 ∧ H p.1 = none ∧ p.1 ≠ X.env.locals ∧ p.1 ∉ X.fs ∧ ∀ v, p.2.data ≠ .cell v
  hok : HOk X.prog X.w H s.heap
  len : σ.length = X.N.length

section
variable {X : Cx} {pins : List (Addr × Obj)} {σ : List (Option V)} {H H' : Hp} {s : Shared} {h' : Heap}

theorem Cx.Ok.nofr (ok : X.Ok) {b : Addr} {o : Obj} (e : X.base.get? b = some o) : b ∉ X.fs := fun hb => by
  have := (ok.funs.mem hb).1
  rw [e] at this; cases this
theorem Inv.bs (I : Inv X pins σ H s) : ∀ b o, X.base.get? b = some o → s.heap.get? b = some o ∧ H b = none := fun b o e =>
  ⟨I.base.keep b o (I.ok.bs b o e).1 (I.ok.bs b o e).2 (I.ok.nofr e) (I.ok.noex b o e), I.base.free b o (I.ok.bs b o e).1 (I.ok.bs b o e).2 (I.ok.noex b o e)⟩
theorem Inv.bk (I : Inv X pins σ H s) : ∀ b o, X.base.get? b = some o → s.heap.get? b = some o := fun b o e => (I.bs b o e).1
theorem Inv.mod (I : Inv X pins σ H s) : Mod X.K X.mg X.base := I.ok.mod
theorem Inv.kIn (I : Inv X pins σ H s) : X.K.In s.heap := I.ok.mod.kin.keeps I.bk
theorem Inv.nolimit (I : Inv X pins σ H s) : s.heap.NoLimit := I.ok.mod.nolimit.keeps I.bk
/-- the frame over the base: for OpenK's rules (K.In X.base is I.mod.kin) -/
theorem Inv.fr (I : Inv X pins σ H s) : ∃ m, Fr X.base X.env.locals s.heap m :=
  let ⟨m, hn, _⟩ := I.loc
  ⟨m, hn, I.bk, Nat.le_trans I.ok.bsz I.ok.above⟩
theorem Inv.lt (I : Inv X pins σ H s) : X.env.locals < s.heap.objs.size := let ⟨_, hn, _⟩ := I.loc; hn.lt
theorem Inv.sz (I : Inv X pins σ H s) : X.s₀.heap.objs.size ≤ s.heap.objs.size := Nat.le_trans I.ok.above (Nat.le_of_lt I.lt)
theorem Inv.nofs (I : Inv X pins σ H s) {a : Addr} (h : s.heap.objs.size ≤ a) : a ∉ X.fs := fun hb => by
  obtain ⟨_, o, ho, _⟩ := I.ok.funs.mem hb
  exact absurd (Nat.lt_of_lt_of_le (Heap.lt_size ho) (Nat.le_trans I.sz h)) (Nat.lt_irrefl _)
theorem Inv.cne (I : Inv X pins σ H s) : ∀ x c, X.env.cells.lookup x = some c → c ≠ X.env.locals := fun x c e z => by
  obtain ⟨v, o, ho, hd⟩ := I.cell x c e
  obtain ⟨m, ⟨o', es, ep, ho', hd', _⟩, _⟩ := I.loc
  rw [z, ho'] at ho; cases ho; rw [hd'] at hd; cases hd
theorem Inv.funs (I : Inv X pins σ H s) : s.heap.FunFrames X.base X.outer := by
  have all : ∀ (l : List Env), (∀ b ∈ frs l, b ∈ X.fs) → X.s₀.heap.FunFrames X.base l → s.heap.FunFrames X.base l := by
    intro l
    induction l with
    | nil => intro _ _; trivial
    | cons env r ih =>
      intro hs hl
      obtain ⟨hk, ⟨L, o, hf, hn, ho, hd⟩, hr⟩ := hl
      have hL : L ∈ X.fs := hs L (by unfold frs; rw [List.filterMap_cons, hf]; exact List.mem_cons_self)
      obtain ⟨sl, e⟩ := I.base.slot L o ho (I.ok.frf L hL) hL fun z => I.ok.exfs L z hL
      exact ⟨hk, ⟨L, _, hf, hn, e, hd⟩, ih (fun b hb => hs b (by unfold frs; rw [List.filterMap_cons, hf]; exact List.mem_cons_of_mem _ hb)) hr⟩
  exact all X.outer (fun _ hb => hb) I.ok.funs

/-- the frames that run, for a call -/
theorem Inv.stack (I : Inv X pins σ H s) : s.heap.FunFrames X.base X.stack := by
  rcases I.ok.stk with e | ⟨e, hf⟩
  · rw [e]; exact I.funs
  · rw [e]
    obtain ⟨m, hn, _⟩ := I.loc
    refine .cons (by rw [I.ok.kind]; decide) hf hn ?_ I.funs
    exact Heap.get?_none_of_le (Nat.le_trans I.ok.bsz I.ok.above)
theorem Inv.stkSub (I : Inv X pins σ H s) : ∀ b ∈ frs X.stack, b ∈ X.env.locals :: X.fs := fun b hb => by
  rcases I.ok.stk with e | ⟨e, hf⟩
  · rw [e] at hb; exact List.mem_cons_of_mem _ hb
  · rw [e] at hb
    unfold frs at hb
    rw [List.filterMap_cons, hf] at hb
    exact hb
theorem Inv.stkFree (I : Inv X pins σ H s) : ∀ b ∈ frs X.stack, H b = none := fun b hb => by
  rcases List.mem_cons.mp (I.stkSub b hb) with e | hb
  · rw [e]; exact I.free
  · obtain ⟨_, o, ho, _⟩ := I.ok.funs.mem hb
    exact I.base.free b o ho (I.ok.frf b hb) fun z => I.ok.exfs b z hb

/-- THE STEP: the untracked objects but the frame and the records at ch are kept (the callers' frames up to slots), the frame's map is kept, the new abstract heap is held -/
theorem Inv.step {g' : Array GenState} {t' : Nat} {d' : Drawn} {ch : List Addr} (I : Inv X pins σ H s)
    (hch : ∀ b ∈ ch, (b ∈ X.ex ∨ X.s₀.heap.objs.size ≤ b) ∧ b ≠ X.env.locals ∧ (∀ x c, X.env.cells.lookup x = some c → c ≠ b) ∧ ∀ p ∈ X.pn ++ pins, p.1 ≠ b)
    (keep : ∀ b o, b ≠ X.env.locals → b ∉ X.fs → b ∉ ch → s.heap.get? b = some o → H b = none → h'.get? b = some o)
    (slot : ∀ b o, b ≠ X.env.locals → b ∈ X.fs → b ∉ ch → s.heap.get? b = some o → H b = none → ∃ sl, h'.get? b = some { o with slots := sl }) (free : ∀ b o, b ∉ ch → s.heap.get? b = some o → H b = none → H' b = none)
    (there : ∀ b o, b ∉ ch → s.heap.get? b = some o → ∃ o', h'.get? b = some o')
    (tups : ∀ b xs, H b = some (.tup xs) → H' b = some (.tup xs)) (frzs : ∀ b o u, H b = some (.frz o u) → H' b = some (.frz o u)) (tbls : ∀ b ps, H b = some (.tbl ps) → ∃ more, H' b = some (.tbl (ps ++ more)))
    (ns : ∀ m, s.heap.Ns X.env.locals m → h'.Ns X.env.locals m) (hok : HOk X.prog X.w H' h') (hg : AllBare g') :
    Inv X pins σ H' { s with heap := h', gens := g', drawn := d', toks := t' } := by
  have neL : ∀ b o, X.s₀.heap.get? b = some o → b ≠ X.env.locals := fun b o e => Nat.ne_of_lt (Nat.lt_of_lt_of_le (Heap.lt_size e) I.ok.above)
  have neC : ∀ b o, X.s₀.heap.get? b = some o → b ∉ X.ex → b ∉ ch := fun b o e hx hb => by
    rcases (hch b hb).1 with z | z
    · exact hx z
    · exact absurd (Nat.lt_of_lt_of_le (Heap.lt_size e) z) (Nat.lt_irrefl _)
  have cellK : ∀ x c, X.env.cells.lookup x = some c → ∀ v, s.heap.IsCell c v → h'.IsCell c v := fun x c e v ⟨o, ho, hd⟩ => by
    have nch : c ∉ ch := fun z => (hch c z).2.2.1 x c e rfl
    by_cases hc : c ∈ X.fs
    · obtain ⟨sl, q⟩ := slot c o (I.cne x c e) hc nch ho (I.freeC x c e)
      exact ⟨_, q, hd⟩
    · exact ⟨o, keep c o (I.cne x c e) hc nch ho (I.freeC x c e), hd⟩
  refine ⟨I.ok, I.os, hg, ⟨fun b o e n hb hx => ?_, fun b o e n hb hx => ?_, fun b o e n hx => ?_, fun b o e hx => ?_, fun b xs e => tups b xs (I.base.tups b xs e), fun b o xs e => frzs b o xs (I.base.frzs b o xs e), fun b ps e => ?_⟩, ?_, fun x c e => ?_, ?_, fun x c e => ?_, fun p hp => ?_, hok, I.len⟩
  · exact keep b o (neL b o e) hb (neC b o e hx) (I.base.keep b o e n hb hx) (I.base.free b o e n hx)
  · obtain ⟨sl, e1⟩ := I.base.slot b o e n hb hx
    obtain ⟨sl', e2⟩ := slot b _ (neL b o e) hb (neC b o e hx) e1 (I.base.free b o e n hx)
    exact ⟨sl', e2⟩
  · obtain ⟨o', e1⟩ := I.base.there b o e hx
    exact free b o' (neC b o e hx) e1 (I.base.free b o e n hx)
  · obtain ⟨o', e1⟩ := I.base.there b o e hx
    exact there b o' (neC b o e hx) e1
  · obtain ⟨m1, e1⟩ := I.base.tbls b ps e
    obtain ⟨m2, e2⟩ := tbls b _ e1
    exact ⟨m1 ++ m2, by rw [e2, Array.append_assoc]⟩
  · obtain ⟨m, hn, hl⟩ := I.loc
    refine ⟨m, ns m hn, fun i x v e1 e2 e3 => ?_⟩
    obtain ⟨u, r, l⟩ := hl i x v e1 e2 e3
    refine ⟨u, r, ?_⟩
    rcases l with l | ⟨k, c, e, z⟩
    · exact .inl l
    · exact .inr ⟨k, c, e, cellK x c e _ z⟩
  · obtain ⟨v, z⟩ := I.cell x c e
    exact ⟨v, cellK x c e v z⟩
  · obtain ⟨m, ⟨o, _, _, ho, _⟩, _⟩ := I.loc
    exact free _ o (fun z => (hch _ z).2.1 rfl) ho I.free
  · obtain ⟨v, o, ho, hd⟩ := I.cell x c e
    exact free c o (fun z => (hch c z).2.2.1 x c e rfl) ho (I.freeC x c e)
  · obtain ⟨e, n, ne, nf, d⟩ := I.pin p hp
    have nch : p.1 ∉ ch := fun z => (hch p.1 z).2.2.2 p hp rfl
    exact ⟨keep p.1 p.2 ne nf nch e n, free p.1 p.2 nch e n, ne, nf, d⟩
/-- .. where the frame's own object is kept too -/
theorem Inv.un {t' : Nat} (I : Inv X pins σ H s) (u : Un X.fs [] H H' s.heap h') (hok : HOk X.prog X.w H' h') : Inv X pins σ H' { s with heap := h', toks := t' } := by
  obtain ⟨m, ⟨o, es, ep, ho, r⟩, _⟩ := id I.loc
  obtain ⟨sl, hL⟩ := u.any ho I.free (by simp)
  exact I.step (g' := s.gens) (d' := s.drawn) (ch := []) (fun _ z => nomatch z) (fun b o _ hb _ e n => u.keep b o e n hb (by simp)) (fun b o _ hb _ e n => u.slot b o e n hb (by simp)) (fun b o _ e n => u.free b o e n (by simp)) (fun b o _ e => u.there b o e (by simp)) u.tups u.frzs u.tbls (fun m' hm => by
    obtain ⟨o', es', ep', ho', r'⟩ := hm
    rw [ho] at ho'; cases ho'
    exact ⟨_, es', ep', hL, r'⟩) hok I.bare
/-- behind a call (or a comprehension's block): the slots of this frame may have changed too, the records at ch may have turned -/
theorem Inv.call {g' : Array GenState} {t' : Nat} {d' : Drawn} {ch : List Addr} (I : Inv X pins σ H s) (u : Un (frs X.stack) ch H H' s.heap h') (hok : HOk X.prog X.w H' h') (hg : AllBare g')
    (hch : ∀ b ∈ ch, (b ∈ X.ex ∨ X.s₀.heap.objs.size ≤ b) ∧ b ≠ X.env.locals ∧ (∀ x c, X.env.cells.lookup x = some c → c ≠ b) ∧ ∀ p ∈ X.pn ++ pins, p.1 ≠ b) :
    Inv X pins σ H' { s with heap := h', gens := g', drawn := d', toks := t' } := by
  obtain ⟨m, ⟨o, es, ep, ho, r⟩, _⟩ := id I.loc
  obtain ⟨sl, hL⟩ := u.any ho I.free fun z => (hch _ z).2.1 rfl
  exact I.step (ch := ch) hch (fun b o hL hb hc e n => u.keep b o e n (fun z => (List.mem_cons.mp (I.stkSub b z)).elim hL hb) hc) (fun b o _ _ hc e n => u.any e n hc) (fun b o hc e n => u.free b o e n hc) (fun b o hc e => u.there b o e hc) u.tups u.frzs u.tbls (fun m' hm => by
    obtain ⟨o', es', ep', ho', r'⟩ := hm
    rw [ho] at ho'; cases ho'
    exact ⟨_, es', ep', hL, r'⟩) hok hg
/-- an untracked record of ours (an iterator) has turned -/
theorem Inv.turned {t' : Nat} {it : Addr} (I : Inv X pins σ H s) (k : ∀ b o, b ≠ it → s.heap.get? b = some o → h'.get? b = some o) (hn : H it = none) (hL : it ≠ X.env.locals)
    (h1 : it ∈ X.ex ∨ X.s₀.heap.objs.size ≤ it) (h2 : ∀ x c, X.env.cells.lookup x = some c → c ≠ it) (h3 : ∀ p ∈ X.pn ++ pins, p.1 ≠ it) : Inv X pins σ H { s with heap := h', toks := t' } := by
  have nit : ∀ b u, H b = some u → b ≠ it := fun b u e z => by rw [z, hn] at e; cases e
  refine I.step (g' := s.gens) (d' := s.drawn) (ch := [it]) (fun b hb => ?_) (fun b o _ _ hc e _ => k b o (fun z => hc (by simp [z])) e) (fun b o _ _ hc e _ => ⟨o.slots, k b o (fun z => hc (by simp [z])) e⟩) (fun _ _ _ _ n => n)
    (fun b o hc e => ⟨o, k b o (fun z => hc (by simp [z])) e⟩) (fun _ _ e => e) (fun _ _ _ e => e) (fun b ps e => ⟨#[], by rw [e]; simp⟩) (fun m hm => ?_) (fun b u e => ?_) I.bare
  · have e : b = it := by simpa using hb
    subst e
    exact ⟨h1, hL, h2, h3⟩
  · obtain ⟨o, es, ep, ho, r⟩ := hm
    exact ⟨o, es, ep, k _ o (Ne.symm hL) ho, r⟩
  · refine (I.hok b u e).stay (fun c v hc q => k c v ?_ q) (fun _ q => q) fun _ _ q => q
    rcases hc with z | z
    · rw [z]; exact nit b u e
    · exact nit c _ z
theorem Inv.tok (I : Inv X pins σ H s) (t : Nat) : Inv X pins σ H { s with toks := t } := I.un (h' := s.heap) (t' := t) Un.refl I.hok
/-- all objects kept -/
theorem Inv.kept {t' : Nat} (I : Inv X pins σ H s) (k : ∀ b u, s.heap.get? b = some u → h'.get? b = some u) : Inv X pins σ H { s with heap := h', toks := t' } := I.un (Un.kept k) (I.hok.kept k)
/-- a new object laid and tracked -/
theorem Inv.laid {a : Addr} {o : HO} {t' : Nat} (I : Inv X pins σ H s) (k : ∀ b u, s.heap.get? b = some u → h'.get? b = some u) (hp : s.heap.objs.size ≤ a) (new : ObjOk X.prog X.w (upd H a o) h' a o) :
    Inv X pins σ (upd H a o) { s with heap := h', toks := t' } := I.un (Un.laid k hp (I.hok.fresh hp)) (I.hok.laid k hp new)
/-- an object written -/
theorem Inv.write {x e : Addr} {o : HO} {t' : Nat} (I : Inv X pins σ H s) (mu : Mut (H x)) (he : e = x ∨ H e = some (.own x)) (k : ∀ b u, b ≠ e → s.heap.get? b = some u → h'.get? b = some u) (heo : ∃ u, h'.get? e = some u)
    (new : ObjOk X.prog X.w (upd H x o) h' x o) : Inv X pins σ (upd H x o) { s with heap := h', toks := t' } := I.un (Un.write mu he k heo) (I.hok.write mu he k heo new)
theorem Inv.pins_of {pins' : List (Addr × Obj)} (I : Inv X pins σ H s) (h : ∀ p ∈ pins', s.heap.get? p.1 = some p.2 ∧ H p.1 = none ∧ p.1 ≠ X.env.locals ∧ p.1 ∉ X.fs ∧ ∀ v, p.2.data ≠ .cell v) : Inv X pins' σ H s :=
  ⟨I.ok, I.os, I.bare, I.base, I.loc, I.cell, I.free, I.freeC, fun p hp => (List.mem_append.mp hp).elim (fun z => I.pin p (List.mem_append_left _ z)) (h p), I.hok, I.len⟩

theorem nodup_ix {N : List Str} (hN : N.Nodup) {i j : Nat} {x : Str} (a : N[i]? = some x) (b : N[j]? = some x) : i = j := by
  obtain ⟨h1, e1⟩ := List.getElem?_eq_some_iff.mp a
  obtain ⟨h2, e2⟩ := List.getElem?_eq_some_iff.mp b
  exact (List.getElem_inj hN).mp (e1.trans e2.symm)

/-- a name is stored; what changed -/
theorem store_ok2 {M : Model} {A : Around} {E : Value → Shared → Prop} {i : Nat} {x : Str} {v : V} {u : Value} {Q : Unit → Shared → Prop} (I : Inv X pins σ H s) (hN : X.N.Nodup) (hi : X.N[i]? = some x) (hx : Loc X.env.scope x) (r : RelV v u)
    (h : ∀ s', Inv X pins (σ.set i (some v)) H s' → (∃ a, Heap.SameBut a s.heap s'.heap ∧ (a = X.env.locals ∨ X.env.cells.lookup x = some a)) → Q () s') (hf : X.fn x = true ∨ X.env.scope.names.lookup x = some .local := by first | exact .inl rfl | exact .inr rfl | assumption) : wpAny M A (storeName X.env x u) Q E s := by
  obtain ⟨m, hn, hl⟩ := id I.loc
  have hcls : (X.env.scope.kind == .class || (X.env.scope.kind == .module && X.env.locals != X.env.globals)) = false := by rw [I.ok.kind]; rfl
  have hiσ : i < σ.length := by rw [I.len]; exact (List.getElem?_eq_some_iff.mp hi).1
  have cne := I.cne
  have tracked : ∀ {a : Addr} {h' : Heap}, (∃ o, s.heap.get? a = some o ∧ H a = none) → Heap.SameBut a s.heap h' → HOk X.prog X.w H h' := fun {a h'} ha hs b ob e => by
    obtain ⟨_, _, hfree⟩ := ha
    refine (I.hok b ob e).stay (fun c w' hc q => (hs.2 c ?_).trans q) (fun _ q => q) fun _ _ q => q
    rintro rfl
    rcases hc with rfl | hc
    · rw [hfree] at e; cases e
    · rw [hfree] at hc; cases hc
  rcases hx with hk | hk
  · refine wpAny_storeName_local hk hn (fun h' hn' hs => ?_) hcls
    obtain ⟨oL, _, _, hoL, _⟩ := id hn
    refine h _ ⟨I.ok, I.os, I.bare, ⟨fun b o e n hb hx => ?_, fun b o e n hb hx => ?_, I.base.free, fun b o e hx => ?_, I.base.tups, I.base.frzs, I.base.tbls⟩, ⟨_, hn', fun j y v' e1 e2 e3 => ?_⟩, fun y c e => ?_, I.free, I.freeC, fun p hp => ?_, tracked ⟨oL, hoL, I.free⟩ hs, by simpa using I.len⟩ ⟨_, hs, .inl rfl⟩
    · exact (hs.2 b (Nat.ne_of_lt (Nat.lt_of_lt_of_le (Heap.lt_size e) I.ok.above))).trans (I.base.keep b o e n hb hx)
    · obtain ⟨sl, e1⟩ := I.base.slot b o e n hb hx
      exact ⟨sl, (hs.2 b (Nat.ne_of_lt (Nat.lt_of_lt_of_le (Heap.lt_size e) I.ok.above))).trans e1⟩
    · obtain ⟨o', e1⟩ := I.base.there b o e hx
      exact ⟨o', (hs.2 b (Nat.ne_of_lt (Nat.lt_of_lt_of_le (Heap.lt_size e) I.ok.above))).trans e1⟩
    · by_cases hj : j = i
      · subst hj
        rw [hi] at e1; cases e1
        rw [List.getElem?_set_self hiσ] at e2
        cases e2
        exact ⟨u, r, .inl ⟨hk, by simp⟩⟩
      · rw [List.getElem?_set_ne (Ne.symm hj)] at e2
        obtain ⟨u', r', q⟩ := hl j y v' e1 e2 e3
        refine ⟨u', r', ?_⟩
        rcases q with ⟨k, e⟩ | ⟨k, c, e, z⟩
        · refine .inl ⟨k, ?_⟩
          have : y ≠ x := fun e => hj (nodup_ix hN e1 (e ▸ hi))
          simp [this, e]
        · exact .inr ⟨k, c, e, z.sameBut hs (cne y c e)⟩
    · obtain ⟨w', z⟩ := I.cell y c e
      exact ⟨w', z.sameBut hs (cne y c e)⟩
    · obtain ⟨e, n, ne, nf, d⟩ := I.pin p hp
      exact ⟨(hs.2 p.1 ne).trans e, n, ne, nf, d⟩
  · have hfn : X.fn x = true := by
      rcases hf with z | z
      · exact z
      · rw [z] at hk; cases hk
    obtain ⟨c, hc⟩ := I.ok.has x (.inl hk)
    obtain ⟨w', z⟩ := I.cell x c hc
    refine wpAny_storeName_cell I.ok.kind hk hc z (fun h' hc' hs => ?_)
    obtain ⟨oc, hoc, hocd⟩ := id z
    refine h { s with heap := h' } ⟨I.ok, I.os, I.bare, ⟨fun b o e n hb hx => ?_, fun b o e n hb hx => ?_, I.base.free, fun b o e hx => ?_, I.base.tups, I.base.frzs, I.base.tbls⟩, ⟨m, hn.sameBut hs (Ne.symm (cne x c hc)), fun j y v' e1 e2 e3 => ?_⟩, fun y c' e => ?_, I.free, I.freeC, fun p hp => ?_, tracked ⟨oc, hoc, I.freeC x c hc⟩ hs, by simpa using I.len⟩ ⟨c, hs, .inr hc⟩
    · exact (hs.2 b (Nat.ne_of_lt (Nat.lt_of_lt_of_le (Heap.lt_size e) (I.ok.cab x c hfn hc)))).trans (I.base.keep b o e n hb hx)
    · obtain ⟨sl, e1⟩ := I.base.slot b o e n hb hx
      exact ⟨sl, (hs.2 b (Nat.ne_of_lt (Nat.lt_of_lt_of_le (Heap.lt_size e) (I.ok.cab x c hfn hc)))).trans e1⟩
    · obtain ⟨o', e1⟩ := I.base.there b o e hx
      exact ⟨o', (hs.2 b (Nat.ne_of_lt (Nat.lt_of_lt_of_le (Heap.lt_size e) (I.ok.cab x c hfn hc)))).trans e1⟩
    · by_cases hj : j = i
      · subst hj
        rw [hi] at e1; cases e1
        rw [List.getElem?_set_self hiσ] at e2
        cases e2
        exact ⟨u, r, .inr ⟨.inl hk, c, hc, hc'⟩⟩
      · rw [List.getElem?_set_ne (Ne.symm hj)] at e2
        obtain ⟨u', r', q⟩ := hl j y v' e1 e2 e3
        refine ⟨u', r', ?_⟩
        rcases q with q | ⟨k, c', e, z'⟩
        · exact .inl q
        · refine .inr ⟨k, c', e, z'.sameBut hs ?_⟩
          rintro rfl
          exact hj (nodup_ix hN e1 (I.ok.inj _ _ _ e hc ▸ hi))
    · by_cases hcc : c' = c
      · subst hcc; exact ⟨_, hc'⟩
      · obtain ⟨w2, z2⟩ := I.cell y c' e
        exact ⟨w2, z2.sameBut hs hcc⟩
    · obtain ⟨e, n, ne, nf, d⟩ := I.pin p hp
      refine ⟨(hs.2 p.1 ?_).trans e, n, ne, nf, d⟩
      intro q
      rw [q, hoc] at e
      have q' : oc = p.2 := Option.some.inj e
      exact d w' (by rw [← q']; exact hocd)
theorem store_ok {M : Model} {A : Around} {E : Value → Shared → Prop} {i : Nat} {x : Str} {v : V} {u : Value} {Q : Unit → Shared → Prop} (I : Inv X pins σ H s) (hN : X.N.Nodup) (hi : X.N[i]? = some x) (hx : Loc X.env.scope x) (r : RelV v u)
    (h : ∀ s', Inv X pins (σ.set i (some v)) H s' → Q () s') (hf : X.fn x = true ∨ X.env.scope.names.lookup x = some .local := by first | exact .inl rfl | exact .inr rfl | assumption) : wpAny M A (storeName X.env x u) Q E s :=
  store_ok2 I hN hi hx r (fun s' I' _ => h s' I') hf
/-- behind a call or a block, the state as it is -/
theorem Inv.call' {s' : Shared} {ch : List Addr} (I : Inv X pins σ H s) (ho : s'.os = s.os) (u : Un (frs X.stack) ch H H' s.heap s'.heap) (hok : HOk X.prog X.w H' s'.heap) (hg : AllBare s'.gens)
    (hch : ∀ b ∈ ch, (b ∈ X.ex ∨ X.s₀.heap.objs.size ≤ b) ∧ b ≠ X.env.locals ∧ (∀ x c, X.env.cells.lookup x = some c → c ≠ b) ∧ ∀ p ∈ X.pn ++ pins, p.1 ≠ b) : Inv X pins σ H' s' := by
  obtain ⟨h', g', d', t', o'⟩ := s'
  have e : o' = s.os := ho
  subst e
  exact I.call (g' := g') (t' := t') (d' := d') u hok hg hch
end

/-! ### the judgements -/
/-- an exception: its class, its own dict's address (where it has one), the abstract heap behind it -/
abbrev XK := Value → Option Addr → Hp → Prop
abbrev St := List (Option V)
abbrev VK := V → Hp → Prop
/-- an expression's reading; a test's; an argument list's -/
abbrev TE := St → Hp → VK → Prop
abbrev TT := St → Hp → (Bool → Hp → Prop) → Prop
abbrev TA := St → Hp → (List V → Hp → Prop) → Prop
/-- what is wanted behind a statement -/
structure Ends where
  nx : St → Hp → Prop
  rt : VK
  bk : St → Hp → Prop := fun _ _ => False
  ct : St → Hp → Prop := fun _ _ => False
abbrev TS := Ends → St → Hp → Prop

def EP (X : Cx) (pins : List (Addr × Obj)) (σ : St) (Q : VK) (u : Value) (s' : Shared) : Prop := ∃ v H', Inv X pins σ H' s' ∧ RelV v u ∧ Q v H'
def TP (X : Cx) (pins : List (Addr × Obj)) (σ : St) (Q : Bool → Hp → Prop) (b : Bool) (s' : Shared) : Prop := ∃ H', Inv X pins σ H' s' ∧ Q b H'
def AP (X : Cx) (pins : List (Addr × Obj)) (σ : St) (Q : List V → Hp → Prop) (us : List Value) (s' : Shared) : Prop := ∃ vs H', Inv X pins σ H' s' ∧ Vals vs us ∧ Q vs H'
def SP (X : Cx) (pins : List (Addr × Obj)) (D : Ends) (f : Flow) (s' : Shared) : Prop :=
  match f with
  | .next => ∃ σ' H', Inv X pins σ' H' s' ∧ D.nx σ' H'
  | .brk => ∃ σ' H', Inv X pins σ' H' s' ∧ D.bk σ' H'
  | .cont => ∃ σ' H', Inv X pins σ' H' s' ∧ D.ct σ' H'
  | .ret u => ∃ v σ' H', Inv X pins σ' H' s' ∧ RelV v u ∧ D.rt v H'

def PE (X : Cx) (e : Expr) (t : TE) : Prop :=
  ∀ (pins : List (Addr × Obj)) (s : Shared) (σ : St) (H : Hp) (Q : VK), Inv X pins σ H s → t σ H Q → wpAny (model X.prog X.w) X.A (eval e X.env) (EP X pins σ Q) X.xe s
def PT (X : Cx) (e : Expr) (t : TT) : Prop :=
  ∀ (pins : List (Addr × Obj)) (s : Shared) (σ : St) (H : Hp) (Q : Bool → Hp → Prop), Inv X pins σ H s → t σ H Q → wpAny (model X.prog X.w) X.A (isTrue e X.env (eval e X.env)) (TP X pins σ Q) X.xe s
/-- a test whatever its 'whole' is (and, or) -/
def PW (X : Cx) (e : Expr) (t : TT) : Prop :=
  ∀ (whole : Sem Value) (pins : List (Addr × Obj)) (s : Shared) (σ : St) (H : Hp) (Q : Bool → Hp → Prop), Inv X pins σ H s → t σ H Q → wpAny (model X.prog X.w) X.A (isTrue e X.env whole) (TP X pins σ Q) X.xe s
theorem PW.pt {X : Cx} {e : Expr} {t : TT} (h : PW X e t) : PT X e t := h _
/-- an argument list (no star), from the left -/
def PA (X : Cx) (es : List Expr) (t : TA) : Prop :=
  ∀ (pos : Pos) (pins : List (Addr × Obj)) (s : Shared) (σ : St) (H : Hp) (Q : List V → Hp → Prop), Inv X pins σ H s → t σ H Q → wpAny (model X.prog X.w) X.A (spliced (backTo pos (starEach es X.env))) (AP X pins σ Q) X.xe s
def PS (X : Cx) (st : Stmt) (t : TS) : Prop :=
  ∀ (pins : List (Addr × Obj)) (s : Shared) (σ : St) (H : Hp) (D : Ends), Inv X pins σ H s → t D σ H → wpAny (model X.prog X.w) X.A (exec st X.env) (SP X pins D) X.xe s
def PSs (X : Cx) (st : List Stmt) (t : TS) : Prop :=
  ∀ (pins : List (Addr × Obj)) (s : Shared) (σ : St) (H : Hp) (D : Ends), Inv X pins σ H s → t D σ H → wpAny (model X.prog X.w) X.A (execs st X.env) (SP X pins D) X.xe s
/-- weaken the end -/
theorem thn {α : Type} {t : Sem α} {Q Q' : α → Shared → Prop} {M : Model} {A : Around} {E : Value → Shared → Prop} {s : Shared} (h : wpAny M A t Q E s) (hQ : ∀ a s, Q a s → Q' a s) : wpAny M A t Q' E s := wpAny_mono h hQ fun _ _ x => x
end L2

namespace L2
open PySem PySem.Spec PyProof.Rows
section
variable {X : Cx}

/-! ### names and constants -/
def tVar (i : Nat) : TE := fun σ H Q => ∃ v, σ[i]? = some (some v) ∧ Q v H
def tC (v : V) : TE := fun _ H Q => Q v H
theorem pe_var {i : Nat} {x : Str} {pos : Pos} (hN : X.N[i]? = some x) (hv : Vis X.env.scope x) (hd : (x == ("__debug__" : Str)) = false := by decide) (hcd : (x == ("__classdict__" : Str)) = false := by decide) : PE X (.Name x pos) (tVar i) := by
  intro pins s σ H Q I h
  obtain ⟨v, e, h⟩ := h
  obtain ⟨m, hn, hl⟩ := I.loc
  obtain ⟨u, r, l⟩ := hl i x v hN e hv
  have fin : EP X pins σ Q u s := ⟨v, H, I, r, h⟩
  rcases l with ⟨hk, hm⟩ | ⟨hk, c, hc, hcell⟩
  · exact wpAny_Name (wpAny_loadName_local I.ok.kind hk hn hm fin) hd
  · rcases hk with hk | hk
    · exact wpAny_Name (wpAny_loadName_cell I.ok.kind hk hc hcell fin) hd
    · exact wpAny_Name (wpAny_loadName_free I.ok.kind hk hc hcell fin hcd) hd
theorem pe_int {i j pos} : PE X (.Constant (.int i) j pos) (tC (.int i)) := fun _ _ _ H _ I h => wpAny_Constant_int ⟨.int i, H, I.tok _, ⟨_, rfl⟩, h⟩
theorem pe_bl {b j pos} : PE X (.Constant (.bool b) j pos) (tC (.bl b)) := fun _ _ _ H _ I h => Constant_bool ⟨.bl b, H, I, rfl, h⟩
theorem pe_str {x j pos} : PE X (.Constant (.str x) j pos) (tC (.str x)) := fun _ _ _ H _ I h => Calls.Constant_str ⟨.str x, H, I.tok _, ⟨_, rfl⟩, h⟩

/-- a global name of the def -/
def Gl (X : Cx) (x : Str) : Prop := X.env.kindOf x = some .globalImplicit
theorem ld_glob {E : Value → Shared → Prop} {pins : List (Addr × Obj)} {s : Shared} {σ : St} {H : Hp} {x : Str} {u : Value} {pos : Pos} {Q : Value → Shared → Prop} (I : Inv X pins σ H s) (hg : Gl X x) (hm : X.mg x = some u) (h : Q u s)
    (hd : (x == ("__debug__" : Str)) = false := by decide) : wpAny (model X.prog X.w) X.A (eval (.Name x pos) X.env) Q E s :=
  Calls.Name_function_global I.ok.kind hg (Calls.loadGlobal_global (by rw [I.ok.glob]; exact I.mod.glob.keeps I.bk) hm h) hd
theorem ld_blt {E : Value → Shared → Prop} {pins : List (Addr × Obj)} {s : Shared} {σ : St} {H : Hp} {x : Str} {u : Value} {pos : Pos} {Q : Value → Shared → Prop} (I : Inv X pins σ H s) (hg : Gl X x) (hm : X.mg x = none) (hv : bootBuiltins x = some u) (h : Q u s)
    (hn : x ≠ "__name__" := by decide) (hd : (x == ("__debug__" : Str)) = false := by decide) : wpAny (model X.prog X.w) X.A (eval (.Name x pos) X.env) Q E s := by
  obtain ⟨mb, h1, h2⟩ := I.mod.blt
  exact Calls.Name_function_global I.ok.kind hg (Calls.loadGlobal_builtin (by rw [I.ok.glob]; exact I.mod.glob.keeps I.bk) hm (by rw [I.ok.blt]; exact h1.keeps I.bk) ((h2 x hn).trans hv) h) hd
/-- a module's constant, a class, a function, as a value -/
theorem pe_glob {x : Str} {v : V} {u : Value} {pos : Pos} (hg : Gl X x) (hm : X.mg x = some u) (r : RelV v u) (hd : (x == ("__debug__" : Str)) = false := by decide) : PE X (.Name x pos) (tC v) :=
  fun _ _ _ H _ I h => ld_glob I hg hm ⟨v, H, I, r, h⟩ hd
theorem pe_bltn {x : Str} {v : V} {u : Value} {pos : Pos} (hg : Gl X x) (hm : X.mg x = none) (hv : bootBuiltins x = some u) (r : RelV v u) (hn : x ≠ "__name__" := by decide) (hd : (x == ("__debug__" : Str)) = false := by decide) : PE X (.Name x pos) (tC v) :=
  fun _ _ _ H _ I h => ld_blt I hg hm hv ⟨v, H, I, r, h⟩ hn hd

/-! ### arithmetic -/
variable {a b : Expr} {ta tb : TE} {pos : Pos}
/-! ### comparisons -/
def PC (X : Cx) (op : CmpOp) (a b : Expr) (t : TE) : Prop :=
  ∀ (pins : List (Addr × Obj)) (s : Shared) (σ : St) (H : Hp) (Q : VK), Inv X pins σ H s → t σ H Q →
    wpAny (model X.prog X.w) X.A (eval a X.env) (fun v s₁ => wpAny (model X.prog X.w) X.A (eval b X.env) (fun u s₂ => wpAny (model X.prog X.w) X.A (compareOp op v u) (EP X pins σ Q) X.xe s₂) X.xe s₁) X.xe s
theorem nobehind (b : Expr) {op : CmpOp} (h : op ≠ .In) (h2 : op ≠ .NotIn) : behindInMarks op b = false := by
  have e1 : (op == CmpOp.In) = false := by cases op <;> first | rfl | exact absurd rfl h
  have e2 : (op == CmpOp.NotIn) = false := by cases op <;> first | rfl | exact absurd rfl h2
  cases b <;> simp [behindInMarks, e1, e2]
/-- is None -/
def tIsN (ta : TE) : TE := fun σ H Q => ta σ H fun x H1 => Q (.bl (decide (x = .non))) H1
/-- a comparison as a value, as a test -/
def tB (t : TE) : TT := fun σ H Q => t σ H fun x H1 => ∃ c, x = .bl c ∧ Q c H1
theorem pt_cmp {op : CmpOp} {t : TE} (h : PC X op a b t) (h1 : behindInMarks op b = false := by first | exact nobehind _ (by decide) (by decide) | rfl) : PT X (.Compare a [op] [b] pos) (tB t) := by
  intro pins s σ H Q I hw
  refine wpAny_isTrue_Compare1 (thn (h pins s σ H _ I hw) fun v s1 h1 => thn h1 fun u s2 h2 => thn h2 fun c s3 ⟨x, H1, I1, r1, q1⟩ => ?_) h1
  obtain ⟨d, rfl, q⟩ := q1
  cases r1
  exact wpAny_truthy_bool ⟨H1, I1, q⟩
/-- an expression whose value is a bool, as a test -/
theorem pt_val {e : Expr} {t : TE} (h : PE X e t) (he : ∀ whole, isTrue e X.env whole = (do let v ← whole; standAt e.pos; holding [v] (truthy v)) := by intro _; rfl) : PT X e (tB t) := by
  intro pins s σ H Q I hw
  refine isTrue_plain (thn (h pins s σ H _ I hw) fun v s1 ⟨x, H1, I1, r1, q1⟩ => ?_) (he _)
  obtain ⟨d, rfl, q⟩ := q1
  cases r1
  exact wpAny_truthy_bool ⟨H1, I1, q⟩

/-! ### and, or, not -/
variable {tA tB' : TT} {rest : List Expr}
def tAnd (t u : TT) : TT := fun σ H Q => t σ H fun c H1 => if c = true then u σ H1 Q else Q false H1
def tOr (t u : TT) : TT := fun σ H Q => t σ H fun c H1 => if c = true then Q true H1 else u σ H1 Q
def tNot (t : TT) : TT := fun σ H Q => t σ H fun c H1 => Q (!c) H1
theorem pw_and1 (ha : PT X a tA) : PW X (.BoolOp .And [a] pos) tA := by
  intro wh pins s σ H Q I h
  refine isTrue_and (thn (ha pins s σ H Q I h) fun c s1 e => ?_)
  cases c with
  | true => exact isTrue_and_nil e
  | false => exact e
theorem pw_or1 (ha : PT X a tA) : PW X (.BoolOp .Or [a] pos) tA := by
  intro wh pins s σ H Q I h
  refine isTrue_or (thn (ha pins s σ H Q I h) fun c s1 e => ?_)
  cases c with
  | false => exact isTrue_or_nil e
  | true => exact e
theorem pw_and (ha : PT X a tA) (hb : PW X (.BoolOp .And (b :: rest) pos) tB') : PW X (.BoolOp .And (a :: b :: rest) pos) (tAnd tA tB') := by
  intro wh pins s σ H Q I h
  refine isTrue_and (thn (ha pins s σ H _ I h) fun c s1 ⟨H1, I1, q1⟩ => ?_)
  cases c with
  | true => exact hb wh pins s1 σ H1 Q I1 q1
  | false => exact ⟨H1, I1, q1⟩
theorem pw_or (ha : PT X a tA) (hb : PW X (.BoolOp .Or (b :: rest) pos) tB') : PW X (.BoolOp .Or (a :: b :: rest) pos) (tOr tA tB') := by
  intro wh pins s σ H Q I h
  refine isTrue_or (thn (ha pins s σ H _ I h) fun c s1 ⟨H1, I1, q1⟩ => ?_)
  cases c with
  | true => exact ⟨H1, I1, q1⟩
  | false => exact hb wh pins s1 σ H1 Q I1 q1
theorem pt_not (ha : PT X a tA) : PT X (.UnaryOp .Not a pos) (tNot tA) := by
  intro pins s σ H Q I h
  exact isTrue_not (ha pins s σ H (fun c H1 => Q (!c) H1) I h)
/-- .. as values (bools) -/
def tAndV (ta tb : TE) : TE := fun σ H Q => ta σ H fun x H1 => ∃ c, x = .bl c ∧ if c = true then tb σ H1 Q else Q (.bl false) H1
def tNotV (ta : TE) : TE := fun σ H Q => ta σ H fun x H1 => ∃ c, x = .bl c ∧ Q (.bl (!c)) H1
theorem pe_one {op} {t : TE} (h : PE X a t) : PE X (.BoolOp op [a] pos) t := fun pins s σ H Q I hw => BoolOp_one (h pins s σ H Q I hw)
theorem pe_and (ha : PE X a ta) (hb : PE X (.BoolOp .And (b :: rest) pos) tb) : PE X (.BoolOp .And (a :: b :: rest) pos) (tAndV ta tb) := by
  intro pins s σ H Q I h
  refine BoolOp_and (thn (ha pins s σ H _ I h) fun v s1 ⟨x, H1, I1, r1, q1⟩ => ?_)
  obtain ⟨c, rfl, q1⟩ := q1
  cases r1
  refine wpAny_truthy_bool ?_
  cases c with
  | true => exact hb pins s1 σ H1 Q I1 q1
  | false => exact ⟨.bl false, H1, I1, rfl, q1⟩
theorem pe_not (ha : PE X a ta) : PE X (.UnaryOp .Not a pos) (tNotV ta) := by
  intro pins s σ H Q I h
  refine UnaryOp_ (thn (ha pins s σ H _ I h) fun v s1 ⟨x, H1, I1, r1, q1⟩ => ?_)
  obtain ⟨c, rfl, q1⟩ := q1
  cases r1
  exact not_of (wpAny_truthy_bool ⟨.bl (!c), H1, I1, rfl, q1⟩)
end
end L2

namespace L2
open PySem PySem.Spec PyProof.Rows

/-! ### a list, a tuple that is read: tracked, frozen, or an object of the module -/
def SqL (K : PySem.W.Frag) (H : Hp) (a : Addr) (xs : List V) : Prop :=
  Rd H a (.lst xs) ∨
    ∃ (o : Obj) (its : Array Value) (n : Nat), K.lookup a = some o ∧ o.cls = .type "list" ∧ o.dict = none ∧ o.data = .seq its n ∧ its.size ≤ sizeLine ∧ Vals xs its.toList
def SqT (K : PySem.W.Frag) (H : Hp) (a : Addr) (xs : List V) : Prop :=
  Rd H a (.tup xs) ∨
    ∃ (o : Obj) (its : Array Value) (n : Nat), K.lookup a = some o ∧ o.cls = .type "tuple" ∧ o.data = .seq its n ∧ its.size ≤ sizeLine ∧ Vals xs its.toList
def absV : Value → Option V
  | .none => some .non
  | .bool b => some (.bl b)
  | .int i _ => some (.int i)
  | .str x _ => some (.str x)
  | .bytes b _ => some (.byt b)
  | .float b _ => some (.flt b)
  | .ref a => some (.ref a)
  | .type n => some (.ty n)
  | _ => none
theorem RelV.abs {x : V} {u : Value} (r : RelV x u) : absV u = some x := by
  cases x with
  | non => cases r; rfl
  | bl _ => cases r; rfl
  | int _ => obtain ⟨t, rfl⟩ := r; rfl
  | str _ => obtain ⟨t, rfl⟩ := r; rfl
  | byt _ => obtain ⟨t, rfl⟩ := r; rfl
  | flt _ => obtain ⟨t, rfl⟩ := r; rfl
  | ref _ => cases r; rfl
  | ty _ => cases r; rfl
theorem RelV.inj {x y : V} {u : Value} (r : RelV x u) (q : RelV y u) : x = y := Option.some.inj (r.abs.symm.trans q.abs)
theorem Vals.inj : ∀ {xs ys : List V} {us : List Value}, Vals xs us → Vals ys us → xs = ys
  | _, _, _, .nil, .nil => rfl
  | _, _, _, .cons r t, .cons r' t' => by rw [r.inj r', Vals.inj t t']
section
variable {X : Cx} {pins : List (Addr × Obj)} {σ : St} {H : Hp} {s : Shared} {a : Addr} {xs ys : List V}
theorem SqL.of {K : PySem.W.Frag} (h : H a = some (.lst xs)) : SqL K H a xs := .inl (.inl h)
theorem SqT.of {K : PySem.W.Frag} (h : H a = some (.tup xs)) : SqT K H a xs := .inl (.inl h)
theorem Inv.list (I : Inv X pins σ H s) (h : SqL X.K H a xs) : ∃ its : List Value, Vals xs its ∧ PlainL s.heap a its.toArray ∧ xs.length ≤ sizeLine := by
  rcases h with h | ⟨o, its, n, hk, hc, hd, hs, hz, r⟩
  · obtain ⟨z, its, n, r, e⟩ := h.ok I.hok
    exact ⟨its, r, ⟨_, n, e, rfl, rfl, rfl⟩, z⟩
  · refine ⟨its.toList, r, ⟨o, n, I.kIn a o hk, hc, hd, by simpa using hs⟩, ?_⟩
    have e := r.length
    simp only [Array.length_toList] at e
    omega
theorem Inv.tuple (I : Inv X pins σ H s) (h : SqT X.K H a xs) : ∃ its : List Value, Vals xs its ∧ IsTup s.heap a its.toArray ∧ xs.length ≤ sizeLine := by
  rcases h with h | ⟨o, its, n, hk, hc, hs, hz, r⟩
  · obtain ⟨z, its, r, p⟩ := h.ok I.hok
    exact ⟨its, r, p, z⟩
  · refine ⟨its.toList, r, ⟨o, I.kIn a o hk, hc, n, by simpa using hs⟩, ?_⟩
    have e := r.length
    simp only [Array.length_toList] at e
    omega
theorem Inv.list_inj (I : Inv X pins σ H s) (h : SqL X.K H a xs) (h' : SqL X.K H a ys) : xs = ys := by
  obtain ⟨its, r, ⟨o, n, e, _, _, d⟩, _⟩ := I.list h
  obtain ⟨its', r', ⟨o', n', e', _, _, d'⟩, _⟩ := I.list h'
  rw [e] at e'; cases e'
  rw [d] at d'
  injection d' with d1 _
  have : its = its' := by simpa using congrArg Array.toList d1
  subst this
  exact r.inj r'
end

/-! ### another wish about exceptions -/
abbrev Cx.wish (X : Cx) (E : Value → Shared → Prop) : Cx := { X with xe := E }
/-- no exception leaves -/
abbrev Cx.nox (X : Cx) : Cx := X.wish fun _ _ => False
theorem Cx.Ok.wish {X : Cx} (ok : X.Ok) (E : Value → Shared → Prop) : (X.wish E).Ok :=
  ⟨ok.mod, ok.kind, ok.glob, ok.blt, ok.above, ok.inj, ok.has, ok.cab, ok.hd, ok.frames, ok.stk, ok.exf, ok.bs, ok.bsz, ok.noex, ok.exfs, ok.funs, ok.frf⟩
theorem Cx.Ok.unwish {X : Cx} {E : Value → Shared → Prop} (ok : (X.wish E).Ok) : X.Ok :=
  ⟨ok.mod, ok.kind, ok.glob, ok.blt, ok.above, ok.inj, ok.has, ok.cab, ok.hd, ok.frames, ok.stk, ok.exf, ok.bs, ok.bsz, ok.noex, ok.exfs, ok.funs, ok.frf⟩
section
variable {X : Cx} {pins : List (Addr × Obj)} {σ : St} {H : Hp} {s : Shared} {E : Value → Shared → Prop}
theorem Inv.wish (I : Inv X pins σ H s) (E : Value → Shared → Prop) : Inv (X.wish E) pins σ H s := ⟨I.ok.wish E, I.os, I.bare, I.base, I.loc, I.cell, I.free, I.freeC, I.pin, I.hok, I.len⟩
theorem Inv.unwish (I : Inv (X.wish E) pins σ H s) : Inv X pins σ H s := ⟨I.ok.unwish, I.os, I.bare, I.base, I.loc, I.cell, I.free, I.freeC, I.pin, I.hok, I.len⟩
theorem SP.unwish {D : Ends} {f : Flow} {s' : Shared} (h : SP (X.wish E) pins D f s') : SP X pins D f s' := by
  cases f with
  | next => obtain ⟨σ', H', I, q⟩ := h; exact ⟨σ', H', I.unwish, q⟩
  | brk => obtain ⟨σ', H', I, q⟩ := h; exact ⟨σ', H', I.unwish, q⟩
  | cont => obtain ⟨σ', H', I, q⟩ := h; exact ⟨σ', H', I.unwish, q⟩
  | ret u => obtain ⟨v, σ', H', I, r, q⟩ := h; exact ⟨v, σ', H', I.unwish, r, q⟩
theorem PE.nox {e : Expr} {t : TE} (h : PE X.nox e t) : PE X e t := fun pins s σ H Q I hw =>
  wpAny_mono (h pins s σ H Q (I.wish _) hw) (fun _ _ ⟨v, H', I', r, q⟩ => ⟨v, H', I'.unwish, r, q⟩) fun _ _ z => False.elim z
theorem PT.nox {e : Expr} {t : TT} (h : PT X.nox e t) : PT X e t := fun pins s σ H Q I hw =>
  wpAny_mono (h pins s σ H Q (I.wish _) hw) (fun _ _ ⟨H', I', q⟩ => ⟨H', I'.unwish, q⟩) fun _ _ z => False.elim z
theorem PSs.nox {st : List Stmt} {t : TS} (h : PSs X.nox st t) : PSs X st t := fun pins s σ H D I hw =>
  wpAny_mono (h pins s σ H D (I.wish _) hw) (fun _ _ q => q.unwish) fun _ _ z => False.elim z
end

/-! ### blocks and small statements -/
section
variable {X : Cx} {st : Stmt} {rest : List Stmt} {t u : TS} {e : Expr} {te : TE} {pos : Pos}
def tNext : TS := fun D σ H => D.nx σ H
def tSeq (t u : TS) : TS := fun D σ H => t { D with nx := u D } σ H
theorem pss_nil : PSs X [] tNext := fun _ _ σ H _ I h => wpAny_execs_nil ⟨σ, H, I, h⟩
theorem pss_cons (h1 : PS X st t) (h2 : PSs X rest u) : PSs X (st :: rest) (tSeq t u) := by
  intro pins s σ H D I h
  refine wpAny_execs_cons (thn (h1 pins s σ H { D with nx := u D } I h) fun f s1 q => ?_)
  cases f with
  | next =>
    obtain ⟨σ', H', I', q⟩ := q
    exact h2 pins s1 σ' H' D I' q
  | ret v => exact q
  | brk => exact q
  | cont => exact q
theorem pss_one (h1 : PS X st t) : PSs X [st] t := by
  intro pins s σ H D I h
  refine wpAny_execs_cons (thn (h1 pins s σ H D I h) fun f s1 q => ?_)
  cases f with
  | next => exact wpAny_execs_nil q
  | ret v => exact q
  | brk => exact q
  | cont => exact q
/-- in a def's body nothing is shown -/
theorem Inv.quiet {pins : List (Addr × Obj)} {σ : St} {H : Hp} {s : Shared} (I : Inv X pins σ H s) : interactive X.env = false := by simp [interactive, I.ok.kind]
/-- an expression whose value is dropped -/
def tDrop (te : TE) : TS := fun D σ H => te σ H fun _ H1 => D.nx σ H1
theorem ps_expr (he : PE X e te) (hs : swapsWith e none pos.line X.env = pure false := by rfl) : PS X (.Expr e pos) (tDrop te) := by
  intro pins s σ H D I h
  exact wpAny_Expr_any (thn (he pins s σ H _ I h) fun v s1 ⟨x, H1, I1, r1, q1⟩ => ⟨σ, H1, I1, q1⟩) I.quiet hs
def tRet (te : TE) : TS := fun D σ H => te σ H D.rt
theorem ps_ret (he : PE X e te) : PS X (.Return (some e) pos) (tRet te) := by
  intro pins s σ H D I h
  exact wpAny_Return_some (thn (he pins s σ H _ I h) fun v s1 ⟨x, H1, I1, r1, q1⟩ => ⟨x, σ, H1, I1, r1, q1⟩)
def tIfS (c : TT) (t u : TS) : TS := fun D σ H => c σ H fun b H1 => if b = true then t D σ H1 else u D σ H1
theorem ps_if {c : Expr} {a b : List Stmt} {tc : TT} (hc : PT X c tc) (ha : PSs X a t) (hb : PSs X b u) : PS X (.If c a b pos) (tIfS tc t u) := by
  intro pins s σ H D I h
  refine wpAny_If (thn (hc pins s σ H _ I h) fun d s1 ⟨H1, I1, q1⟩ => ?_)
  cases d with
  | true => exact ha pins s1 σ H1 D I1 q1
  | false => exact hb pins s1 σ H1 D I1 q1
end

/-! ### targets -/
abbrev TG := V → St → Hp → (St → Hp → Prop) → Prop
abbrev TGs := List V → St → Hp → (St → Hp → Prop) → Prop
def PG (X : Cx) (target : Expr) (t : TG) : Prop :=
  ∀ (pins : List (Addr × Obj)) (s : Shared) (σ : St) (H : Hp) (v : V) (u : Value) (Q : St → Hp → Prop), Inv X pins σ H s → RelV v u → t v σ H Q →
    wpAny (model X.prog X.w) X.A (assign target X.env u) (fun _ s' => ∃ σ' H', Inv X pins σ' H' s' ∧ Q σ' H') X.xe s
/-- several targets, one after another -/
def PGs (X : Cx) (ts : List Expr) (t : TGs) : Prop :=
  ∀ (pins : List (Addr × Obj)) (s : Shared) (σ : St) (H : Hp) (vs : List V) (us : List Value) (Q : St → Hp → Prop), Inv X pins σ H s → Vals vs us → t vs σ H Q →
    wpAny (model X.prog X.w) X.A (assignInOrder ((assignEach ts X.env).map (·.2)) us) (fun _ s' => ∃ σ' H', Inv X pins σ' H' s' ∧ Q σ' H') X.xe s
/-- o[i] = v, by values -/
abbrev TSet := V → V → V → Hp → (Hp → Prop) → Prop
def PSet (X : Cx) (t : TSet) : Prop :=
  ∀ (pins : List (Addr × Obj)) (s : Shared) (σ : St) (H : Hp) (o i v : V) (ov iv u : Value) (Q : Hp → Prop), Inv X pins σ H s → RelV o ov → RelV i iv → RelV v u → t o i v H Q →
    wpAny (model X.prog X.w) X.A (setItem ov iv u) (fun _ s' => ∃ H', Inv X pins σ H' s' ∧ Q H') X.xe s
section
variable {X : Cx} {pos : Pos}
def gName (i : Nat) : TG := fun v σ H Q => Q (σ.set i (some v)) H
theorem pg_name {i : Nat} {x : Str} (hN : X.N.Nodup) (hi : X.N[i]? = some x) (hx : Loc X.env.scope x) (hf : X.fn x = true ∨ X.env.scope.names.lookup x = some .local := by first | exact .inl rfl | exact .inr rfl | assumption) : PG X (.Name x pos) (gName i) := by
  intro pins s σ H v u Q I r h
  exact wpAny_assign_Name (store_ok I hN hi hx r (fun s' I' => ⟨_, H, I', h⟩) hf)
def gNil : TGs := fun vs σ H Q => vs = [] ∧ Q σ H
def gCons (t : TG) (u : TGs) : TGs := fun vs σ H Q => ∃ v r, vs = v :: r ∧ t v σ H fun σ' H' => u r σ' H' Q
theorem pgs_nil : PGs X [] gNil := by
  intro pins s σ H vs us Q I r h
  obtain ⟨e, h⟩ := h
  subst e
  cases r
  exact assignInOrder_nil ⟨σ, H, I, h⟩
theorem pgs_cons {e : Expr} {es : List Expr} {t : TG} {u : TGs} (h1 : PG X e t) (h2 : PGs X es u)
    (hs : (assignEach (e :: es) X.env).map (·.2) = assign e X.env :: (assignEach es X.env).map (·.2) := by rfl) : PGs X (e :: es) (gCons t u) := by
  intro pins s σ H vs us Q I r h
  obtain ⟨v, vr, e1, h⟩ := h
  subst e1
  cases r with
  | cons r rr =>
    rw [hs]
    refine assignInOrder_cons (thn (h1 pins s σ H _ _ _ I r h) fun _ s1 ⟨σ1, H1, I1, q1⟩ => ?_)
    exact h2 pins s1 σ1 H1 _ _ Q I1 rr q1
/-- (a, b, ..) = a tuple of that length -/
def gTup (K : PySem.W.Frag) (n : Nat) (t : TGs) : TG := fun v σ H Q => ∃ a xs, v = .ref a ∧ SqT K H a xs ∧ xs.length = n ∧ t xs σ H Q
theorem pg_tup {es : List Expr} {k : Nat} {t : TGs} {n : Nat} (hc : X.calm = true) (h : PGs X es t)
    (hn : (assignEach es X.env).length = n := by rfl) (hst : (assignEach es X.env).findIdx? (·.1) = none := by rfl) : PG X (.Tuple es k pos) (gTup X.K n t) := by
  intro pins s σ H v u Q I r hw
  obtain ⟨a, xs, e1, hq, hl, hw⟩ := hw
  subst e1
  cases r
  obtain ⟨its, rv, ht, hz⟩ := I.tuple hq
  refine assign_Tuple_tuple (I.ok.hd hc) ht (by simp [hn, ← hl, rv.length]) hst fun h' hx => ?_
  have I1 : Inv X pins σ H { s with heap := h' } := I.kept (t' := s.toks) fun b o e => hx b o (Nat.ne_of_lt (Heap.lt_size e)) e
  exact h pins _ σ H xs _ Q I1 (by simpa using rv) hw
/-- o[i] = .. -/
def gSub (to ti : TE) (t : TSet) : TG := fun v σ H Q => to σ H fun o H1 => ti σ H1 fun i H2 => t o i v H2 fun H3 => Q σ H3
theorem pg_sub {o i : Expr} {to ti : TE} {t : TSet} (ho : PE X o to) (hi : PE X i ti) (hs : PSet X t)
    (ha : ∀ v, assign (.Subscript o i pos) X.env v = (do
      let ov ← holding [v] (eval o X.env)
      let iv ← holding [v, ov] (eval i X.env)
      standAt pos
      holding [v, ov, iv] (setItem ov iv v)
      release [v, ov, iv] []) := by intro _; rfl) : PG X (.Subscript o i pos) (gSub to ti t) := by
  intro pins s σ H v u Q I r h
  rw [ha]
  refine wpAny_bind (wpAny_holding (thn (ho pins s σ H _ I h) fun ov s1 ⟨x, H1, I1, r1, q1⟩ => ?_))
  refine wpAny_bind (wpAny_holding (thn (hi pins s1 σ H1 _ I1 q1) fun iv s2 ⟨y, H2, I2, r2, q2⟩ => ?_))
  refine wpAny_bind (wpAny_standAt (wpAny_bind (wpAny_holding (thn (hs pins s2 σ H2 x y v ov iv u _ I2 r1 r2 r q2) fun _ s3 ⟨H3, I3, q3⟩ => ?_))))
  exact wpAny_release ⟨σ, H3, I3, q3⟩
/-- target = value -/
def tAsg (te : TE) (g : TG) : TS := fun D σ H => te σ H fun x H1 => g x σ H1 D.nx
theorem ps_asg {tg e : Expr} {te : TE} {g : TG} (he : PE X e te) (hg : PG X tg g) (hs : swapsWithSole [tg] e pos.line X.env = pure false := by rfl) (hw : swappedStores [tg] e X.env = pure none := by rfl)
    (h1 : (assignEach [tg] X.env).map (·.2) = [assign tg X.env] := by rfl) : PS X (.Assign [tg] e pos) (tAsg te g) := by
  intro pins s σ H D I h
  refine wpAny_Assign_stores (thn (he pins s σ H _ I h) fun v s1 ⟨x, H1, I1, r1, q1⟩ => ?_) hs hw
  rw [h1]
  exact thn (hg pins s1 σ H1 x v _ I1 r1 q1) fun _ s2 q => q
/-- name = value -/
theorem ps_set {i : Nat} {x : Str} {e : Expr} {te : TE} {pos' : Pos} (hN : X.N.Nodup) (hi : X.N[i]? = some x) (hx : Loc X.env.scope x) (he : PE X e te) (hs : swapsWith e (some (.Name x pos')) pos.line X.env = pure false := by rfl) (hf : X.fn x = true ∨ X.env.scope.names.lookup x = some .local := by first | exact .inl rfl | exact .inr rfl | assumption) :
    PS X (.Assign [.Name x pos'] e pos) (tAsg te (gName i)) := by
  intro pins s σ H D I h
  refine wpAny_Assign_Name (thn (he pins s σ H _ I h) fun v s1 ⟨y, H1, I1, r1, q1⟩ => ?_) hs
  exact store_ok I1 hN hi hx r1 (fun s2 I2 => ⟨_, H1, I2, q1⟩) hf
/-- a, b = x, y with plain local names: stored from the right; the pair itself is not tracked (the opening rows as in PyProof/Rows/TupAssign.lean:23) -/
def tPar (i j : Nat) (ta : TA) : TS := fun D σ H => ta σ H fun vs H1 => ∃ v w, vs = [v, w] ∧ D.nx ((σ.set i (some v)).set j (some w)) H1
theorem ps_par {i j : Nat} {x y : Str} {a b : Expr} {ta : TA} {px py pt : Pos} {kt k2 pt2} (hc : X.calm = true) (hN : X.N.Nodup) (hi : X.N[i]? = some x) (hj : X.N[j]? = some y) (hij : i ≠ j)
    (hx : X.env.scope.names.lookup x = some .local) (hy : X.env.scope.names.lookup y = some .local) (ha : PA X [a, b] ta)
    (hw : swappedStores [.Tuple [.Name x px, .Name y py] kt pt] (.Tuple [a, b] k2 pt2) X.env = pure (some [x, y]))
    (hs : swapsWithSole [.Tuple [.Name x px, .Name y py] kt pt] (.Tuple [a, b] k2 pt2) pos.line X.env = pure false := by rfl) :
    PS X (.Assign [.Tuple [.Name x px, .Name y py] kt pt] (.Tuple [a, b] k2 pt2) pos) (tPar i j ta) := by
  intro pins s σ H D I h
  rw [exec_Assign_arm]
  refine wpAny_bind (wpAny_standAt ?_)
  rw [hs]
  refine wpAny_bind (wpAny_pure ?_)
  rw [if_neg (by decide)]
  refine wpAny_bind (Tuple_ (thn (ha _ pins s σ H _ I h) fun us s1 ⟨vs, H1, I1, r1, q1⟩ => ?_))
  obtain ⟨v, w, e1, q1⟩ := q1
  subst e1
  obtain ⟨u1, u2, rfl, rv, rw'⟩ : ∃ u1 u2, us = [u1, u2] ∧ RelV v u1 ∧ RelV w u2 := by
    cases r1 with
    | cons p q =>
      cases q with
      | cons p' q' =>
        cases q'
        exact ⟨_, _, rfl, p, p'⟩
  refine wpAny_newObj_type ?_ (by show 2 ≤ sizeLine; decide)
  have I2 : Inv X pins σ H1 { s1 with heap := s1.heap.push { cls := .type "tuple", data := .seq [u1, u2].toArray } } := I1.kept (t' := s1.toks) fun b o e => Heap.get?_push_of_some _ e
  rw [hw]
  refine wpAny_bind (wpAny_pure ?_)
  show wpAny (model X.prog X.w) X.A (do rule "assign.swapped-stores"; let items ← unpackItems (.ref s1.heap.objs.size) 2 none; assignInOrder [fun v => bindName X.env y v, fun v => bindName X.env x v] items.reverse; pure Flow.next) _ _ _
  refine wpAny_bind (wpAny_rule (wpAny_bind (unpackItems_tuple (items := #[u1, u2]) (I.ok.hd hc) (IsTup.new s1.heap _) fun h' hx' => ?_)))
  have I3 := I2.kept (h' := h') (t' := s1.toks) fun b o e => hx' b o (Nat.ne_of_lt (Heap.lt_size e)) e
  show wpAny _ _ (assignInOrder [fun v => bindName X.env y v, fun v => bindName X.env x v] [u2, u1] >>= fun _ => pure Flow.next) _ _ _
  refine wpAny_bind (assignInOrder_cons (wpAny_bindName (store_ok I3 hN hj (.inl hy) rw' (fun s2 I4 => ?_) (.inr hy))))
  refine assignInOrder_cons (wpAny_bindName (store_ok I4 hN hi (.inl hx) rv (fun s3 I5 => assignInOrder_nil (wpAny_pure ?_)) (.inr hx)))
  rw [List.set_comm _ _ (Ne.symm hij)] at I5
  exact ⟨_, H1, I5, q1⟩
end

/-! ### while -/
section
variable {X : Cx} {pos : Pos}
/-- the invariant W with its measure -/
def tWhile (c : TT) (tb : TS) : TS := fun D σ H => ∃ W : Nat → St → Hp → Prop, (∃ m, W m σ H) ∧ ∀ m σ H, W m σ H →
  c σ H fun b H1 => if b = true then ∃ N : St → Hp → Prop, (∀ σ' H', N σ' H' → ∃ m', m' < m ∧ W m' σ' H') ∧ tb { D with nx := N, ct := N, bk := D.nx } σ H1 else D.nx σ H1
theorem ps_while {c : Expr} {body : List Stmt} {tc : TT} {tb : TS} (hp : PassesOwn (model X.prog X.w) X.A X.env X.xe) (hc : PT X c tc) (hb : PSs X body tb) : PS X (.While c body [] pos) (tWhile tc tb) := by
  intro pins s σ H D I h
  obtain ⟨W, ⟨m0, w0⟩, turn⟩ := h
  refine wpAny_While (codeAny_whileLoop (fun n s' => ∃ σ' H', Inv X pins σ' H' s' ∧ W n σ' H') ?_ m0 ⟨σ, H, I, w0⟩)
  rintro n s1 ⟨σ1, H1, I1, w1⟩
  refine wpAny_passesOwn hp (thn (hc pins s1 σ1 H1 _ I1 (turn n σ1 H1 w1)) fun b s2 ⟨H2, I2, q2⟩ => ?_)
  cases b with
  | true =>
    obtain ⟨N, hN, q2⟩ := q2
    rw [if_pos rfl]
    refine wpAny_passesOwn hp (thn (hb pins s2 σ1 H2 _ I2 q2) fun f s3 q3 => ?_)
    cases f with
    | next =>
      obtain ⟨σ3, H3, I3, n3⟩ := q3
      obtain ⟨m', hm, w3⟩ := hN σ3 H3 n3
      exact ⟨m', hm, σ3, H3, I3, w3⟩
    | cont =>
      obtain ⟨σ3, H3, I3, n3⟩ := q3
      obtain ⟨m', hm, w3⟩ := hN σ3 H3 n3
      exact ⟨m', hm, σ3, H3, I3, w3⟩
    | brk => exact q3
    | ret v => exact q3
  | false =>
    rw [if_neg Bool.false_ne_true]
    exact wpAny_execs_nil ⟨σ1, H2, I2, q2⟩
end

/-! ### what a loop or a comprehension walks -/
/-- at turn i: it yields x (the heap may grow), or it stops -/
structure It where
  go : Nat → Hp → Prop
  yld : Nat → Hp → V → Hp → Prop
  stop : Nat → Hp → Prop
/-- the iterator's own objects may turn: they are not the frame's, not pinned, younger than the entry (or a comprehension's own) -/
def FpOk (X : Cx) (pins : List (Addr × Obj)) (H : Hp) (b : Addr) : Prop :=
  H b = none ∧ b ≠ X.env.locals ∧ b ∉ X.fs ∧ (b ∈ X.ex ∨ X.s₀.heap.objs.size ≤ b) ∧ (∀ x c, X.env.cells.lookup x = some c → c ≠ b) ∧ ∀ p ∈ X.pn ++ pins, p.1 ≠ b
theorem Inv.fpOk {X : Cx} {pins : List (Addr × Obj)} {σ : St} {H H' : Hp} {s : Shared} {b : Addr} (I : Inv X pins σ H s) (hb : s.heap.objs.size ≤ b) (hn : H' b = none) : FpOk X pins H' b := by
  refine ⟨hn, Nat.ne_of_gt (Nat.lt_of_lt_of_le I.lt hb), I.nofs hb, .inr (Nat.le_trans I.sz hb), fun x c e z => ?_, fun p hp z => ?_⟩
  · obtain ⟨v, q⟩ := I.cell x c e
    exact absurd (Nat.lt_of_lt_of_le q.lt (by rw [z]; exact hb)) (Nat.lt_irrefl _)
  · exact absurd (Nat.lt_of_lt_of_le (Heap.lt_size (I.pin p hp).1) (by rw [z]; exact hb)) (Nat.lt_irrefl _)
structure Turn (P : Program) (w : World) (K : PySem.W.Frag) (tg : Expr) (J : It) (fp : List Addr) (it : Addr) (tn : Nat → Heap → Prop) : Prop where
  mem : it ∈ fp
  obj : ∀ i h, tn i h → ∀ b ∈ fp, ∃ o, h.get? b = some o ∧ ∀ v, o.data ≠ .cell v
  keep : ∀ i h h', tn i h → (∀ b ∈ fp, ∀ o, h.get? b = some o → h'.get? b = some o) → tn i h'
  item : ∀ (X : Cx), X.prog = P → X.w = w → X.K = K → X.calm = true → ∀ (i : Nat) (pins : List (Addr × Obj)) (s : Shared) (σ : St) (H : Hp) (E : Value → Shared → Prop), Inv X pins σ H s → (∀ b ∈ fp, FpOk X pins H b) → tn i s.heap → J.go i H →
    wpAny (model P w) X.A (pyNext (.ref it)) (fun r s1 => ∃ u, r = some u ∧
      wpAny (model P w) X.A (letOwnedTupleGo tg (.ref it) u) (fun _ s2 => ∃ x H', Inv X pins σ H' s2 ∧ RelV x u ∧ J.yld i H x H' ∧ tn (i + 1) s2.heap ∧ ∀ b ∈ fp, H' b = none) E s1) E s
  done : ∀ (X : Cx), X.prog = P → X.w = w → X.K = K → X.calm = true → ∀ (i : Nat) (pins : List (Addr × Obj)) (s : Shared) (σ : St) (H : Hp) (E : Value → Shared → Prop), Inv X pins σ H s → (∀ b ∈ fp, FpOk X pins H b) → tn i s.heap → J.stop i H →
    wpAny (model P w) X.A (pyNext (.ref it)) (fun r s1 => r = none ∧ Inv X pins σ H s1) E s
  self : ∀ (A : Around) (i : Nat) (s : Shared) (Q : Value → Shared → Prop) (E : Value → Shared → Prop), tn i s.heap → Q (.ref it) s → wpAny (model P w) A (pyIter (.ref it)) Q E s
abbrev TI := St → Hp → (It → Hp → Prop) → Prop
/-- an iterator has come -/
def PIE (X : Cx) (pins : List (Addr × Obj)) (σ : St) (tg : Expr) (R : It → Hp → Prop) (itv : Value) (s2 : Shared) : Prop :=
  ∃ (it : Addr) (fp : List Addr) (tn : Nat → Heap → Prop) (J : It) (H' : Hp), itv = .ref it ∧ Inv X pins σ H' s2 ∧ Turn X.prog X.w X.K tg J fp it tn ∧ tn 0 s2.heap ∧ (∀ b ∈ fp, FpOk X pins H' b) ∧ R J H'
def PI (X : Cx) (tg iter : Expr) (wi : TI) : Prop :=
  ∀ (pins : List (Addr × Obj)) (s : Shared) (σ : St) (H : Hp) (R : It → Hp → Prop), Inv X pins σ H s → wi σ H R →
    wpAny (model X.prog X.w) X.A (eval iter X.env) (fun v s1 => wpAny (model X.prog X.w) X.A (pyIter v) (PIE X pins σ tg R) X.xe s1) X.xe s

/-- the step ahead of the store is nothing for an iterator that keeps no tuple -/
theorem go_of {M : Model} {A : Around} {E : Value → Shared → Prop} {s : Shared} {tg : Expr} {it : Addr} {u : Value} {o : Obj} {n : String} {vs : Array Value} {Q : Unit → Shared → Prop} (ho : s.heap.get? it = some o) (hc : o.cls = .type n) (hd : o.data = .fields vs)
    (hn : ["enumerate", "zip", "dict_itemiterator", "dict_reverseitemiterator", "odict_iterator", "itertools.zip_longest", "itertools.pairwise"].contains n = false) (hQ : Q () s) : wpAny M A (letOwnedTupleGo tg (.ref it) u) Q E s := by
  unfold letOwnedTupleGo
  cases tg <;> first
    | exact wpAny_pure hQ
    | (cases u <;> first
        | exact wpAny_pure hQ
        | (refine wpAny_bind (wpAny_load ho ?_)
           rw [hc, hd]
           show wpAny M A (if (["enumerate", "zip", "dict_itemiterator", "dict_reverseitemiterator", "odict_iterator", "itertools.zip_longest", "itertools.pairwise"].contains n && vs[0]? == some (rawInt _)) = true then _ else _) Q E s
           rw [if_neg (by intro h; rw [hn, Bool.false_and] at h; cases h)]
           exact wpAny_pure hQ))

/-- the list at a, as it stands at each turn (a loop may append to it) -/
def Itl (K : PySem.W.Frag) (a : Addr) : It :=
  ⟨fun i H => ∃ xs x, SqL K H a xs ∧ xs[i]? = some x, fun i H x H' => H' = H ∧ ∀ xs, SqL K H a xs → xs[i]? = some x, fun i H => ∃ xs, SqL K H a xs ∧ xs.length ≤ i⟩
/-- lo, lo + 1, .. (n of them) -/
def Itr (lo : Int) (n : Nat) : It := ⟨fun i _ => i < n, fun i H x H' => H' = H ∧ x = .int (lo + i), fun i _ => n ≤ i⟩
theorem turn_list {P : Program} {w : World} {K : PySem.W.Frag} {tg : Expr} (a it : Addr) : Turn P w K tg (Itl K a) [it] it (fun i h => h.IsListIter it a i) where
  mem := by simp
  obj := fun i h st b hb => by
    have e : b = it := by simpa using hb
    subst e
    obtain ⟨o, e, c, d⟩ := st
    exact ⟨o, e, fun v z => by rw [d] at z; cases z⟩
  keep := fun i h h' st k => st.at fun o e => k it (by simp) o e
  item := by
    intro X hP hw hK hc i pins s σ H E I hf st hg
    subst hP hw hK
    obtain ⟨xs, x, hq, hx⟩ := hg
    obtain ⟨its, rv, p, hz⟩ := I.list hq
    obtain ⟨u, hu, ru⟩ := rv.get hx
    obtain ⟨f0, f1, f2, f3, f4, f5⟩ := hf it (by simp)
    refine wpAny_pyNext_list_item st p.isList (x := u) (by simpa using hu) fun h' st' sb => ?_
    have I1 : Inv X pins σ H { s with heap := h' } := I.turned (t' := s.toks) (fun b o hb e => (sb.2 b hb).trans e) f0 f1 f3 f4 f5
    obtain ⟨o, e, c, d⟩ := id st'
    exact ⟨u, rfl, go_of (s := { s with heap := h' }) e c d (by decide) ⟨x, H, I1, ru, ⟨rfl, fun ys hy => by rw [I.list_inj hy hq]; exact hx⟩, st', fun b hb => (hf b hb).1⟩⟩
  done := by
    intro X hP hw hK hc i pins s σ H E I hf st hg
    subst hP hw hK
    obtain ⟨xs, hq, hx⟩ := hg
    obtain ⟨its, rv, p, hz⟩ := I.list hq
    obtain ⟨f0, f1, f2, f3, f4, f5⟩ := hf it (by simp)
    have hl := rv.length
    exact wpAny_pyNext_list_end (I.ok.hd hc) st p.isList (by simp; omega) fun h' eb => ⟨rfl, I.turned (t' := s.toks) (fun b o hb e => eb b o hb e) f0 f1 f3 f4 f5⟩
  self := fun _ _ _ _ _ st h => wpAny_pyIter_listiter st h
theorem turn_range {P : Program} {w : World} {K : PySem.W.Frag} {tg : Expr} (it : Addr) (lo : Int) (n : Nat) : Turn P w K tg (Itr lo n) [it] it (fun i h => IsRangeIter h it (lo + (i : Nat) * 1) ((n : Int) - (i : Nat)) 1) where
  mem := by simp
  obj := fun i h st b hb => by
    have e : b = it := by simpa using hb
    subst e
    exact ⟨_, st, fun v z => by
      have z' : Data.fields _ = Data.cell v := z
      cases z'⟩
  keep := fun i h h' st k => k it (by simp) _ st
  item := by
    intro X hP hw hK hc i pins s σ H E I hf st hg
    subst hP hw hK
    obtain ⟨f0, f1, f2, f3, f4, f5⟩ := hf it (by simp)
    have W := Walks.range (prog := X.prog) (w := X.w) (I.ok.hd hc) it lo 1 n
    refine W.item i s _ _ hg st fun v h' tk hv st' kk => ?_
    obtain ⟨t, rfl⟩ := hv
    have I1 : Inv X pins σ H { s with heap := h', toks := tk } := I.turned (fun b o hb e => kk b o (by simpa using hb) e) f0 f1 f3 f4 f5
    refine ⟨_, rfl, go_of (s := { s with heap := h', toks := tk }) (n := "range_iterator") st' rfl rfl (by decide) ⟨.int (lo + i), H, I1, ⟨t, ?_⟩, ⟨rfl, rfl⟩, st', fun b hb => (hf b hb).1⟩⟩
    rw [Int.mul_one]
  done := by
    intro X hP hw hK hc i pins s σ H E I hf st hg
    subst hP hw hK
    obtain ⟨f0, f1, f2, f3, f4, f5⟩ := hf it (by simp)
    exact wpAny_pyNext_range_end (I.ok.hd hc) st (by have : n ≤ i := hg; omega) fun h' eb => ⟨rfl, I.turned (t' := s.toks) (fun b o hb e => eb b o hb e) f0 f1 f3 f4 f5⟩
  self := fun _ _ _ _ _ st h => wpAny_pyIter_rangeiter st h
end L2

namespace L2
open PySem PySem.Spec PyProof.Rows
section
variable {X : Cx} {tg : Expr}
def iList (K : PySem.W.Frag) (tl : TE) : TI := fun σ H R => tl σ H fun x H1 => ∃ a, x = .ref a ∧ (∃ xs, SqL K H1 a xs) ∧ R (Itl K a) H1
theorem pi_list {l : Expr} {tl : TE} (hl : PE X l tl) : PI X tg l (iList X.K tl) := by
  intro pins s σ H R I h
  refine thn (hl pins s σ H _ I h) fun v s1 ⟨x, H1, I1, r1, q1⟩ => ?_
  obtain ⟨a, e, ⟨xs, hq⟩, q⟩ := q1
  subst e
  cases r1
  obtain ⟨its, rv, p, hz⟩ := I1.list hq
  refine wpAny_pyIter_list p.isList ?_
  refine ⟨s1.heap.objs.size, [s1.heap.objs.size], _, _, H1, rfl, I1.kept (t' := s1.toks) fun b o e => Heap.get?_push_of_some _ e, turn_list a _, ⟨_, Heap.get?_push_size _ rfl, rfl, rfl⟩, fun b hb => ?_, q⟩
  have e : b = s1.heap.objs.size := by simpa using hb
  subst e
  exact I1.fpOk (Nat.le_refl _) (I1.hok.fresh (Nat.le_refl _))
/-- a range object just made, walked -/
theorem range_it {pins : List (Addr × Obj)} {σ : St} {H : Hp} {s : Shared} {R : It → Hp → Prop} {E : Value → Shared → Prop} {lo hi : Int} {t u v : Tok} {tk : Nat} (I : Inv X pins σ H s) (h1 : -(2 ^ 62) ≤ lo) (h2 : lo < 2 ^ 62) (h3 : -(2 ^ 62) ≤ hi) (h4 : hi < 2 ^ 62)
    (q : R (Itr lo (hi - lo).toNat) H) : wpAny (model X.prog X.w) X.A (pyIter (.ref s.heap.objs.size)) (PIE X pins σ tg R) E { s with heap := s.heap.push { cls := .type "range", data := .fields #[.int lo t, .int hi u, .int 1 v] }, toks := tk } := by
  refine wpAny_pyIter_range (IsRange.new ..) (small_one h1 h2 h3 h4) ?_
  have I1 : Inv X pins σ H { s with heap := s.heap.push { cls := .type "range", data := .fields #[.int lo t, .int hi u, .int 1 v] }, toks := tk } := I.kept fun b o e => Heap.get?_push_of_some _ e
  refine ⟨(s.heap.push { cls := .type "range", data := .fields #[.int lo t, .int hi u, .int 1 v] }).objs.size, [(s.heap.push { cls := .type "range", data := .fields #[.int lo t, .int hi u, .int 1 v] }).objs.size], _, _, H, rfl,
    I1.kept (t' := tk) fun b o e => Heap.get?_push_of_some _ e, turn_range _ lo (hi - lo).toNat, ?_, fun b hb => ?_, q⟩
  · have e1 : lo + ((0 : Nat) : Int) * 1 = lo := by simp
    have e2 : (((hi - lo).toNat : Nat) : Int) - ((0 : Nat) : Int) = Builtin.Range.rangeSize lo hi 1 := by rw [rangeSize_one]; split <;> omega
    show IsRangeIter _ _ (lo + ((0 : Nat) : Int) * 1) ((((hi - lo).toNat : Nat) : Int) - ((0 : Nat) : Int)) 1
    rw [e1, e2]
    exact Heap.get?_push_size _ rfl
  · have e : b = (s.heap.push { cls := .type "range", data := .fields #[.int lo t, .int hi u, .int 1 v] }).objs.size := by simpa using hb
    subst e
    exact I1.fpOk (Nat.le_refl _) (I1.hok.fresh (Nat.le_refl _))
def iRng1 (ta : TA) : TI := fun σ H R => ta σ H fun vs H1 => ∃ j : Int, vs = [.int j] ∧ -(2 ^ 62) ≤ j ∧ j < 2 ^ 62 ∧ R (Itr 0 j.toNat) H1
def iRng2 (ta : TA) : TI := fun σ H R => ta σ H fun vs H1 => ∃ i j : Int, vs = [.int i, .int j] ∧ (-(2 ^ 62) ≤ i ∧ i < 2 ^ 62 ∧ -(2 ^ 62) ≤ j ∧ j < 2 ^ 62) ∧ R (Itr i (j - i).toNat) H1
theorem pi_range1 {a : Expr} {ta : TA} {p pos : Pos} (hg : Gl X "range") (hm : X.mg "range" = none) (ha : PA X [a] ta) (hs : starEach [a] X.env = [(false, eval a X.env)] := by rfl) : PI X tg (.Call (.Name "range" p) [a] [] pos) (iRng1 ta) := by
  intro pins s σ H R I h
  refine Call_ (ld_blt I hg hm boot_range (PyProof.Rows.callWith_type1 (thn (ha pos pins s σ H _ I h) fun us s1 ⟨vs, H1, I1, r1, q1⟩ => ?_) hs rfl))
  obtain ⟨j, e, q1, q2, q⟩ := q1
  subst e
  cases r1 with
  | cons r rr =>
    cases rr
    obtain ⟨t, rfl⟩ := r
    exact call_range_1 (range_it I1 (by omega) (by omega) q1 q2 (by simpa using q))
theorem pi_range2 {a b : Expr} {ta : TA} {p pos : Pos} (hg : Gl X "range") (hm : X.mg "range" = none) (ha : PA X [a, b] ta) (hs : starEach [a, b] X.env = [(false, eval a X.env), (false, eval b X.env)] := by rfl) (hs2 : starEach [b] X.env = [(false, eval b X.env)] := by rfl) :
    PI X tg (.Call (.Name "range" p) [a, b] [] pos) (iRng2 ta) := by
  intro pins s σ H R I h
  refine Call_ (ld_blt I hg hm boot_range (PyProof.Rows.callWith_type1 (thn (ha pos pins s σ H _ I h) fun us s1 ⟨vs, H1, I1, r1, q1⟩ => ?_) (by rw [hs, hs2]) (by rw [hs2]; rfl)))
  obtain ⟨i, j, e, ⟨q1, q2, q3, q4⟩, q⟩ := q1
  subst e
  cases r1 with
  | cons r rr =>
    cases rr with
    | cons r' rr =>
      cases rr
      obtain ⟨t, rfl⟩ := r
      obtain ⟨t', rfl⟩ := r'
      exact call_range_2 (range_it I1 q1 q2 q3 q4 q)

/-! ### for -/
/-- W: the invariant by the turn and a measure; N: what the body is to reach -/
def tFor (wi : TI) (g : TG) (tb : TS) : TS := fun D σ H => wi σ H fun J H1 => ∃ W : Nat → Nat → St → Hp → Prop, (∃ m, W 0 m σ H1) ∧ ∀ i m σ H, W i m σ H →
  (J.stop i H ∧ D.nx σ H) ∨ (J.go i H ∧ ∃ N : St → Hp → Prop, (∀ σ' H', N σ' H' → ∃ m', m' < m ∧ W (i + 1) m' σ' H') ∧ ∀ x H', J.yld i H x H' → g x σ H' fun σ2 H2 => tb { D with nx := N, ct := N, bk := D.nx } σ2 H2)
/-- the records at fp as they stand -/
def pinsAt (fp : List Addr) (h : Heap) : List (Addr × Obj) := fp.filterMap fun b => (h.get? b).map fun o => (b, o)
theorem mem_pinsAt {fp : List Addr} {h : Heap} {b : Addr} {o : Obj} (hb : b ∈ fp) (e : h.get? b = some o) : (b, o) ∈ pinsAt fp h := List.mem_filterMap.mpr ⟨b, hb, by rw [e]; rfl⟩
theorem of_pinsAt {fp : List Addr} {h : Heap} {p : Addr × Obj} (hp : p ∈ pinsAt fp h) : p.1 ∈ fp ∧ h.get? p.1 = some p.2 := by
  obtain ⟨b, hb, e⟩ := List.mem_filterMap.mp hp
  cases q : h.get? b with
  | none => rw [q] at e; cases e
  | some o =>
    rw [q] at e
    have e' : (b, o) = p := Option.some.inj e
    subst e'
    exact ⟨hb, q⟩
theorem Inv.pinned {pins : List (Addr × Obj)} {σ : St} {H : Hp} {s : Shared} {fp : List Addr} (I : Inv X pins σ H s) (hf : ∀ b ∈ fp, FpOk X pins H b) (ho : ∀ b ∈ fp, ∃ o, s.heap.get? b = some o ∧ ∀ v, o.data ≠ .cell v) : Inv X (pins ++ pinsAt fp s.heap) σ H s :=
  I.pins_of fun p hp => (List.mem_append.mp hp).elim (fun z => I.pin p (List.mem_append_right _ z)) fun z => by
    obtain ⟨hb, e⟩ := of_pinsAt z
    obtain ⟨f0, f1, f2, _⟩ := hf p.1 hb
    obtain ⟨o, e', d⟩ := ho p.1 hb
    rw [e] at e'; cases e'
    exact ⟨e, f0, f1, f2, d⟩
theorem Inv.unpinned {pins pl : List (Addr × Obj)} {σ : St} {H : Hp} {s : Shared} (I : Inv X (pins ++ pl) σ H s) : Inv X pins σ H s := I.pins_of fun p hp => I.pin p (List.mem_append_right _ (List.mem_append_left _ hp))
theorem ps_for {iter : Expr} {body : List Stmt} {wi : TI} {g : TG} {tb : TS} {pos : Pos} (hp : PassesOwn (model X.prog X.w) X.A X.env X.xe) (hc : X.calm = true) (hi : PI X tg iter wi) (hg : PG X tg g) (hb : PSs X body tb)
    (hs : ∀ x, foldedSetIterable iter X.env x = pure x := by intro _; rfl) : PS X (.For tg iter body [] pos) (tFor wi g tb) := by
  intro pins s σ H D I h
  refine wpAny_For (thn (hi pins s σ H _ I h) fun v s1 h1 => thn h1 fun itv s2 h2 => ?_) hs
  obtain ⟨it, fp, tn, J, H2, e, I2, T, st2, f2, W, ⟨m0, w0⟩, turn⟩ := h2
  subst e
  -- what stays true of the iterator's objects through the loop
  have stat : ∀ {H' : Hp}, (∀ b ∈ fp, H' b = none) → ∀ b ∈ fp, FpOk X pins H' b := fun hn b hb => ⟨hn b hb, (f2 b hb).2⟩
  refine codeAny_forLoop_any (fun n s' => ∃ i σ' H', Inv X pins σ' H' s' ∧ tn i s'.heap ∧ (∀ b ∈ fp, H' b = none) ∧ W i n σ' H') ?_ m0 ⟨0, σ, H2, I2, st2, fun b hb => (f2 b hb).1, w0⟩
  rintro n s3 ⟨i, σ3, H3, I3, st3, fr3, w3⟩
  rcases turn i n σ3 H3 w3 with ⟨stop, qn⟩ | ⟨go, N, hN, step⟩
  · refine wpAny_passesOwn hp (thn (T.done X rfl rfl rfl hc i pins s3 σ3 H3 X.xe I3 (stat fr3) st3 stop) fun r s4 ⟨hr, I4⟩ => ?_)
    subst hr
    exact wpAny_execs_nil ⟨σ3, H3, I4, qn⟩
  · refine wpAny_passesOwn hp (thn (T.item X rfl rfl rfl hc i pins s3 σ3 H3 X.xe I3 (stat fr3) st3 go) fun r s4 ⟨u, hr, h4⟩ => ?_)
    subst hr
    refine wpAny_passesOwn hp (thn h4 fun _ s5 ⟨x, H5, I5, r5, y5, st5, fr5⟩ => ?_)
    have I5' := I5.pinned (stat fr5) (T.obj _ _ st5)
    refine wpAny_passesOwn hp (thn (hg _ s5 σ3 H5 x u _ I5' r5 (step x H5 y5)) fun _ s6 ⟨σ6, H6, I6, q6⟩ => ?_)
    refine wpAny_passesOwn hp (thn (hb _ s6 σ6 H6 _ I6 q6) fun f s7 q7 => ?_)
    have again : ∀ {σ7 : St} {H7 : Hp}, Inv X (pins ++ pinsAt fp s5.heap) σ7 H7 s7 → N σ7 H7 → ∃ m, m < n ∧ ∃ i σ' H', Inv X pins σ' H' s7 ∧ tn i s7.heap ∧ (∀ b ∈ fp, H' b = none) ∧ W i m σ' H' := fun {σ7 H7} I7 n7 => by
      obtain ⟨m', hm, w7⟩ := hN σ7 H7 n7
      refine ⟨m', hm, i + 1, σ7, H7, I7.unpinned, T.keep _ _ _ st5 fun b hb o e => (I7.pin (b, o) (List.mem_append_right _ (List.mem_append_right _ (mem_pinsAt hb e)))).1, fun b hb => ?_, w7⟩
      obtain ⟨o, e, d⟩ := T.obj _ _ st5 b hb
      exact (I7.pin (b, o) (List.mem_append_right _ (List.mem_append_right _ (mem_pinsAt hb e)))).2.1
    cases f with
    | next => obtain ⟨σ7, H7, I7, n7⟩ := q7; exact again I7 n7
    | cont => obtain ⟨σ7, H7, I7, n7⟩ := q7; exact again I7 n7
    | brk => obtain ⟨σ7, H7, I7, q7⟩ := q7; exact ⟨σ7, H7, I7.unpinned, q7⟩
    | ret v => obtain ⟨x7, σ7, H7, I7, r7, q7⟩ := q7; exact ⟨x7, σ7, H7, I7.unpinned, r7, q7⟩
end

/-! ### the forms one uses -/
/-- while, by a word and a measure of the state -/
theorem while_by {c : TT} {tb : TS} {D : Ends} {σ : St} {H : Hp} (Pv : St → Hp → Prop) (μ : St → Hp → Nat) (h0 : Pv σ H)
    (hs : ∀ σ H, Pv σ H → c σ H fun b H1 => if b = true then tb { D with nx := fun σ' H' => Pv σ' H' ∧ μ σ' H' < μ σ H, ct := fun σ' H' => Pv σ' H' ∧ μ σ' H' < μ σ H, bk := D.nx } σ H1 else D.nx σ H1)
    (mono : ∀ σ H Q Q', (∀ b H1, Q b H1 → Q' b H1) → c σ H Q → c σ H Q') : tWhile c tb D σ H := by
  refine ⟨fun m σ H => m = μ σ H ∧ Pv σ H, ⟨_, rfl, h0⟩, ?_⟩
  rintro m σ H ⟨rfl, p⟩
  refine mono σ H _ _ (fun b H1 q => ?_) (hs σ H p)
  cases b with
  | true => exact ⟨_, fun σ' H' ⟨p', l⟩ => ⟨_, l, rfl, p'⟩, q⟩
  | false => exact q
end L2

namespace L2
open PySem PySem.Spec PyProof.Rows

abbrev R2 := V → V → Hp → VK → Prop
/-- a two-place operation on values: f is binaryOp op, inplaceOp op or compareOp op -/
def OpR (X : Cx) (f : Value → Value → Sem Value) (r : R2) : Prop :=
  ∀ (pins : List (Addr × Obj)) (s : Shared) (σ : St) (H : Hp) (x y : V) (v u : Value) (Q : VK), Inv X pins σ H s → RelV x v → RelV y u → r x y H Q →
    wpAny (model X.prog X.w) X.A (f v u) (EP X pins σ Q) X.xe s
/-- a one-place operation -/
def UnR (X : Cx) (f : Value → Sem Value) (r : V → Hp → VK → Prop) : Prop :=
  ∀ (pins : List (Addr × Obj)) (s : Shared) (σ : St) (H : Hp) (x : V) (v : Value) (Q : VK), Inv X pins σ H s → RelV x v → r x H Q →
    wpAny (model X.prog X.w) X.A (f v) (EP X pins σ Q) X.xe s
/-- a call of a value that is known (a builtin, a type) with values -/
def CallR (X : Cx) (f : Value) (r : List V → Hp → VK → Prop) : Prop :=
  ∀ (pins : List (Addr × Obj)) (s : Shared) (σ : St) (H : Hp) (xs : List V) (us : List Value) (Q : VK), Inv X pins σ H s → Vals xs us → r xs H Q →
    wpAny (model X.prog X.w) X.A (call f us) (EP X pins σ Q) X.xe s
def tOp (r : R2) (ta tb : TE) : TE := fun σ H Q => ta σ H fun x H1 => tb σ H1 fun y H2 => r x y H2 Q
def tUn (r : V → Hp → VK → Prop) (ta : TE) : TE := fun σ H Q => ta σ H fun x H1 => r x H1 Q
/-- ints in, under C, and a value out -/
def rI (C : Int → Int → Prop) (g : Int → Int → V) : R2 := fun x y H Q => ∃ i j, x = .int i ∧ y = .int j ∧ C i j ∧ Q (g i j) H
def rI0 (g : Int → Int → V) : R2 := fun x y H Q => ∃ i j, x = .int i ∧ y = .int j ∧ Q (g i j) H
def rU (g : Int → V) : V → Hp → VK → Prop := fun x H Q => ∃ i, x = .int i ∧ Q (g i) H

section
variable {X : Cx} {a b c : Expr} {ta tb tc : TE} {pos : Pos}

theorem binT (ha : PE X a ta) (hb : PE X b tb) {pins : List (Addr × Obj)} {s : Shared} {σ : St} {H : Hp} {R : V → V → Hp → Prop} (I : Inv X pins σ H s)
    (h : ta σ H fun x H1 => tb σ H1 fun y H2 => R x y H2) {Q : Value → Shared → Prop} {f : Value → Value → Sem Value}
    (hf : ∀ v u s2 x y H2, Inv X pins σ H2 s2 → RelV x v → RelV y u → R x y H2 → wpAny (model X.prog X.w) X.A (f v u) Q X.xe s2) :
    wpAny (model X.prog X.w) X.A (eval a X.env) (fun v s₁ => wpAny (model X.prog X.w) X.A (eval b X.env) (fun u s₂ => wpAny (model X.prog X.w) X.A (f v u) Q X.xe s₂) X.xe s₁) X.xe s := by
  refine thn (ha pins s σ H _ I h) fun v s1 ⟨x, H1, I1, r1, q1⟩ => ?_
  refine thn (hb pins s1 σ H1 _ I1 q1) fun u s2 ⟨y, H2, I2, r2, q2⟩ => ?_
  exact hf v u s2 x y H2 I2 r1 r2 q2

theorem pe_op {op : Operator} {r : R2} (ho : OpR X (binaryOp op) r) (ha : PE X a ta) (hb : PE X b tb) : PE X (.BinOp a op b pos) (tOp r ta tb) := by
  intro pins s σ H Q I h
  exact wpAny_BinOp (binT ha hb I h fun v u s2 x y H2 I2 rx ry q => ho pins s2 σ H2 x y v u Q I2 rx ry q)
theorem pe_un {op : UnaryOp} {r : V → Hp → VK → Prop} (ho : UnR X (unaryOp op) r) (ha : PE X a ta) : PE X (.UnaryOp op a pos) (tUn r ta) := by
  intro pins s σ H Q I h
  exact UnaryOp_ (thn (ha pins s σ H _ I h) fun v s1 ⟨x, H1, I1, r1, q1⟩ => ho pins s1 σ H1 x v Q I1 r1 q1)
/-! ### ints -/
theorem opI {f : Value → Value → Sem Value} {C : Int → Int → Prop} {g : Int → Int → Int}
    (rule : ∀ (i j : Int) (t u : Tok) (s : Shared) (Q : Value → Shared → Prop) (E : Value → Shared → Prop), C i j → Q (.int (g i j) s.toks) { s with toks := s.toks + 1 } → wpAny (model X.prog X.w) X.A (f (.int i t) (.int j u)) Q E s) :
    OpR X f (rI C fun i j => .int (g i j)) := by
  intro pins s σ H x y v u Q I rx ry h
  obtain ⟨i, j, rfl, rfl, hc, q⟩ := h
  obtain ⟨t, rfl⟩ := rx
  obtain ⟨t', rfl⟩ := ry
  exact rule i j t t' s _ _ hc ⟨.int (g i j), H, I.tok _, ⟨_, rfl⟩, q⟩
theorem opI0 {f : Value → Value → Sem Value} {g : Int → Int → Int}
    (rule : ∀ (i j : Int) (t u : Tok) (s : Shared) (Q : Value → Shared → Prop) (E : Value → Shared → Prop), Q (.int (g i j) s.toks) { s with toks := s.toks + 1 } → wpAny (model X.prog X.w) X.A (f (.int i t) (.int j u)) Q E s) :
    OpR X f (rI0 fun i j => .int (g i j)) := by
  intro pins s σ H x y v u Q I rx ry h
  obtain ⟨i, j, rfl, rfl, q⟩ := h
  obtain ⟨t, rfl⟩ := rx
  obtain ⟨t', rfl⟩ := ry
  exact rule i j t t' s _ _ ⟨.int (g i j), H, I.tok _, ⟨_, rfl⟩, q⟩
theorem opB0 {f : Value → Value → Sem Value} {g : Int → Int → Bool}
    (rule : ∀ (i j : Int) (t u : Tok) (s : Shared) (Q : Value → Shared → Prop) (E : Value → Shared → Prop), Q (.bool (g i j)) s → wpAny (model X.prog X.w) X.A (f (.int i t) (.int j u)) Q E s) :
    OpR X f (rI0 fun i j => .bl (g i j)) := by
  intro pins s σ H x y v u Q I rx ry h
  obtain ⟨i, j, rfl, rfl, q⟩ := h
  obtain ⟨t, rfl⟩ := rx
  obtain ⟨t', rfl⟩ := ry
  exact rule i j t t' s _ _ ⟨.bl (g i j), H, I, rfl, q⟩

def CPow (i j : Int) : Prop := 0 ≤ j ∧ j ≤ 1000000 ∧ i.natAbs < 2 ^ 64
def CMul (i j : Int) : Prop := (-(2 ^ 64) < i ∧ i < 2 ^ 64) ∨ (-(2 ^ 64) < j ∧ j < 2 ^ 64)
theorem CMul.ok {i j : Int} (h : CMul i j) : IntMulOk i j := by
  rcases h with ⟨h1, h2⟩ | ⟨h1, h2⟩
  · exact .of_left (intBits_le_64 h1 h2)
  · exact .of_right (intBits_le_64 h1 h2)
theorem op_add : OpR X (binaryOp .Add) (rI0 fun i j => .int (i + j)) := opI0 fun _ _ _ _ _ _ _ q => add_int q
theorem op_sub : OpR X (binaryOp .Sub) (rI0 fun i j => .int (i - j)) := opI0 fun _ _ _ _ _ _ _ q => sub_int q
/-- % by a positive divisor of any size -/
theorem op_mod : OpR X (binaryOp .Mod) (rI (fun _ j => 0 < j) fun i j => .int (i % j)) := opI fun i j _ _ _ _ _ hc q => by
  have h1 : (0 : Int) < j := hc
  exact mod_int' (by omega) (by rw [Int.fmod_eq_emod_of_nonneg i (by omega)]; exact q)
theorem op_modN : OpR X (binaryOp .Mod) (rI (fun _ j => j ≠ 0) fun i j => .int (i.fmod j)) := opI fun _ _ _ _ _ _ _ hc q => mod_int' hc q
theorem op_pow : OpR X (binaryOp .Pow) (rI CPow fun i j => .int (i ^ j.toNat)) := opI fun _ _ _ _ _ _ _ hc q => pow_int_small hc.1 hc.2.1 hc.2.2 q
theorem unI {f : Value → Sem Value} {g : Int → Int}
    (rule : ∀ (i : Int) (t : Tok) (s : Shared) (Q : Value → Shared → Prop) (E : Value → Shared → Prop), Q (.int (g i) s.toks) { s with toks := s.toks + 1 } → wpAny (model X.prog X.w) X.A (f (.int i t)) Q E s) :
    UnR X f (rU fun i => .int (g i)) := by
  intro pins s σ H x v Q I rx h
  obtain ⟨i, rfl, q⟩ := h
  obtain ⟨t, rfl⟩ := rx
  exact rule i t s _ _ ⟨.int (g i), H, I.tok _, ⟨_, rfl⟩, q⟩
theorem un_neg : UnR X (unaryOp .USub) (rU fun i => .int (-i)) := unI fun _ _ _ _ _ q => neg_int q
/-! ### bools among ints: n += (a < b) -/
end

/-! ### comparisons -/
/-- the scalars that == tells apart as data does -/
def scal : V → V → Bool
  | .non, .non => true | .non, .int _ => true | .int _, .non => true | .non, .bl _ => true | .bl _, .non => true | .non, .str _ => true | .str _, .non => true
  | .int _, .int _ => true | .bl _, .bl _ => true | .str _, .str _ => true | .byt _, .byt _ => true
  | .int _, .str _ => true | .str _, .int _ => true | .bl _, .str _ => true | .str _, .bl _ => true
  | _, _ => false
def rEq : R2 := fun x y H Q => scal x y = true ∧ Q (.bl (decide (x = y))) H
def rNe : R2 := fun x y H Q => scal x y = true ∧ Q (.bl (!decide (x = y))) H

theorem dec_int {i j : Int} : decide (V.int i = V.int j) = (i == j) := by
  rw [Bool.eq_iff_iff]
  simp
theorem dec_bl {i j : Bool} : decide (V.bl i = V.bl j) = (i == j) := by
  rw [Bool.eq_iff_iff]
  simp
theorem dec_str {i j : Str} : decide (V.str i = V.str j) = (i == j) := by
  rw [Bool.eq_iff_iff]
  simp
theorem dec_byt {i j : Array UInt8} : decide (V.byt i = V.byt j) = (i.toList == j.toList) := by
  rw [Bool.eq_iff_iff]
  cases i
  cases j
  simp

section
variable {X : Cx} {a b c : Expr} {ta tb tc : TE} {pos : Pos}
theorem fin_bl {pins : List (Addr × Obj)} {σ : St} {H : Hp} {s : Shared} {Q : VK} {k k' : Bool} (I : Inv X pins σ H s) (q : Q (.bl k) H) (e : k = k') : EP X pins σ Q (.bool k') s := by
  subst e
  exact ⟨.bl k, H, I, rfl, q⟩
theorem op_eq : OpR X (compareOp .Eq) rEq := by
  intro pins s σ H x y v u Q I rx ry h
  obtain ⟨hs, q⟩ := h
  cases x with
  | non =>
    cases rx
    cases y with
    | non => cases ry; exact PySem.EqNone.eq_none_none (fin_bl I q (by simp))
    | bl j => cases ry; exact PySem.EqNone.eq_none_bool (fin_bl I q (by simp))
    | int j => obtain ⟨t', rfl⟩ := ry; exact PySem.EqNone.eq_none_int (fin_bl I q (by simp))
    | str j => obtain ⟨t', rfl⟩ := ry; exact PySem.EqNone.eq_none_str (fin_bl I q (by simp))
    | _ => exact absurd (show false = true from hs) Bool.false_ne_true
  | bl i =>
    cases rx
    cases y with
    | non => cases ry; exact PySem.EqNone.eq_bool_none (fin_bl I q (by simp))
    | bl j => cases ry; exact eq_bool (fin_bl I q dec_bl)
    | str j => obtain ⟨t', rfl⟩ := ry; exact PySem.EqMixed.eq_bool_str (fin_bl I q (by simp))
    | _ => exact absurd (show false = true from hs) Bool.false_ne_true
  | int i =>
    obtain ⟨t, rfl⟩ := rx
    cases y with
    | non => cases ry; exact PySem.EqNone.eq_int_none (fin_bl I q (by simp))
    | int j => obtain ⟨t', rfl⟩ := ry; exact eq_int (fin_bl I q dec_int)
    | str j => obtain ⟨t', rfl⟩ := ry; exact PySem.EqMixed.eq_int_str (fin_bl I q (by simp))
    | _ => exact absurd (show false = true from hs) Bool.false_ne_true
  | str i =>
    obtain ⟨t, rfl⟩ := rx
    cases y with
    | non => cases ry; exact PySem.EqNone.eq_str_none (fin_bl I q (by simp))
    | bl j => cases ry; exact PySem.EqMixed.eq_str_bool (fin_bl I q (by simp))
    | int j => obtain ⟨t', rfl⟩ := ry; exact PySem.EqMixed.eq_str_int (fin_bl I q (by simp))
    | str j => obtain ⟨t', rfl⟩ := ry; exact eq_str (fin_bl I q dec_str)
    | _ => exact absurd (show false = true from hs) Bool.false_ne_true
  | byt i =>
    obtain ⟨t, rfl⟩ := rx
    cases y with
    | byt j => obtain ⟨t', rfl⟩ := ry; exact PySem.W.eq_bytes (fin_bl I q dec_byt)
    | _ => exact absurd (show false = true from hs) Bool.false_ne_true
  | _ => cases y <;> exact absurd (show false = true from hs) Bool.false_ne_true
theorem op_ne : OpR X (compareOp .NotEq) rNe := by
  intro pins s σ H x y v u Q I rx ry h
  obtain ⟨hs, q⟩ := h
  cases x with
  | non =>
    cases rx
    cases y with
    | non => cases ry; exact PySem.EqNone.ne_none_none (fin_bl I q (by simp))
    | bl j => cases ry; exact PySem.EqNone.ne_none_bool (fin_bl I q (by simp))
    | int j => obtain ⟨t', rfl⟩ := ry; exact PySem.EqNone.ne_none_int (fin_bl I q (by simp))
    | str j => obtain ⟨t', rfl⟩ := ry; exact PySem.EqNone.ne_none_str (fin_bl I q (by simp))
    | _ => exact absurd (show false = true from hs) Bool.false_ne_true
  | bl i =>
    cases rx
    cases y with
    | non => cases ry; exact PySem.EqNone.ne_bool_none (fin_bl I q (by simp))
    | bl j => cases ry; exact ne_bool (fin_bl I q (congrArg not dec_bl))
    | str j => obtain ⟨t', rfl⟩ := ry; exact PySem.EqMixed.ne_bool_str (fin_bl I q (by simp))
    | _ => exact absurd (show false = true from hs) Bool.false_ne_true
  | int i =>
    obtain ⟨t, rfl⟩ := rx
    cases y with
    | non => cases ry; exact PySem.EqNone.ne_int_none (fin_bl I q (by simp))
    | int j => obtain ⟨t', rfl⟩ := ry; exact ne_int (fin_bl I q (congrArg not dec_int))
    | str j => obtain ⟨t', rfl⟩ := ry; exact PySem.EqMixed.ne_int_str (fin_bl I q (by simp))
    | _ => exact absurd (show false = true from hs) Bool.false_ne_true
  | str i =>
    obtain ⟨t, rfl⟩ := rx
    cases y with
    | non => cases ry; exact PySem.EqNone.ne_str_none (fin_bl I q (by simp))
    | bl j => cases ry; exact PySem.EqMixed.ne_str_bool (fin_bl I q (by simp))
    | int j => obtain ⟨t', rfl⟩ := ry; exact PySem.EqMixed.ne_str_int (fin_bl I q (by simp))
    | str j => obtain ⟨t', rfl⟩ := ry; exact ne_str (fin_bl I q (congrArg not dec_str))
    | _ => exact absurd (show false = true from hs) Bool.false_ne_true
  | byt i =>
    obtain ⟨t, rfl⟩ := rx
    cases y with
    | byt j => obtain ⟨t', rfl⟩ := ry; exact PySem.W.ne_bytes (fin_bl I q (congrArg not dec_byt))
    | _ => exact absurd (show false = true from hs) Bool.false_ne_true
  | _ => cases y <;> exact absurd (show false = true from hs) Bool.false_ne_true

theorem op_lt : OpR X (compareOp .Lt) (rI0 fun i j => .bl (decide (i < j))) := opB0 fun _ _ _ _ _ _ _ q => lt_int q
theorem op_le : OpR X (compareOp .LtE) (rI0 fun i j => .bl (decide (i ≤ j))) := opB0 fun _ _ _ _ _ _ _ q => le_int q
theorem op_gt : OpR X (compareOp .Gt) (rI0 fun i j => .bl (decide (j < i))) := opB0 fun _ _ _ _ _ _ _ q => gt_int q
theorem op_ge : OpR X (compareOp .GtE) (rI0 fun i j => .bl (decide (j ≤ i))) := opB0 fun _ _ _ _ _ _ _ q => ge_int q
theorem nomark (b : Expr) {op : CmpOp} (h : op ≠ .In := by decide) (h2 : op ≠ .NotIn := by decide) : behindInMarks op b = false := by
  have e1 : (op == CmpOp.In) = false := by cases op <;> first | rfl | exact absurd rfl h
  have e2 : (op == CmpOp.NotIn) = false := by cases op <;> first | rfl | exact absurd rfl h2
  cases b <;> simp [behindInMarks, e1, e2]
/-- a comparison as a value; hm: nomark b, or (for in, not in) by with_unfolding_all rfl -/
theorem pe_cmpR {op : CmpOp} {r : R2} (ho : OpR X (compareOp op) r) (ha : PE X a ta) (hb : PE X b tb) (hm : behindInMarks op b = false) : PE X (.Compare a [op] [b] pos) (tOp r ta tb) := by
  intro pins s σ H Q I h
  exact wpAny_Compare1 (binT ha hb I h fun v u s2 x y H2 I2 rx ry q => ho pins s2 σ H2 x y v u Q I2 rx ry q) hm
/-- a reading of a value as a test -/
def tTest (t : TE) : TT := fun σ H Q => t σ H fun x H' => ∃ k, x = .bl k ∧ Q k H'
theorem pt_cmpR {op : CmpOp} {r : R2} (ho : OpR X (compareOp op) r) (ha : PE X a ta) (hb : PE X b tb) (hm : behindInMarks op b = false) : PT X (.Compare a [op] [b] pos) (tTest (tOp r ta tb)) := by
  intro pins s σ H Q I h
  refine wpAny_isTrue_Compare1 (thn (ha pins s σ H _ I h) fun v s1 ⟨x, H1, I1, r1, q1⟩ => thn (hb pins s1 σ H1 _ I1 q1) fun u s2 ⟨y, H2, I2, r2, q2⟩ =>
    thn (ho pins s2 σ H2 x y v u _ I2 r1 r2 q2) fun c s3 ⟨z, H3, I3, r3, k, e, q3⟩ => ?_) hm
  subst e
  cases r3
  exact wpAny_truthy_bool ⟨H3, I3, q3⟩
/-- a op1 b op2 c -/
def tChain (r r' : R2) (ta tb tc : TE) : TE := fun σ H Q => ta σ H fun x H1 => tb σ H1 fun y H2 => r x y H2 fun z H3 => ∃ k, z = .bl k ∧
  (if k = true then tc σ H3 fun w' H4 => r' y w' H4 Q else Q (.bl false) H3)
theorem pe_chain {op op' : CmpOp} {r r' : R2} (ho : OpR X (compareOp op) r) (ho' : OpR X (compareOp op') r') (ha : PE X a ta) (hb : PE X b tb) (hc : PE X c tc)
    (hm : lastMarks [op, op'] [b, c] = false := by with_unfolding_all rfl) : PE X (.Compare a [op, op'] [b, c] pos) (tChain r r' ta tb tc) := by
  intro pins s σ H Q I h
  refine Compare_chain (thn (ha pins s σ H _ I h) fun v s1 ⟨x, H1, I1, r1, q1⟩ => chain_link (thn (hb pins s1 σ H1 _ I1 q1) fun u s2 ⟨y, H2, I2, r2, q2⟩ =>
    thn (ho pins s2 σ H2 x y v u _ I2 r1 r2 q2) fun d s3 ⟨z, H3, I3, r3, k, e, q3⟩ => ?_)) hm
  subst e
  cases r3
  refine wpAny_truthy_bool ?_
  cases k with
  | false => exact ite_ff ⟨.bl false, H3, I3, rfl, q3⟩
  | true => exact ite_tt (chain_last (thn (hc pins s3 σ H3 _ I3 q3) fun w' s4 ⟨z', H4, I4, r4, q4⟩ => ho' pins s4 σ H4 y z' u w' Q I4 r2 r4 q4))
/-! ### truth -/
theorem line63 : (sizeLine : Nat) < 2 ^ 63 := by rw [sizeLine_eq]; decide
/-! ### strs and bytes -/
/-! ### scalar builtins, by CallR -/
theorem vals1 {x : V} {us : List Value} (r : Vals [x] us) : ∃ u, us = [u] ∧ RelV x u := by
  cases r with
  | cons r1 r2 => cases r2; exact ⟨_, rfl, r1⟩
theorem vals2 {x y : V} {us : List Value} (r : Vals [x, y] us) : ∃ u w', us = [u, w'] ∧ RelV x u ∧ RelV y w' := by
  cases r with
  | cons r1 r2 =>
    cases r2 with
    | cons r3 r4 => cases r4; exact ⟨_, _, rfl, r1, r3⟩
theorem call_abs : CallR X (.builtin "abs") (fun xs H Q => ∃ i, xs = [.int i] ∧ Q (.int (if i < 0 then -i else i)) H) := by
  intro pins s σ H xs us Q I r h
  obtain ⟨i, rfl, q⟩ := h
  obtain ⟨u, rfl, t, rfl⟩ := vals1 r
  exact call_abs_int fun u tk => ⟨.int (if i < 0 then -i else i), H, I.tok _, ⟨_, rfl⟩, q⟩
theorem call_max2 (hc : X.calm = true) : CallR X (.builtin "max") (fun xs H Q => ∃ i j, xs = [.int i, .int j] ∧ Q (.int (if j > i then j else i)) H) := by
  intro pins s σ H xs us Q I r h
  obtain ⟨i, j, rfl, q⟩ := h
  obtain ⟨u, w', rfl, ⟨t, rfl⟩, ⟨t', rfl⟩⟩ := vals2 r
  refine max_two_ints (I.ok.hd hc) fun h' tk k => ⟨_, H, I.kept k, ?_, q⟩
  by_cases hj : j > i
  · rw [if_pos hj, if_pos hj]; exact ⟨_, rfl⟩
  · rw [if_neg hj, if_neg hj]; exact ⟨_, rfl⟩
theorem call_min2 (hc : X.calm = true) : CallR X (.builtin "min") (fun xs H Q => ∃ i j, xs = [.int i, .int j] ∧ Q (.int (if j < i then j else i)) H) := by
  intro pins s σ H xs us Q I r h
  obtain ⟨i, j, rfl, q⟩ := h
  obtain ⟨u, w', rfl, ⟨t, rfl⟩, ⟨t', rfl⟩⟩ := vals2 r
  refine min_two_ints (I.ok.hd hc) fun h' tk k => ⟨_, H, I.kept k, ?_, q⟩
  by_cases hj : j < i
  · rw [if_pos hj, if_pos hj]; exact ⟨_, rfl⟩
  · rw [if_neg hj, if_neg hj]; exact ⟨_, rfl⟩
theorem call_int1 : CallR X (.type "int") (fun xs H Q => (∃ i, xs = [.int i] ∧ Q (.int i) H) ∨ ∃ k, xs = [.bl k] ∧ Q (.int (if k then 1 else 0)) H) := by
  intro pins s σ H xs us Q I r h
  rcases h with ⟨i, rfl, q⟩ | ⟨k, rfl, q⟩
  · obtain ⟨u, rfl, t, rfl⟩ := vals1 r
    exact call_int_int ⟨.int i, H, I, ⟨_, rfl⟩, q⟩
  · obtain ⟨u, rfl, r1⟩ := vals1 r
    cases r1
    exact call_int_bool ⟨.int (if k then 1 else 0), H, I.tok _, ⟨_, rfl⟩, q⟩
end
end L2

namespace L2
open PySem PySem.Spec PyProof.Rows

/-! ### an instance, its attributes a map -/
structure ObjM (h : Heap) (x dx C : Addr) (mA : Str → Option Value) : Prop where
  obj : h.get? x = some (PySem.W.instObj C dx)
  ns : h.Ns1 dx mA
  ne : dx ≠ x

theorem lookIn_ns {h : Heap} {dx : Addr} {mA : Str → Option Value} (n : h.Ns1 dx mA) : ∃ od, h.get? dx = some od ∧ ∀ name, PySem.W.lookIn name od = some (mA name) := by
  obtain ⟨o, es, ep, ho, hd, hk, _, hm⟩ := n
  refine ⟨o, ho, fun name => ?_⟩
  have e := hm name
  unfold nsFind findBy at e
  rw [← Array.find?_toList] at e
  unfold PySem.W.lookIn
  rw [hd]
  dsimp only
  split
  · rename_i y q
    rw [q] at e
    exact congrArg some e
  · rename_i q
    rw [q] at e
    have a : es.toList.any (·.refKey) = false := by
      rw [List.any_eq_false]
      intro y hy
      obtain ⟨z, t, hkey⟩ := hk y (Array.mem_toList_iff.mp hy)
      simp [DictEntry.refKey, hkey]
    have a' : ¬ es.toList.any (·.refKey) = true := by rw [a]; exact Bool.false_ne_true
    rw [if_neg a']
    exact congrArg some e

theorem ObjM.look {h : Heap} {x dx C : Addr} {mA : Str → Option Value} (I : ObjM h x dx C mA) : ∃ od, PySem.W.InstAt h x (PySem.W.instObj C dx) C (some od) ∧ ∀ name, PySem.W.lookIn name od = some (mA name) :=
  let ⟨od, ho, hl⟩ := lookIn_ns I.ns
  ⟨od, ⟨I.obj, rfl, rfl, ho⟩, hl⟩

section
variable {prog : Program} {w : World} {A : Around} {E : Value → Shared → Prop} {s : Shared} {K : PySem.W.Frag} {x dx C f : Addr} {mA : Str → Option Value} {name : Str} {v : Value}

theorem get_map {expr : Bool} {Q : Value → Shared → Prop} (X : K.In s.heap) (I : ObjM s.heap x dx C mA) (hg : PySem.W.plainGet K C name = true) (hh : PySem.W.hasDictIn K C = true)
    (ha : PySem.W.findIn K (.ref C) name = some none) (hv : mA name = some v) (hv' : PySem.W.handedIn v = true) (h : Q v { s with toks := s.toks + 1 }) :
    wpAny (model prog w) A (getAttr (.ref x) name expr) Q E s := by
  obtain ⟨od, J, hl⟩ := I.look
  exact PySem.W.get_value X J (PySem.W.plainGet_of hg).1 (PySem.W.findObj_own hh ha rfl (by rw [hl, hv])) hv' h

theorem get_meth {pl : Sem Bool} {Q : Value × List Value → Shared → Prop} (X : K.In s.heap) (I : ObjM s.heap x dx C mA) (hg : PySem.W.plainGet K C name = true)
    (hf : PySem.W.findIn K (.ref C) name = some (some (.ref f))) (ht : PySem.W.isFn K (.ref f) = true) (hv : mA name = none) (h : Q (.ref f, [.ref x]) s) :
    wpAny (model prog w) A (getMethod (.ref x) name pl) Q E s := by
  obtain ⟨od, J, hl⟩ := I.look
  exact PySem.W.method_fn X J (PySem.W.plainGet_of hg).1 (PySem.W.plainGet_of hg).2 hf (beq_iff_eq.mp ht) (by show (PySem.W.lookIn name od).map (·.isSome) = some false; rw [hl, hv]; rfl) h

theorem set_map {ns : List Str} {Q : Unit → Shared → Prop} (X : K.In s.heap) (I : ObjM s.heap x dx C mA)
    (hs : PySem.W.findIn K (.ref C) "__setattr__" = some (some (.builtin "object.__setattr__"))) (hp : PySem.W.plainOver K C = true) (ht : PySem.W.takerIn K C name = some none) (hh : PySem.W.hasDictIn K C = true)
    (hw : PySem.Within mA ns) (hsz : ns.length ≤ sizeLine)
    (h : ∀ h', ObjM h' x dx C (fun y => if y = name then some v else mA y) → Heap.SameBut dx s.heap h' → Q () { s with heap := h', toks := s.toks + 2 }) :
    wpAny (model prog w) A (setAttr (.ref x) name v) Q E s := by
  obtain ⟨od, J, hl⟩ := I.look
  refine PySem.W.set_plain X J hs (PySem.W.osa_open (s := { s with toks := s.toks + 1 }) (r := none) X J hp ht fun b => ?_)
  obtain ⟨cd, hc, hd'⟩ := PySem.W.any_some hh
  have hx : s.heap.get? x = some ⟨.ref C, some dx, .plain, #[]⟩ := I.obj
  refine wpAny_bind (wpAny_pure (wpAny_bind (wpAny_bind (wpAny_loadPart hx (wpAny_bind (PySem.W.Looks.here (s := { s with toks := s.toks + 1 }) (PySem.W.looks_clsIn X hc) ?_))))))
  rw [hd']
  refine wpAny_pure (a := some dx) (wpAny_bind (wpAny_pure (wpAny_bind ?_)))
  refine wpAny_nsSet1 (s := { s with toks := s.toks + 1 }) I.ns fun h' hn2 hs2 => ?_
  obtain ⟨oD, esD, epD, hoD, hdD, hcD⟩ := hn2.count (PySem.Within.cons name v hw)
  refine wpAny_bind (wpAny_lookBehind hoD (by rw [hdD]; exact pastItsLine_dict (Nat.le_trans hcD (by rw [List.length_cons]; omega))) ?_)
  exact wpAny_pure (h _ ⟨(hs2.2 _ (Ne.symm I.ne)).trans I.obj, hn2, I.ne⟩ hs2)

/-- C(..): the dict at the heap's end, the instance behind it; then its __init__ -/
theorem make_map {R : Result → Shared → Prop} {vs : List Value} {kw : List (Str × Value)} (X : K.In s.heap) (hm : PySem.W.makesIn K C = true)
    (hi : PySem.W.findIn K (.ref C) "__init__" = some (some (.ref f))) (hf : PySem.W.typeIn K (.ref f) = some (.type "function"))
    (h : codeAny (model prog w) (A.under (.builtin "type.__call__" ⟨.ref C :: vs, kw⟩)) (.call (.ref f) ⟨.ref (s.heap.objs.size + 1) :: vs, kw⟩) (PySem.W.InitBack (s.heap.objs.size + 1) R)
      { s with heap := (s.heap.push PySem.W.emptyDict).push (PySem.W.instObj C s.heap.objs.size) }) :
    codeAny (model prog w) A (.call (.ref C) ⟨vs, kw⟩) R s := by
  obtain ⟨hh, g, d, t, os⟩ := s
  exact PySem.W.make_core (PySem.W.makes_of X hm) (PySem.W.looks_findIn X hi) (fun self => PySem.W.bind_fn X self hf) (.inl rfl) h
end

/-! ### the attributes as a list of pairs -/
def putF (f : Str) (v : V) : List (Str × V) → List (Str × V)
  | [] => [(f, v)]
  | (g, x) :: r => if g = f then (g, v) :: r else (g, x) :: putF f v r
theorem lookup_putF (f g : Str) (v : V) : ∀ fs : List (Str × V), (putF f v fs).lookup g = if g = f then some v else fs.lookup g
  | [] => by
    show List.lookup g [(f, v)] = _
    by_cases h : g = f
    · have hb : (g == f) = true := beq_iff_eq.mpr h
      simp only [List.lookup, hb, if_pos h]
    · have hb : (g == f) = false := beq_eq_false_iff_ne.mpr h
      simp only [List.lookup, hb, if_neg h]
  | (k, x) :: r => by
    have ih := lookup_putF f g v r
    rw [show putF f v ((k, x) :: r) = (if k = f then (k, v) :: r else (k, x) :: putF f v r) from rfl]
    by_cases hk : k = f
    · rw [if_pos hk]
      by_cases h : g = k
      · have hb : (g == k) = true := beq_iff_eq.mpr h
        simp only [List.lookup, hb, if_pos (h.trans hk)]
      · have hb : (g == k) = false := beq_eq_false_iff_ne.mpr h
        simp only [List.lookup, hb, if_neg (fun e : g = f => h (e.trans hk.symm))]
    · rw [if_neg hk]
      by_cases h : g = k
      · have hb : (g == k) = true := beq_iff_eq.mpr h
        simp only [List.lookup, hb, if_neg (fun e : g = f => hk (h.symm.trans e))]
      · have hb : (g == k) = false := beq_eq_false_iff_ne.mpr h
        simp only [List.lookup, hb]
        exact ih
theorem keys_putF (f : Str) (v : V) : ∀ fs : List (Str × V), f ∈ (putF f v fs).map (·.1) ∧ ∀ g, g ∈ fs.map (·.1) → g ∈ (putF f v fs).map (·.1)
  | [] => ⟨by simp [putF], fun g h => by simp at h⟩
  | (k, x) :: r => by
    obtain ⟨i1, i2⟩ := keys_putF f v r
    rw [show putF f v ((k, x) :: r) = (if k = f then (k, v) :: r else (k, x) :: putF f v r) from rfl]
    by_cases hk : k = f
    · rw [if_pos hk]
      subst hk
      exact ⟨by simp, fun g h => by simpa using h⟩
    · rw [if_neg hk]
      refine ⟨?_, fun g h => ?_⟩
      · rw [List.map_cons]
        exact List.mem_cons_of_mem _ i1
      · rw [List.map_cons] at h ⊢
        rcases List.mem_cons.mp h with e | e
        · exact List.mem_cons.mpr (.inl e)
        · exact List.mem_cons_of_mem _ (i2 g e)
theorem length_putF (f : Str) (v : V) : ∀ fs : List (Str × V), (putF f v fs).length ≤ fs.length + 1
  | [] => by simp [putF]
  | (k, x) :: r => by
    have ih := length_putF f v r
    rw [show putF f v ((k, x) :: r) = (if k = f then (k, v) :: r else (k, x) :: putF f v r) from rfl]
    by_cases hk : k = f
    · rw [if_pos hk, List.length_cons, List.length_cons]; omega
    · rw [if_neg hk, List.length_cons, List.length_cons]; omega

theorem RelO.some_of {v : V} {o : Option Value} (r : RelO (some v) o) : ∃ u, o = some u ∧ RelV v u := by
  cases o with
  | none => exact (show False from r).elim
  | some u => exact ⟨u, rfl, r⟩
theorem RelO.none_of {o : Option Value} (r : RelO none o) : o = none := by
  cases o with
  | none => rfl
  | some u => exact (show False from r).elim
theorem handed_of {v : V} {u : Value} (r : RelV v u) : PySem.W.handedIn u = true := by
  cases v with
  | non => cases (show u = Value.none from r); rfl
  | bl b => cases (show u = Value.bool b from r); rfl
  | int i => obtain ⟨t, e⟩ := (show ∃ t, u = Value.int i t from r); cases e; rfl
  | str x => obtain ⟨t, e⟩ := (show ∃ t, u = Value.str x t from r); cases e; rfl
  | byt b => obtain ⟨t, e⟩ := (show ∃ t, u = Value.bytes b t from r); cases e; rfl
  | flt b => obtain ⟨t, e⟩ := (show ∃ t, u = Value.float b t from r); cases e; rfl
  | ref a => cases (show u = Value.ref a from r); rfl
  | ty n => cases (show u = Value.type n from r); rfl

section
variable {P : Program} {w : World} {H H' : Hp} {h h' : Heap} {a C dx : Addr} {fs fs' : List (Str × V)}
theorem ins_get (hok : HOk P w H h) (e : H a = some (.ins C dx fs)) : ∃ mA, ObjM h a dx C mA ∧ (∀ f, RelO (fs.lookup f) (mA f)) ∧ PySem.Within mA (fs.map (·.1)) ∧ fs.length ≤ 1000 ∧ H dx = some (.own a) := by
  obtain ⟨d, z, ne, ob, mA, n, r, q⟩ := (show ObjOk P w H h a (.ins C dx fs) from hok a _ e)
  exact ⟨mA, ⟨ob, n, ne⟩, r, q, z, d⟩
end

/-! ### what of the text a class must have -/
structure Cls (K : PySem.W.Frag) (C : Addr) : Prop where
  pg : PySem.W.plainGet K C Str.empty = true
  hd : PySem.W.hasDictIn K C = true
  po : PySem.W.plainOver K C = true
  sa : PySem.W.findIn K (.ref C) "__setattr__" = some (some (.builtin "object.__setattr__"))
theorem Cls.get {K : PySem.W.Frag} {C : Addr} (c : Cls K C) (f : Str) : PySem.W.plainGet K C f = true := c.pg
/-- no class of it has the name -/
def NoAttr (K : PySem.W.Frag) (C : Addr) (f : Str) : Prop := PySem.W.findIn K (.ref C) f = some none
theorem NoAttr.taker {K : PySem.W.Frag} {C : Addr} {f : Str} (n : NoAttr K C f) : PySem.W.takerIn K C f = some none := by
  unfold PySem.W.takerIn
  rw [show PySem.W.findIn K (.ref C) f = some none from n]
  rfl
/-- a constant of the class -/
structure Con (K : PySem.W.Frag) (C : Addr) (f : Str) (v : V) (u : Value) : Prop where
  at_ : PySem.W.findIn K (.ref C) f = some (some u)
  rel : RelV v u
  get : PySem.W.specialIn K u "__get__" = some none
  cp : PySem.W.copiedNames.contains f = false
/-- a method: a plain def of the class or of one above it -/
structure Meth (K : PySem.W.Frag) (C : Addr) (m : Str) (f : Addr) : Prop where
  at_ : PySem.W.findIn K (.ref C) m = some (some (.ref f))
  fn : PySem.W.isFn K (.ref f) = true
  kp : PySem.W.keepIn K (.ref f) = true

section
variable {X : Cx} {pins : List (Addr × Obj)} {σ : St} {H : Hp} {s : Shared} {a C dx : Addr} {fs : List (Str × V)} {f : Str} {v : V} {A : Around} {E : Value → Shared → Prop}

theorem getattr_ok {b : Bool} {Q : Value → Shared → Prop} (I : Inv X pins σ H s) (e : H a = some (.ins C dx fs)) (c : Cls X.K C) (n : NoAttr X.K C f) (l : fs.lookup f = some v)
    (h : ∀ u s', Inv X pins σ H s' → RelV v u → Q u s') : wpAny (model X.prog X.w) A (getAttr (.ref a) f b) Q E s := by
  obtain ⟨mA, O, r, _, _, _⟩ := ins_get I.hok e
  obtain ⟨u, hu, ru⟩ := RelO.some_of (v := v) (o := mA f) (by rw [← l]; exact r f)
  exact get_map I.kIn O (c.get f) c.hd n hu (handed_of ru) (h u _ (I.tok _) ru)

theorem getmeth_ok {m : Str} {g : Addr} {pl : Sem Bool} {Q : Value × List Value → Shared → Prop} (I : Inv X pins σ H s) (e : H a = some (.ins C dx fs)) (c : Cls X.K C) (k : Meth X.K C m g) (l : fs.lookup m = none)
    (h : Q (.ref g, [.ref a]) s) : wpAny (model X.prog X.w) A (getMethod (.ref a) m pl) Q E s := by
  obtain ⟨mA, O, r, _, _, _⟩ := ins_get I.hok e
  have hn : mA m = none := RelO.none_of (by rw [← l]; exact r m)
  exact get_meth I.kIn O (c.get m) k.at_ k.fn hn h

theorem setattr_ok {y : V} {u : Value} {Q : Unit → Shared → Prop} (I : Inv X pins σ H s) (e : H a = some (.ins C dx fs)) (c : Cls X.K C) (n : NoAttr X.K C f) (hl : fs.length < 1000) (ry : RelV y u)
    (h : ∀ s', Inv X pins σ (upd H a (.ins C dx (putF f y fs))) s' → Q () s') : wpAny (model X.prog X.w) A (setAttr (.ref a) f u) Q E s := by
  obtain ⟨mA, O, r, wi, _, ho⟩ := ins_get I.hok e
  have hz : (fs.map (·.1)).length ≤ sizeLine := by rw [List.length_map, sizeLine_eq]; omega
  refine set_map I.kIn O c.sa c.po n.taker c.hd wi hz fun h' O' sb => h _ ?_
  have hd : ∃ o, h'.get? dx = some o := let ⟨o, _, _, e', _⟩ := O'.ns; ⟨o, e'⟩
  refine I.write (x := a) (e := dx) (by rw [e]; exact True.intro) (.inr ho) (fun b q hb z => (sb.2 b hb).trans z) hd ?_
  refine ⟨by rw [upd_ne O.ne]; exact ho, ?_, O.ne, O'.obj, _, O'.ns, fun g => ?_, fun g hg => ?_⟩
  · have := length_putF f y fs; omega
  · show RelO ((putF f y fs).lookup g) (if g = f then some u else mA g)
    rw [lookup_putF]
    by_cases q : g = f
    · rw [if_pos q, if_pos q]; exact ry
    · rw [if_neg q, if_neg q]; exact r g
  · by_cases q : g = f
    · rw [q]; exact (keys_putF f y fs).1
    · refine (keys_putF f y fs).2 g (wi g fun z => hg ?_)
      show (if g = f then some u else mA g) = none
      rw [if_neg q]; exact z

/-- a new instance, tracked, without attributes -/
theorem Inv.made (I : Inv X pins σ H s) : Inv X pins σ (upd (upd H s.heap.objs.size (.own (s.heap.objs.size + 1))) (s.heap.objs.size + 1) (.ins C s.heap.objs.size []))
    { s with heap := (s.heap.push PySem.W.emptyDict).push (PySem.W.instObj C s.heap.objs.size) } := by
  have e1 : (s.heap.push PySem.W.emptyDict).get? s.heap.objs.size = some PySem.W.emptyDict := Heap.get?_push_size s.heap rfl
  have e2 : ((s.heap.push PySem.W.emptyDict).push (PySem.W.instObj C s.heap.objs.size)).get? (s.heap.objs.size + 1) = some (PySem.W.instObj C s.heap.objs.size) := by
    have := Heap.get?_push_size (s.heap.push PySem.W.emptyDict) (o := PySem.W.instObj C s.heap.objs.size) rfl
    rwa [Heap.size_push] at this
  have e3 : (s.heap.push PySem.W.emptyDict).Ns s.heap.objs.size (fun _ => none) := ⟨PySem.W.emptyDict, #[], _, e1, rfl, (fun e he => absurd he (by simp)), fun _ => rfl⟩
  have I1 := I.laid (a := s.heap.objs.size) (o := .own (s.heap.objs.size + 1)) (h' := s.heap.push PySem.W.emptyDict) (t' := s.toks) (fun b u q => Heap.get?_push_of_some _ q) (Nat.le_refl _) ⟨_, e1⟩
  refine I1.laid (a := s.heap.objs.size + 1) (o := .ins C s.heap.objs.size []) (t' := s.toks) (fun b u q => Heap.get?_push_of_some _ q) (Nat.le_of_eq (Heap.size_push _ _)) ?_
  have ne : s.heap.objs.size ≠ s.heap.objs.size + 1 := Nat.ne_of_lt (Nat.lt_succ_self _)
  refine ⟨by rw [upd_ne ne, upd_same], Nat.zero_le _, ne, e2, fun _ => none, (Heap.Ns1.of_empty e3).at fun o q => Heap.get?_push_of_some _ q, fun _ => True.intro, fun y hy => absurd rfl hy⟩

/-- e.f where nothing but the object is asked: through attributeBase (super) and the last hold -/
theorem attr_of {prog : Program} {w : World} {env : Env} {e : Expr} {f : Str} {pos : Pos} {s : Shared} {Q : Value → Shared → Prop} (hb : attributeBase e f env (eval e env) = eval e env)
    (h : wpAny (model prog w) A (eval e env) (fun o s₁ => wpAny (model prog w) A (getAttr o f true) Q E s₁) E s) : wpAny (model prog w) A (eval (.Attribute e f pos) env) Q E s :=
  Attribute_any_ h (by rw [arm_eval_Attribute, hb])
end

/-! ### readings and rules -/
/-- e.f, an attribute of the instance -/
def tFld (K : PySem.W.Frag) (ta : TE) (f : Str) : TE := fun σ H Q => ta σ H fun x H1 => ∃ a C dx fs v, x = .ref a ∧ H1 a = some (.ins C dx fs) ∧ Cls K C ∧ NoAttr K C f ∧ fs.lookup f = some v ∧ Q v H1
/-- e.f = value -/
def sFld (K : PySem.W.Frag) (ta tv : TE) (f : Str) : TS := fun D σ H => tv σ H fun y H1 => ta σ H1 fun x H2 => ∃ a C dx fs, x = .ref a ∧ H2 a = some (.ins C dx fs) ∧ Cls K C ∧ NoAttr K C f ∧ fs.length < 1000 ∧
  D.nx σ (upd H2 a (.ins C dx (putF f y fs)))
section
variable {X : Cx} {o e value : Expr} {f : Str} {pos pos' tpos : Pos} {ta tv : TE}
theorem pe_fld (he : PE X e ta) (hb : attributeBase e f X.env (eval e X.env) = eval e X.env) : PE X (.Attribute e f pos) (tFld X.K ta f) := by
  intro pins s σ H Q I h
  refine attr_of hb (thn (he pins s σ H _ I h) fun u s1 ⟨x, H1, I1, rx, a, C, dx, fs, v, ex, ea, c, n, l, q⟩ => ?_)
  subst ex
  obtain rfl : u = Value.ref a := rx
  exact getattr_ok I1 ea c n l fun u' s2 I2 ru => ⟨v, H1, I2, ru, q⟩
theorem ps_fld (ha : PE X o ta) (hv : PE X value tv) (hs : swapsWith value (some (.Attribute o f pos')) pos.line X.env = pure false) : PS X (.Assign [.Attribute o f pos'] value pos) (sFld X.K ta tv f) := by
  intro pins s σ H D I h
  refine plainObj_wpAny_Assign_Attribute (thn (hv pins s σ H _ I h) fun u s1 ⟨y, H1, I1, ry, q⟩ => thn (ha pins s1 σ H1 _ I1 q) fun ov s2 ⟨x, H2, I2, rx, a, C, dx, fs, ex, ea, c, n, l, q2⟩ => ?_) hs
  subst ex
  obtain rfl : ov = Value.ref a := rx
  exact setattr_ok I2 ea c n l ry fun s3 I3 => ⟨σ, _, I3, q2⟩
end

/-! ### isinstance -/
section
variable {X : Cx} {pins : List (Addr × Obj)} {σ : St} {H : Hp} {s : Shared} {A : Around} {E : Value → Shared → Prop} {Q : Value → Shared → Prop} {c : Value} {b : Bool}
/-- the type of a value, as the fragment's deciders take it; for an instance its class -/
inductive TyOf (K : PySem.W.Frag) (H : Hp) : V → Value → Prop where
  | non : TyOf K H .non (.type "NoneType")
  | bl (x : Bool) : TyOf K H (.bl x) (.type "bool")
  | int (i : Int) : TyOf K H (.int i) (.type "int")
  | str (x : Str) : TyOf K H (.str x) (.type "str")
  | flt (x : UInt64) : TyOf K H (.flt x) (.type "float")
  | lst {a : Addr} {xs : List V} (e : H a = some (.lst xs)) : TyOf K H (.ref a) (.type "list")
  | frz {a : Addr} {o : Obj} {xs : List V} (e : H a = some (.frz o (.lst xs))) : TyOf K H (.ref a) (.type "list")
  | tup {a : Addr} {xs : List V} (e : H a = some (.tup xs)) : TyOf K H (.ref a) (.type "tuple")
  | dK {a : Addr} {kvs : List (Key × V)} (e : H a = some (.dK kvs)) : TyOf K H (.ref a) (.type "dict")
  | dT {a : Addr} {kvs : List (List Key × V)} (e : H a = some (.dT kvs)) : TyOf K H (.ref a) (.type "dict")
  | ins {a C dx : Addr} {fs : List (Str × V)} (e : H a = some (.ins C dx fs)) (cl : Cls K C) (ha : PySem.W.findIn K (.ref C) "__class__" = some (some (.builtin "object.__class__")))
      (hn : PySem.W.specialIn K (.builtin "object.__class__") "__get__" = some (some (.builtin "getset_descriptor.__get__"))) (htk : PySem.W.takesIn K (.builtin "object.__class__") = some true)
      (hm : PySem.W.mroIn K C (.type "object") = some true) : TyOf K H (.ref a) (.ref C)
/-- isinstance(x, c) for one class c, a built-in or an own one: kitOne's answer -/
theorem isinst_ok {x : V} {u t : Value} (I : Inv X pins σ H s) (rx : RelV x u) (ty : TyOf X.K H x t) (e : PySem.W.kitOne X.K t c = some b) (h : ∀ tk, Q (.bool b) { s with toks := tk }) :
    wpAny (model X.prog X.w) A (call (.builtin "isinstance") [u, c]) Q E s := by
  cases ty with
  | non => cases (show u = Value.none from rx); exact PySem.W.kia_one PySem.W.kitx_none I.kIn True.intro e (fun z => nomatch z) h
  | bl y => cases (show u = Value.bool y from rx); exact PySem.W.kia_one PySem.W.kitx_bool I.kIn True.intro e (fun z => nomatch z) h
  | int i => obtain ⟨t, q⟩ := (show ∃ t, u = Value.int i t from rx); cases q; exact PySem.W.kia_one PySem.W.kitx_int I.kIn True.intro e (fun z => nomatch z) h
  | str y => obtain ⟨t, q⟩ := (show ∃ t, u = Value.str y t from rx); cases q; exact PySem.W.kia_one PySem.W.kitx_str I.kIn True.intro e (fun z => nomatch z) h
  | flt y => obtain ⟨t, q⟩ := (show ∃ t, u = Value.float y t from rx); cases q; exact PySem.W.kia_one PySem.W.kitx_float I.kIn True.intro e (fun z => nomatch z) h
  | @lst a xs ea =>
    cases (show u = Value.ref a from rx)
    obtain ⟨_, _, n, _, h1⟩ := (show ObjOk X.prog X.w H s.heap a (.lst xs) from I.hok a _ ea)
    exact PySem.W.kia_one PySem.W.kitx_list I.kIn ⟨_, h1, rfl⟩ e (fun z => nomatch z) h
  | @frz a ob xs ea =>
    cases (show u = Value.ref a from rx)
    obtain ⟨_, _, _, n, _, h1⟩ := (show ObjOk X.prog X.w H s.heap a (.frz ob (.lst xs)) from I.hok a _ ea)
    exact PySem.W.kia_one PySem.W.kitx_list I.kIn ⟨_, h1, rfl⟩ e (fun z => nomatch z) h
  | @tup a xs ea =>
    cases (show u = Value.ref a from rx)
    obtain ⟨_, _, _, p⟩ := (show ObjOk X.prog X.w H s.heap a (.tup xs) from I.hok a _ ea)
    obtain ⟨o, h1, h2, _⟩ := p
    exact PySem.W.kia_one PySem.W.kitx_tuple I.kIn ⟨o, h1, h2⟩ e (fun z => nomatch z) h
  | @dK a kvs ea =>
    cases (show u = Value.ref a from rx)
    obtain ⟨_, _, vs, _, p⟩ := (show ObjOk X.prog X.w H s.heap a (.dK kvs) from I.hok a _ ea)
    obtain ⟨o, es, ep, h1, h2, _⟩ := p
    exact PySem.W.kia_one PySem.W.kitx_dict I.kIn ⟨o, h1, h2.1⟩ e (fun z => nomatch z) h
  | @dT a kvs ea =>
    cases (show u = Value.ref a from rx)
    obtain ⟨_, _, xs, _, o, es, ep, h1, h2, _⟩ := (show ObjOk X.prog X.w H s.heap a (.dT kvs) from I.hok a _ ea)
    exact PySem.W.kia_one PySem.W.kitx_dict I.kIn ⟨o, h1, h2.1⟩ e (fun z => nomatch z) h
  | @ins a C dx fs ea cl ha hn htk hm =>
    cases (show u = Value.ref a from rx)
    obtain ⟨mA, O, _⟩ := ins_get I.hok ea
    obtain ⟨od, J, _⟩ := O.look
    exact PySem.W.kia_one (PySem.W.kitx_own (cl.get _) cl.hd ha hn htk hm) I.kIn J e (fun z => nomatch z) h
end
end L2

namespace L2
open PySem PySem.Spec PyProof.Rows

/-! ### room -/
structure Room (k : Nat) (A : Around) : Prop where
  hd : A.handled = none
  dp : A.depth + 3 * k + 5 < recursionLimit
  un : A.units + 16 * k + 200 < cLine
theorem Room.mono {j k : Nat} {A : Around} (r : Room k A) (h : j ≤ k) : Room j A := ⟨r.hd, by have := r.dp; omega, by have := r.un; omega⟩
theorem Room.deeper {k : Nat} {A : Around} (r : Room (k + 1) A) (env : Env) : Room k (A.deeper env) :=
  ⟨r.hd, by have := r.dp; show A.depth + 1 + 3 * k + 5 < _; omega, by have := r.un; show A.units + 3 + 16 * k + 200 < _; omega⟩
theorem Room.in1 {k : Nat} {A : Around} (r : Room (k + 1) A) : Room k A.in1 :=
  ⟨r.hd, by have := r.dp; show A.depth + 3 * k + 5 < _; omega, by have := r.un; show A.units + 1 + 16 * k + 200 < _; omega⟩
theorem make_depth {A : Around} {C : Addr} {us : List Value} {kw : List (Str × Value)} : (A.under (.builtin "type.__call__" ⟨.ref C :: us, kw⟩)).depth = A.depth + 1 := by
  first | rfl | simp [Around.under, Code.weight, Code.isCreation, Code.isGuard, Code.isCaller, Code.frames, Code.isFrame, guardIds]
theorem make_units {A : Around} {C : Addr} {us : List Value} {kw : List (Str × Value)} : (A.under (.builtin "type.__call__" ⟨.ref C :: us, kw⟩)).units = A.units + 1 := by
  first | rfl | simp [Around.under, Code.cUnits, Code.frames, Code.isFrame]
theorem Room.make {k : Nat} {A : Around} (r : Room (k + 1) A) (C : Addr) (us : List Value) (kw : List (Str × Value)) : Room k (A.under (.builtin "type.__call__" ⟨.ref C :: us, kw⟩)) :=
  ⟨r.hd, by have := r.dp; rw [make_depth]; omega, by have := r.un; rw [make_units]; omega⟩
theorem Room.depth {k : Nat} {A : Around} (r : Room k A) : A.depth < recursionLimit := by have := r.dp; omega
theorem Room.units {k : Nat} {A : Around} (r : Room k A) : A.units + 64 < cLine := by have := r.un; omega
/-! ### argument lists and displays -/
def tNil : TA := fun _ H Q => Q [] H
def tCons (ta : TE) (tr : TA) : TA := fun σ H Q => ta σ H fun x H1 => tr σ H1 fun xs H2 => Q (x :: xs) H2
section
variable {X : Cx} {e : Expr} {es : List Expr} {te : TE} {t : TA} {pos : Pos}
theorem pa_nil : PA X [] tNil := fun _ _ _ _ H Q I h => Calls.spliced_nil ⟨[], H, I, .nil, h⟩
theorem pa_cons (ha : PE X e te) (hr : PA X es t) (hs : starEach (e :: es) X.env = (false, eval e X.env) :: starEach es X.env := by rfl) : PA X (e :: es) (tCons te t) := by
  intro pos pins s σ H Q I h
  rw [hs]
  show wpAny _ _ (spliced ((false, eval e X.env) :: backTo pos (starEach es X.env))) _ _ s
  refine Calls.spliced_cons (thn (ha pins s σ H _ I h) fun u s1 ⟨x, H1, I1, r1, q1⟩ => ?_)
  exact thn (hr pos pins s1 σ H1 _ I1 q1) fun us s2 ⟨xs, H2, I2, r2, q2⟩ => ⟨x :: xs, H2, I2, .cons r1 r2, q2⟩

/-- a tuple, a list of written items -/
def tTup (t : TA) : TE := fun σ H Q => t σ H fun xs H1 => xs.length ≤ sizeLine ∧ ∀ p, H1 p = none → Q (.ref p) (upd H1 p (.tup xs))
def tLst (t : TA) : TE := fun σ H Q => t σ H fun xs H1 => xs.length ≤ sizeLine ∧ ∀ p, H1 p = none → Q (.ref p) (upd H1 p (.lst xs))
theorem pe_tup {x1} (h : PA X es t) : PE X (.Tuple es x1 pos) (tTup t) := by
  intro pins s σ H Q I hq
  refine wpAny_Tuple_spliced (thn (h pos pins s σ H _ I hq) fun us s1 ⟨xs, H1, I1, r, z, q⟩ => ⟨by rw [← r.length]; exact z, ?_⟩)
  have hf : H1 s1.heap.objs.size = none := I1.hok.fresh (Nat.le_refl _)
  refine ⟨.ref s1.heap.objs.size, upd H1 s1.heap.objs.size (.tup xs), I1.laid (t' := s1.toks) (fun b u e => Heap.get?_push_of_some _ e) (Nat.le_refl _) ?_, rfl, q _ hf⟩
  exact ⟨z, us, r, ⟨_, Heap.get?_push_size _ rfl, rfl, _, rfl⟩⟩
theorem pe_lst (h : PA X es t) : PE X (.List es pos) (tLst t) := by
  intro pins s σ H Q I hq
  refine wpAny_List_spliced (thn (h pos pins s σ H _ I hq) fun us s1 ⟨xs, H1, I1, r, z, q⟩ => ⟨by rw [← r.length]; exact z, ?_⟩)
  have hf : H1 s1.heap.objs.size = none := I1.hok.fresh (Nat.le_refl _)
  refine ⟨.ref s1.heap.objs.size, upd H1 s1.heap.objs.size (.lst xs), I1.laid (t' := s1.toks) (fun b u e => Heap.get?_push_of_some _ e) (Nat.le_refl _) ?_, rfl, q _ hf⟩
  exact ⟨z, us, 0, r, Heap.get?_push_size _ rfl⟩
end

/-! ### what a def promises -/
/-- a def's promise: the bound arguments in the parameters' order, the heap, the wanted end, the wanted exception -/
abbrev Sp := List V → Hp → VK → XK → Prop
/-- how an exception lies behind a call (file 08 gives it): the callers' frames, abstract heap and state ahead of the call, the wish, the exception, the state -/
abbrev CXT := List Env → Hp → Shared → XK → Value → Shared → Prop

/-- the state at a call -/
structure Env0 (P : Program) (w : World) (K : PySem.W.Frag) (mg : Str → Option Value) (base : Heap) (A : Around) (outer : List Env) (s : Shared) (H : Hp) : Prop where
  frames : A.frames = some outer
  mod : Mod K mg base
  bs : ∀ b o, base.get? b = some o → s.heap.get? b = some o ∧ H b = none
  bsz : base.objs.size ≤ s.heap.objs.size
  funs : s.heap.FunFrames base outer
  frf : ∀ b ∈ frs outer, H b = none
  hok : HOk P w H s.heap
  bare : AllBare s.gens
/-- a call's end -/
def CE (outer : List Env) (P : Program) (w : World) (H : Hp) (s : Shared) (Q : VK) (u : Value) (s' : Shared) : Prop :=
  ∃ v H', s'.os = s.os ∧ AllBare s'.gens ∧ Un (frs outer) [] H H' s.heap s'.heap ∧ HOk P w H' s'.heap ∧ RelV v u ∧ Q v H'
def CR (CX : CXT) (outer : List Env) (P : Program) (w : World) (H : Hp) (s : Shared) (Q : VK) (E : XK) (r : Result) (s' : Shared) : Prop :=
  match r with
  | .ok (.ret u) => CE outer P w H s Q u s'
  | .ok _ => False
  | .error e => CX outer H s E e s'
structure FnOk (P : Program) (w : World) (K : PySem.W.Frag) (mg : Str → Option Value) (base : Heap) (CX : CXT) (k : Nat) (f : Addr) (fd : FuncData) (ps : List Str) (sp : Sp) : Prop where
  len : ∀ vs H Q E, sp vs H Q E → vs.length = ps.length
  run : ∀ (A : Around) (outer : List Env) (s : Shared) (H : Hp) (args : Args) (us : List Value) (vs : List V) (Q : VK) (E : XK), Room k A → Env0 P w K mg base A outer s H → BindsTo s fd args (ps.zip us) → Vals vs us → sp vs H Q E →
    codeAny (model P w) A (.call (.ref f) args) (CR CX outer P w H s Q E) s
theorem FnOk.mono {P : Program} {w : World} {K : PySem.W.Frag} {mg : Str → Option Value} {base : Heap} {CX : CXT} {j k : Nat} {f : Addr} {fd : FuncData} {ps : List Str} {sp : Sp} (F : FnOk P w K mg base CX j f fd ps sp) (h : j ≤ k) :
    FnOk P w K mg base CX k f fd ps sp := ⟨F.len, fun A outer s H args us vs Q E hr => F.run A outer s H args us vs Q E (hr.mono h)⟩
/-- a weaker promise -/
theorem FnOk.imp {P : Program} {w : World} {K : PySem.W.Frag} {mg : Str → Option Value} {base : Heap} {CX : CXT} {k : Nat} {f : Addr} {fd : FuncData} {ps : List Str} {sp sp' : Sp} (F : FnOk P w K mg base CX k f fd ps sp)
    (h : ∀ vs H Q E, sp' vs H Q E → sp vs H Q E) : FnOk P w K mg base CX k f fd ps sp' :=
  ⟨fun vs H Q E q => F.len vs H Q E (h _ _ _ _ q), fun A outer s H args us vs Q E hr he hb hv hs => F.run A outer s H args us vs Q E hr he hb hv (h _ _ _ _ hs)⟩

theorem Env0.make {P : Program} {w : World} {K : PySem.W.Frag} {mg : Str → Option Value} {base : Heap} {A : Around} {outer : List Env} {s : Shared} {H : Hp} (e : Env0 P w K mg base A outer s H) (C : Addr) (us : List Value) (kw : List (Str × Value)) :
    Env0 P w K mg base (A.under (.builtin "type.__call__" ⟨.ref C :: us, kw⟩)) outer s H := ⟨by first | exact e.frames | (simpa [Around.under, Code.envs, Code.isFrame, pushEnvs] using e.frames), e.mod, e.bs, e.bsz, e.funs, e.frf, e.hok, e.bare⟩
theorem Env0.in1 {P : Program} {w : World} {K : PySem.W.Frag} {mg : Str → Option Value} {base : Heap} {A : Around} {outer : List Env} {s : Shared} {H : Hp} (e : Env0 P w K mg base A outer s H) :
    Env0 P w K mg base A.in1 outer s H := ⟨e.frames, e.mod, e.bs, e.bsz, e.funs, e.frf, e.hok, e.bare⟩

section
variable {X : Cx} {pins : List (Addr × Obj)} {σ : St} {H : Hp} {s s' : Shared}
/-- from a body: what a callee wants -/
theorem Inv.env0 (I : Inv X pins σ H s) : Env0 X.prog X.w X.K X.mg X.base X.A X.stack s H :=
  ⟨I.ok.frames, I.ok.mod, I.bs, Nat.le_trans I.ok.bsz I.sz, I.stack, I.stkFree, I.hok, I.bare⟩
/-- behind a call -/
theorem Inv.after {Q : VK} {u : Value} (I : Inv X pins σ H s) (h : CE X.stack X.prog X.w H s Q u s') : EP X pins σ Q u s' := by
  obtain ⟨v, H', os, bare, un, hok, r, q⟩ := h
  obtain ⟨hh, g, d, t, os'⟩ := s'
  obtain rfl : os' = s.os := os
  exact ⟨v, H', I.call (h' := hh) (g' := g) (d' := d) (t' := t) (ch := []) un hok bare (fun b z => absurd z (by simp)), r, q⟩
end

/-! ### calls -/
/-- f(..): the written arguments, then the defaults dvs; E: what is wanted of an exception -/
def tCall (sp : Sp) (dvs : List V) (E : XK) (t : TA) : TE := fun σ H Q => t σ H fun vs H1 => sp (vs ++ dvs) H1 Q E
/-- o.m(..) of an instance of the class at C -/
def tMeth (C : Addr) (m : Str) (sp : Sp) (dvs : List V) (E : XK) (ta : TE) (t : TA) : TE := fun σ H Q => ta σ H fun x H1 => ∃ a dx fs, x = .ref a ∧ H1 a = some (.ins C dx fs) ∧ fs.lookup m = none ∧
  t σ H1 fun vs H2 => sp (x :: (vs ++ dvs)) H2 Q E
/-- C(..): a new instance and its dict, then __init__ -/
def tMake (C : Addr) (sp : Sp) (dvs : List V) (E : XK) (t : TA) : TE := fun σ H Q => t σ H fun vs H1 => ∀ x dx, H1 x = none → H1 dx = none → dx ≠ x →
  sp (.ref x :: (vs ++ dvs)) (upd (upd H1 dx (.own x)) x (.ins C dx [])) (fun v H2 => v = .non ∧ Q (.ref x) H2) E

/-- how the parameters are bound: us the positional arguments, kw the keywords' values by name, ds the defaults that fill up -/
def Binds (K : PySem.W.Frag) (fd : FuncData) (ps : List Str) (ds : List Value) : Prop :=
  ∀ (s : Shared) (us : List Value), K.In s.heap → (us ++ ds).length = ps.length → BindsTo s fd ⟨us, []⟩ (ps.zip (us ++ ds))
/-- every parameter is given -/
theorem Binds.all {K : PySem.W.Frag} {fd : FuncData} {ps : List Str} (h : ∀ us : List Value, us.length = ps.length → bindArgs fd ⟨us, []⟩ = pure (ps.zip us)) : Binds K fd ps [] := fun s us _ hl => by
  rw [List.append_nil] at hl ⊢
  exact .of_eq (h us hl)

/-- an exception of a callee reaches what this body wants of exceptions -/
def Passes (CX : CXT) (X : Cx) (E : XK) : Prop := ∀ (pins : List (Addr × Obj)) (σ : St) (H : Hp) (s : Shared) (e : Value) (s' : Shared), Inv X pins σ H s → CX X.stack H s E e s' → X.xe e s'

section
variable {X : Cx} {CX : CXT} {k : Nat} {f C : Addr} {fd : FuncData} {ps : List Str} {sp : Sp} {dvs : List V} {ds : List Value} {E : XK} {x m : Str} {p pos apos : Pos} {e o : Expr} {es : List Expr} {ta : TE} {t : TA}

/-- the callee runs -/
theorem run_fn {pins : List (Addr × Obj)} {σ : St} {H : Hp} {s : Shared} {Q : VK} {us : List Value} {vs : List V} (F : FnOk X.prog X.w X.K X.mg X.base CX k f fd ps sp) (hr : Room k X.A) (hb : Binds X.K fd ps ds) (hd : Vals dvs ds) (hx : Passes CX X E)
    (I : Inv X pins σ H s) (r : Vals vs us) (h : sp (vs ++ dvs) H Q E) : wpAny (model X.prog X.w) X.A (call (.ref f) us) (EP X pins σ Q) X.xe s := by
  have r2 : Vals (vs ++ dvs) (us ++ ds) := r.append hd
  have hl : (us ++ ds).length = ps.length := by rw [← r2.length]; exact F.len _ _ _ _ h
  refine wpAny_call (codeAny_mono (F.run X.A X.stack s H ⟨us, []⟩ (us ++ ds) (vs ++ dvs) Q E hr I.env0 (hb s us I.kIn hl) r2 h) fun r s' hq => ?_)
  cases r with
  | error e => exact hx pins σ H s e s' I hq
  | ok fl =>
    cases fl with
    | ret u => exact I.after hq
    | next => exact False.elim hq
    | brk => exact False.elim hq
    | cont => exact False.elim hq

theorem pe_call (F : FnOk X.prog X.w X.K X.mg X.base CX k f fd ps sp) (hr : Room k X.A) (hg : Gl X x) (hm : X.mg x = some (.ref f)) (hk : PySem.W.keepIn X.K (.ref f) = true) (hb : Binds X.K fd ps ds) (hd : Vals dvs ds) (hx : Passes CX X E)
    (ha : PA X (e :: es) t) (hdb : (x == ("__debug__" : Str)) = false := by decide) (he : starEach (e :: es) X.env = (false, eval e X.env) :: starEach es X.env := by rfl) (hpl : (backTo pos (starEach es X.env)).any (·.1) = false := by rfl) :
    PE X (.Call (.Name x p) (e :: es) [] pos) (tCall sp dvs E t) := by
  intro pins s σ H Q I h
  refine wpAny_Call_Name_kw (ld_glob I hg hm ?_ hdb)
  refine PySem.W.callWith_K (h₀ := X.base) I.ok.mod.kin hk (thn (ha pos pins s σ H _ I h) fun us s1 ⟨vs, H1, I1, r, q⟩ => ⟨I1.kIn, ?_⟩) he hpl
  exact run_fn F hr hb hd hx I1 r q
/-- o.m(e, ..) -/
theorem pe_meth {pl : Sem Bool} (he : PE X o ta) (c : Cls X.K C) (hm : Meth X.K C m f) (F : FnOk X.prog X.w X.K X.mg X.base CX k f fd ps sp) (hr : Room k X.A) (hb : Binds X.K fd ps ds) (hd : Vals dvs ds) (hx : Passes CX X E) (ha : PA X (e :: es) t)
    (hst : starEach (e :: es) X.env = (false, eval e X.env) :: starEach es X.env := by rfl) (hpl : (backTo pos (starEach es X.env)).any (·.1) = false := by rfl)
    (ht : eval (.Call (.Attribute o m apos) (e :: es) [] pos) X.env = (do
      let ov ← eval o X.env
      standAt apos.atName
      let (f, first) ← holding [ov] (getMethod ov m pl)
      callWith pos f first (backTo pos (starEach (e :: es) X.env)) (backToKw pos (keywordEach [] X.env))) := by rfl) :
    PE X (.Call (.Attribute o m apos) (e :: es) [] pos) (tMeth C m sp dvs E ta t) := by
  intro pins s σ H Q I h
  refine PySem.W.methodCall_KW (pl := pl) (thn (he pins s σ H _ I h) fun u s1 ⟨x, H1, I1, rx, a, dx, fs, ex, ea, l, q⟩ => ?_) ht
  subst ex
  obtain rfl : u = Value.ref a := rx
  refine getmeth_ok I1 ea c hm l ?_
  refine PySem.W.callWith_K (first := [.ref a]) (h₀ := X.base) I.ok.mod.kin hm.kp (thn (ha pos pins s1 σ H1 _ I1 q) fun us s2 ⟨vs, H2, I2, r, q2⟩ => ⟨I2.kIn, ?_⟩) hst hpl
  exact run_fn (us := .ref a :: us) (vs := .ref a :: vs) F hr hb hd hx I2 (.cons rfl r) q2
/-- o.m() -/
theorem pe_meth0 {pl : Sem Bool} (he : PE X o ta) (c : Cls X.K C) (hm : Meth X.K C m f) (F : FnOk X.prog X.w X.K X.mg X.base CX k f fd ps sp) (hr : Room k X.A) (hb : Binds X.K fd ps ds) (hd : Vals dvs ds) (hx : Passes CX X E)
    (ht : eval (.Call (.Attribute o m apos) [] [] pos) X.env = (do
      let ov ← eval o X.env
      standAt apos.atName
      let (f, first) ← holding [ov] (getMethod ov m pl)
      callWith pos f first (backTo pos (starEach [] X.env)) (backToKw pos (keywordEach [] X.env))) := by rfl) :
    PE X (.Call (.Attribute o m apos) [] [] pos) (tMeth C m sp dvs E ta tNil) := by
  intro pins s σ H Q I h
  refine PySem.W.methodCall_KW (pl := pl) (thn (he pins s σ H _ I h) fun u s1 ⟨x, H1, I1, rx, a, dx, fs, ex, ea, l, q⟩ => ?_) ht
  subst ex
  obtain rfl : u = Value.ref a := rx
  refine getmeth_ok I1 ea c hm l ?_
  exact PySem.W.callWith_K0 (first := [.ref a]) I1.kIn hm.kp (run_fn (us := [.ref a]) (vs := [.ref a]) F hr hb hd hx I1 (.cons rfl .nil) q)

/-- what a class must have to be made -/
structure Mk (K : PySem.W.Frag) (C f : Addr) : Prop where
  makes : PySem.W.makesIn K C = true
  init : PySem.W.findIn K (.ref C) "__init__" = some (some (.ref f))
  fn : PySem.W.isFn K (.ref f) = true
  kp : PySem.W.keepIn K (.ref C) = true

theorem run_make {pins : List (Addr × Obj)} {σ : St} {H : Hp} {s : Shared} {Q : VK} {us : List Value} {vs : List V} (M : Mk X.K C f) (F : FnOk X.prog X.w X.K X.mg X.base CX k f fd ps sp) (hr : Room (k + 1) X.A) (hb : Binds X.K fd ps ds) (hd : Vals dvs ds)
    (hx : Passes CX X E) (I : Inv X pins σ H s) (r : Vals vs us)
    (h : ∀ x dx, H x = none → H dx = none → dx ≠ x → sp (.ref x :: (vs ++ dvs)) (upd (upd H dx (.own x)) x (.ins C dx [])) (fun v H2 => v = .non ∧ Q (.ref x) H2) E) :
    wpAny (model X.prog X.w) X.A (call (.ref C) us) (EP X pins σ Q) X.xe s := by
  have hq := h (s.heap.objs.size + 1) s.heap.objs.size (I.hok.fresh (Nat.le_succ _)) (I.hok.fresh (Nat.le_refl _)) (Nat.ne_of_lt (Nat.lt_succ_self _))
  have I2 := Inv.made (C := C) I
  have r2 : Vals (V.ref (s.heap.objs.size + 1) :: (vs ++ dvs)) (Value.ref (s.heap.objs.size + 1) :: (us ++ ds)) := .cons rfl (r.append hd)
  have hl : (Value.ref (s.heap.objs.size + 1) :: us ++ ds).length = ps.length := by
    have e := r2.length
    rw [F.len _ _ _ _ hq] at e
    exact e.symm
  refine wpAny_call (make_map (f := f) I.kIn M.makes M.init (beq_iff_eq.mp M.fn) (codeAny_mono (F.run _ X.stack _ _ ⟨Value.ref (s.heap.objs.size + 1) :: us, []⟩ (Value.ref (s.heap.objs.size + 1) :: (us ++ ds)) _ _ E (hr.make C us [])
    (I2.env0.make C us []) (hb _ (Value.ref (s.heap.objs.size + 1) :: us) I2.kIn hl) r2 hq) fun r s' hq' => ?_))
  cases r with
  | error e => exact hx pins σ _ _ e s' I2 hq'
  | ok fl =>
    cases fl with
    | ret u =>
      obtain ⟨v, H', I3, rv, ev, q3⟩ := I2.after hq'
      subst ev
      exact ⟨rv, ⟨V.ref (s.heap.objs.size + 1), H', I3, rfl, q3⟩⟩
    | next => exact False.elim hq'
    | brk => exact False.elim hq'
    | cont => exact False.elim hq'
theorem pe_make (M : Mk X.K C f) (F : FnOk X.prog X.w X.K X.mg X.base CX k f fd ps sp) (hr : Room (k + 1) X.A) (hg : Gl X x) (hm : X.mg x = some (.ref C)) (hb : Binds X.K fd ps ds) (hd : Vals dvs ds) (hx : Passes CX X E)
    (ha : PA X (e :: es) t) (hdb : (x == ("__debug__" : Str)) = false := by decide) (he : starEach (e :: es) X.env = (false, eval e X.env) :: starEach es X.env := by rfl) (hpl : (backTo pos (starEach es X.env)).any (·.1) = false := by rfl) :
    PE X (.Call (.Name x p) (e :: es) [] pos) (tMake C sp dvs E t) := by
  intro pins s σ H Q I h
  refine wpAny_Call_Name_kw (ld_glob I hg hm ?_ hdb)
  refine PySem.W.callWith_K (h₀ := X.base) I.ok.mod.kin M.kp (thn (ha pos pins s σ H _ I h) fun us s1 ⟨vs, H1, I1, r, q⟩ => ⟨I1.kIn, ?_⟩) he hpl
  exact run_make M F hr hb hd hx I1 r q
end

/-! ### keywords -/
section
variable {X : Cx} {CX : CXT} {k : Nat} {f C : Addr} {fd : FuncData} {ps ks : List Str} {sp : Sp} {E : XK} {x m : Str} {p pos apos kpos : Pos} {e o : Expr} {es : List Expr} {kws : List Keyword} {te ta : TE} {t tk : TA} {nm : Option Str}
/-- how a call with keywords binds: g puts the positional values us and the keywords' values ws (names ks) in the parameters' order, defaults among them -/
structure KBinds (K : PySem.W.Frag) (fd : FuncData) (ps ks : List Str) (g : List Value → List Value → List Value) (gV : List V → List V → List V) : Prop where
  to : ∀ (s : Shared) (us ws : List Value), K.In s.heap → (g us ws).length = ps.length → BindsTo s fd ⟨us, ks.zip ws⟩ (ps.zip (g us ws))
  rel : ∀ {vs : List V} {us : List Value} {zs : List V} {ws : List Value}, Vals vs us → Vals zs ws → Vals (gV vs zs) (g us ws)
variable {g : List Value → List Value → List Value} {gV : List V → List V → List V}
end

/-! ### a def's body keeps its promise -/
/-- names: the parameters first -/
structure FnScope (N P : List Str) (sc : Scope) : Prop where
  kind : sc.kind = .function
  co : sc.isCoroutine = false
  gen : sc.isGenerator = false
  nd : N.Nodup
  pre : N.take P.length = P
  par : ∀ x ∈ P, sc.names.lookup x = some .local ∨ sc.names.lookup x = some .cell
  nofree : ∀ y ∈ sc.names, y.2 ≠ .free

theorem bindL_out {kindOf : Str → Option NameKind} {x : Str} : ∀ {binds : List (Str × Value)} {m : Str → Option Value}, (∀ v, (x, v) ∉ binds) → bindL kindOf binds m x = m x
  | [], _, _ => rfl
  | (n, v) :: r, m, h => by
    unfold bindL
    rw [bindL_out fun w hw => h w (List.mem_cons_of_mem _ hw)]
    split
    · have : x ≠ n := by rintro rfl; exact h v List.mem_cons_self
      simp [this]
    · rfl
theorem bindC_out {kindOf : Str → Option NameKind} {x : Str} : ∀ {binds : List (Str × Value)} {m : Str → Option Value}, (∀ v, (x, v) ∉ binds) → bindC kindOf binds m x = m x
  | [], _, _ => rfl
  | (n, v) :: r, m, h => by
    unfold bindC
    rw [bindC_out fun w hw => h w (List.mem_cons_of_mem _ hw)]
    split
    · rfl
    · have : x ≠ n := by rintro rfl; exact h v List.mem_cons_self
      simp [this]
theorem bindL_get {kindOf : Str → Option NameKind} {x : Str} {v : Value} : ∀ {P : List Str} {vs : List Value} {i : Nat} {m : Str → Option Value}, P.Nodup → P[i]? = some x → vs[i]? = some v → kindOf x = some .local →
    bindL kindOf (P.zip vs) m x = some v
  | [], _, _, _, _, h, _, _ => by simp at h
  | _ :: _, [], _, _, _, _, h, _ => by simp at h
  | p :: P, w :: vs, 0, m, nd, h1, h2, hk => by
    simp at h1 h2; subst h1; subst h2
    show bindL kindOf ((p, w) :: P.zip vs) m p = _
    unfold bindL
    rw [bindL_out fun v hv => (List.nodup_cons.mp nd).1 (List.of_mem_zip hv).1, if_pos hk]
    simp
  | p :: P, w :: vs, i + 1, m, nd, h1, h2, hk => by
    show bindL kindOf ((p, w) :: P.zip vs) m x = _
    unfold bindL
    exact bindL_get (i := i) (List.nodup_cons.mp nd).2 (by simpa using h1) (by simpa using h2) hk
theorem bindC_get {kindOf : Str → Option NameKind} {x : Str} {v : Value} : ∀ {P : List Str} {vs : List Value} {i : Nat} {m : Str → Option Value}, P.Nodup → P[i]? = some x → vs[i]? = some v → kindOf x ≠ some .local →
    bindC kindOf (P.zip vs) m x = some v
  | [], _, _, _, _, h, _, _ => by simp at h
  | _ :: _, [], _, _, _, _, h, _ => by simp at h
  | p :: P, w :: vs, 0, m, nd, h1, h2, hk => by
    simp at h1 h2; subst h1; subst h2
    show bindC kindOf ((p, w) :: P.zip vs) m p = _
    unfold bindC
    rw [bindC_out fun v hv => (List.nodup_cons.mp nd).1 (List.of_mem_zip hv).1, if_neg hk]
    simp
  | p :: P, w :: vs, i + 1, m, nd, h1, h2, hk => by
    show bindC kindOf ((p, w) :: P.zip vs) m x = _
    unfold bindC
    exact bindC_get (i := i) (List.nodup_cons.mp nd).2 (by simpa using h1) (by simpa using h2) hk

/-- the names' values at the entry -/
def start (N : List Str) (vs : List V) : St := vs.map some ++ List.replicate (N.length - vs.length) none

/-- the context of a def's body, at its entry; an exception leaves the frame, then lies as CX says -/
def cxOf (CX : CXT) (P : Program) (w : World) (K : PySem.W.Frag) (mg : Str → Option Value) (base : Heap) (N : List Str) (qual : Str) (scope : Scope) (f : Addr) (cd : Value) (A : Around) (outer : List Env) (s : Shared) (H : Hp) (E : XK) : Cx where
  prog := P
  w := w
  K := K
  mg := mg
  base := base
  A := A.deeper (envOfC qual scope s.heap.objs.size f cd)
  N := N
  s₀ := s
  H₀ := H
  env := envOfC qual scope s.heap.objs.size f cd
  outer := outer
  stack := envOfC qual scope s.heap.objs.size f cd :: outer
  ex := []
  calm := true
  fn := fun _ => true
  pn := []
  xe := fun e s' => wpAny (model P w) (A.deeper (envOfC qual scope s.heap.objs.size f cd)) (leaving (envOfC qual scope s.heap.objs.size f cd) e) (fun _ s'' => CX outer H s E e s'') (fun e' s'' => CX outer H s E e' s'') s'

theorem cell_has {sc : Scope} {n : Nat} {x : Str} (h : sc.names.lookup x = some .cell) : ∃ c, (cellsFrom n sc.names []).lookup x = some c := by
  have q := PySem.W.cellsFrom_some sc.names n [] (.inl h)
  exact Option.isSome_iff_exists.mp q

theorem inv_start {CX : CXT} {P : Program} {w : World} {K : PySem.W.Frag} {mg : Str → Option Value} {base : Heap} {N ps : List Str} {qual : Str} {scope : Scope} {f : Addr} {cd : Value} {A : Around} {outer : List Env} {s s1 : Shared} {H : Hp} {E : XK} {us : List Value} {vs : List V}
    (S : FnScope N ps scope) (hd : A.handled = none) (e0 : Env0 P w K mg base A outer s H) (hl : vs.length = ps.length) (r : Vals vs us)
    (x : InCallC s s.heap.objs.size (bindL (envOfC qual scope s.heap.objs.size f cd).kindOf (ps.zip us) fun _ => none) (cellsFrom (s.heap.objs.size + 1) scope.names []) (bindC (envOfC qual scope s.heap.objs.size f cd).kindOf (ps.zip us) fun _ => none) s1) :
    Inv (cxOf CX P w K mg base N qual scope f cd A outer s H E) [] (start N vs) H s1 := by
  have hpl : ps.length ≤ N.length := by have := congrArg List.length S.pre; rw [List.length_take] at this; omega
  obtain ⟨h1, tk, rfl, hk⟩ := x.done
  have noA : ∀ b : Addr, b ∉ (cxOf CX P w K mg base N qual scope f cd A outer s H E).ex := fun b z => absurd (show b ∈ ([] : List Addr) from z) (by simp)
  refine ⟨⟨e0.mod, S.kind, rfl, rfl, Nat.le_refl _, fun y z c h1 h2 => ?_, fun y hy => ?_, fun y c _ h => ?_, fun _ => hd, Around.frames_deeper e0.frames, .inr ⟨rfl, rfl⟩, fun b z => absurd z (noA b), e0.bs, e0.bsz, fun b _ _ => noA b, fun b z => absurd z (noA b), e0.funs, e0.frf⟩,
    rfl, e0.bare, Un.kept hk, ⟨_, x.toInCall.ns, fun i y v h1 h2 h3 => ?_⟩, fun y c h => ⟨_, x.cell y c h⟩, e0.hok.fresh (Nat.le_refl _), fun y c h => ?_, fun p hp => absurd (show p ∈ ([] : List (Addr × Obj)) from hp) (by simp), e0.hok.kept hk, ?_⟩
  · exact name_of_addr x.apart (PySem.mem_of_lookup h1) (PySem.mem_of_lookup h2)
  · have hy : scope.names.lookup y = some .cell ∨ scope.names.lookup y = some .free := hy
    rcases hy with hy | hy
    · exact cell_has hy
    · exact absurd rfl (S.nofree _ (PySem.mem_of_lookup hy))
  · exact Nat.le_of_lt (x.above y c (PySem.mem_of_lookup h))
  · have hi : i < vs.length := by
      unfold start at h2
      by_cases hi : i < vs.length
      · exact hi
      · rw [List.getElem?_append_right (by simpa using hi)] at h2
        rw [List.getElem?_replicate] at h2
        split at h2 <;> cases h2
    have ha : vs[i]? = some v := by
      unfold start at h2
      rw [List.getElem?_append_left (by simpa using hi), List.getElem?_map] at h2
      cases e : vs[i]? with
      | none => rw [e] at h2; cases h2
      | some a => rw [e] at h2; cases h2; rfl
    obtain ⟨u, hu, rv⟩ := r.get ha
    have hp : ps[i]? = some y := by
      rw [← S.pre, List.getElem?_take_of_lt (by omega)]; exact h1
    have ndP : ps.Nodup := by rw [← S.pre]; exact S.nd.sublist (List.take_sublist _ _)
    refine ⟨u, rv, ?_⟩
    rcases S.par y (List.mem_of_getElem? hp) with k | k
    · exact .inl ⟨k, bindL_get ndP hp hu k⟩
    · obtain ⟨c, e⟩ := cell_has (n := s.heap.objs.size + 1) k
      refine .inr ⟨.inl k, c, e, ?_⟩
      have q := x.cell y c e
      rw [bindC_get ndP hp hu (by show scope.names.lookup y ≠ _; rw [k]; decide)] at q
      exact q
  · exact e0.hok.fresh (Nat.le_of_lt (x.above y c (PySem.mem_of_lookup h)))
  · unfold start
    show _ = N.length
    rw [List.length_append, List.length_map, List.length_replicate]
    omega

/-- THE RULE: a def (or a method) of the text, by its body. The body's reading t is chosen for each entry; it is run at the parameters' values -/
theorem fn_of {CX : CXT} {P : Program} {w : World} {K : PySem.W.Frag} {mg : Str → Option Value} {base : Heap} {k : Nat} {f : Addr} {name qual : Str} {params : Arguments} {body : List Stmt} {scope : Scope} {dV kV doc pm cdv ct oc : Value} {an od : Option Addr}
    {osl : Array (Option Value)} {N ps : List Str} {sp : Sp} (lk : K.lookup f = some ⟨oc, od, .func (PySem.W.fnOf name qual params body scope dV kV doc pm an cdv ct), osl⟩) (hcd : PySem.W.codeIn K cdv qual = true) (S : FnScope N ps scope)
    (len : ∀ vs H Q E, sp vs H Q E → vs.length = ps.length)
    (hbody : ∀ (A : Around) (outer : List Env) (s : Shared) (H : Hp) (vs : List V) (Q : VK) (E : XK), Room k (A.deeper (envOfC qual scope s.heap.objs.size f cdv)) → sp vs H Q E →
      ∃ t, PSs (cxOf CX P w K mg base N qual scope f cdv A outer s H E) body t ∧ t { nx := fun _ H' => Q .non H', rt := Q } (start N vs) H) :
    FnOk P w K mg base CX (k + 1) f (PySem.W.fnOf name qual params body scope dV kV doc pm an cdv ct) ps sp := by
  refine ⟨len, fun A outer s H args us vs Q E hr e0 hb r hsp => ?_⟩
  have hl := len _ _ _ _ hsp
  have KX : K.In s.heap := e0.mod.kin.keeps fun b o e => (e0.bs b o e).1
  have lim : s.heap.NoLimit := e0.mod.nolimit.keeps fun b o e => (e0.bs b o e).1
  have hkind : ∀ y ∈ ps.zip us, scope.names.lookup y.1 = some .local ∨ (scope.names.lookup y.1 = some .cell ∧ ((cellsFrom (s.heap.objs.size + 1) scope.names []).lookup y.1).isSome = true) := fun ⟨n, v⟩ hy => by
    rcases S.par n (List.of_mem_zip hy).1 with q | q
    · exact .inl q
    · exact .inr ⟨q, PySem.W.cellsFrom_some _ _ _ (.inl q)⟩
  refine codeAny_call_function hr.depth (KX _ _ lk) rfl S.co S.gen rfl (PySem.W.codeRec_of KX hcd) (hb _ _ _ _ ?_)
  refine wpAny_newFunctionEnv_cells S.kind hkind fun env he s1 x => ?_
  subst he
  refine ⟨lim.keeps x.toInCall.keep, codeAny_func ?_⟩
  obtain ⟨t, ht, hq⟩ := hbody A outer s H vs Q E (hr.deeper _) hsp
  have I : Inv (cxOf CX P w K mg base N qual scope f cdv A outer s H E) [] (start N vs) H s1 := inv_start S hr.hd e0 hl r x
  refine wpAny_mono (ht [] s1 (start N vs) H _ I hq) (fun fl s' hs => ?_) fun e s' hs => hs
  have fin : ∀ {σ' : St} {H' : Hp} {v : V} {u : Value}, Inv (cxOf CX P w K mg base N qual scope f cdv A outer s H E) [] σ' H' s' → RelV v u → Q v H' → CE outer P w H s Q u s' :=
    fun {σ' H' v u} J rv q => ⟨v, H', J.os, J.bare, J.base, J.hok, rv, q⟩
  cases fl with
  | ret u =>
    obtain ⟨v, σ', H', J, rv, q⟩ := hs
    exact fin J rv q
  | next =>
    obtain ⟨σ', H', J, q⟩ := hs
    exact fin (v := V.non) (u := Value.none) J rfl q
  | brk =>
    obtain ⟨_, _, _, q⟩ := hs
    exact False.elim q
  | cont =>
    obtain ⟨_, _, _, q⟩ := hs
    exact False.elim q
end L2

namespace L2
open PySem PySem.Spec PyProof.Rows
section
variable {X : Cx} {x : Str} {p pos : Pos} {e : Expr} {es : List Expr} {t : TA} {id T : String} {r : List V → Hp → VK → Prop}

def tCB (r : List V → Hp → VK → Prop) (t : TA) : TE := fun σ H Q => t σ H fun vs H1 => r vs H1 Q
/-- f(e, ..), f a built-in function -/
theorem pe_callB (hc : CallR X (.builtin id) r) (hg : Gl X x) (hm : X.mg x = none) (hv : bootBuiltins x = some (.builtin id)) (ha : PA X (e :: es) t) (hn : x ≠ "__name__" := by decide) (hdb : (x == ("__debug__" : Str)) = false := by decide)
    (he : starEach (e :: es) X.env = (false, eval e X.env) :: starEach es X.env := by rfl) (hpl : (backTo pos (starEach es X.env)).any (·.1) = false := by rfl) : PE X (.Call (.Name x p) (e :: es) [] pos) (tCB r t) := by
  intro pins s σ H Q I h
  refine wpAny_Call_Name_kw (ld_blt I hg hm hv ?_ hn hdb)
  exact PyProof.Rows.callWith_builtin1 (thn (ha pos pins s σ H _ I h) fun us s1 ⟨vs, H1, I1, r1, q1⟩ => hc pins s1 σ H1 vs us Q I1 r1 q1) he hpl
/-- T(e, ..), T a built-in type -/
theorem pe_callTy (hc : CallR X (.type T) r) (hg : Gl X x) (hm : X.mg x = none) (hv : bootBuiltins x = some (.type T)) (ha : PA X (e :: es) t) (hn : x ≠ "__name__" := by decide) (hdb : (x == ("__debug__" : Str)) = false := by decide)
    (he : starEach (e :: es) X.env = (false, eval e X.env) :: starEach es X.env := by rfl) (hpl : (backTo pos (starEach es X.env)).any (·.1) = false := by rfl) : PE X (.Call (.Name x p) (e :: es) [] pos) (tCB r t) := by
  intro pins s σ H Q I h
  refine wpAny_Call_Name_kw (ld_blt I hg hm hv ?_ hn hdb)
  exact PyProof.Rows.callWith_type1 (thn (ha pos pins s σ H _ I h) fun us s1 ⟨vs, H1, I1, r1, q1⟩ => hc pins s1 σ H1 vs us Q I1 r1 q1) he hpl
end
end L2

namespace HT
open PySem PyProof.Rows

section
open PySem.SeqAt
open PySem.AutoSeq1 (wpAny_loadPart')
open PySem.MeetsSeq PySem.MeetsSeq2 PySem.MeetsSeq3

end

section
variable {prog : Program} {w : World} {A : Around} {E : Value → Shared → Prop} {s : Shared}

/-! ### t[a:b], not the whole -/
end
end HT

namespace L2
open PySem PySem.Spec PyProof.Rows

/-! ### the parts of a slice -/
abbrev TO := St → Hp → (Option Int → Hp → Prop) → Prop
/-- a slice's part (left out, or an int) -/
def PO (X : Cx) (e : Option Expr) (t : TO) : Prop :=
  ∀ (pins : List (Addr × Obj)) (s : Shared) (σ : St) (H : Hp) (Q : Option Int → Hp → Prop), Inv X pins σ H s → t σ H Q →
    wpAny (model X.prog X.w) X.A (evalPart e X.env) (fun u s' => ∃ o H', Inv X pins σ H' s' ∧ IsPart u o ∧ Q o H') X.xe s
section
variable {X : Cx} {e : Expr} {te : TE} {lo hi : Option Expr} {tl th : TO} {pos p2 : Pos}

/-! ### t < u, t + u -/
end
end L2

namespace L2
open PySem PySem.Spec PyProof.Rows

/-! ### places -/
/-- the place that an index of any sign means -/
def ixN (n : Nat) (i : Int) : Option Nat := if 0 ≤ i then (if i < n then some i.toNat else none) else if -(n : Int) ≤ i then some (i + n).toNat else none
def atI {α : Type} (xs : List α) (i : Int) : Option α := (ixN xs.length i).bind fun j => xs[j]?
theorem ixN_seq {n : Nat} {i : Int} {j : Nat} (h : ixN n i = some j) : seqIndex? i n = some j ∧ j < n ∧ -(n : Int) ≤ i ∧ i < n := by
  unfold ixN at h
  by_cases h0 : 0 ≤ i
  · rw [if_pos h0] at h
    by_cases h1 : i < n
    · rw [if_pos h1] at h
      have e : i.toNat = j := Option.some.inj h
      exact ⟨by rw [seqIndex_of h0 h1, e], by omega, by omega, h1⟩
    · rw [if_neg h1] at h; cases h
  · rw [if_neg h0] at h
    by_cases h1 : -(n : Int) ≤ i
    · rw [if_pos h1] at h
      have e : (i + n).toNat = j := Option.some.inj h
      exact ⟨by rw [seqIndex_neg (by omega) h1, e], by omega, h1, by omega⟩
    · rw [if_neg h1] at h; cases h
theorem atI_get {α : Type} {xs : List α} {i : Int} {v : α} (h : atI xs i = some v) : ∃ j, seqIndex? i xs.length = some j ∧ xs[j]? = some v ∧ j < xs.length ∧ -(xs.length : Int) ≤ i ∧ i < xs.length := by
  unfold atI at h
  cases e : ixN xs.length i with
  | none => rw [e] at h; cases h
  | some j =>
    rw [e] at h
    obtain ⟨h1, h2, h3, h4⟩ := ixN_seq e
    exact ⟨j, h1, h, h2, h3, h4⟩
theorem atI_nat {α : Type} {xs : List α} {j : Nat} {v : α} (h : xs[j]? = some v) : atI xs (j : Int) = some v := by
  have hj : j < xs.length := (List.getElem?_eq_some_iff.mp h).1
  have e : ixN xs.length (j : Int) = some j := by
    unfold ixN
    rw [if_pos (by omega), if_pos (by omega)]; simp
  unfold atI; rw [e]; exact h
/-! ### what may be subscripted -/
/-- what stands as an index of a plain subscript -/
def PlainIx (b : Expr) : Prop := ∀ o i, subscripted b false o i = operate [o, i] (getItem o i)
/-- a subscript by values -/
def IxR (X : Cx) (r : R2) : Prop :=
  ∀ (value slice : Expr) (pins : List (Addr × Obj)) (s : Shared) (σ : St) (H : Hp) (x y : V) (v u : Value) (Q : VK), Inv X pins σ H s → RelV x v → RelV y u → r x y H Q →
    subscripted slice false v u = operate [v, u] (getItem v u) → wpAny (model X.prog X.w) X.A (subscriptTail value slice v u) (EP X pins σ Q) X.xe s
/-- a call of a builtin's method by values: the receiver, the arguments -/
def MtR (X : Cx) (id : String) (r : V → List V → Hp → VK → Prop) : Prop :=
  ∀ (pins : List (Addr × Obj)) (s : Shared) (σ : St) (H : Hp) (x : V) (xs : List V) (v : Value) (us : List Value) (Q : VK), Inv X pins σ H s → RelV x v → Vals xs us → r x xs H Q →
    wpAny (model X.prog X.w) X.A (call (.builtin id) (v :: us)) (EP X pins σ Q) X.xe s
section
variable {X : Cx} {a b : Expr} {ta tb : TE} {pos : Pos}
/-- a[b] -/
theorem pe_ix {r : R2} (hr : IxR X r) (ha : PE X a ta) (hb : PE X b tb) (hs : PlainIx b) : PE X (.Subscript a b pos) (tOp r ta tb) := by
  intro pins s σ H Q I h
  exact Subscript_ (binT ha hb I h fun v u s2 x y H2 I2 rx ry q => hr a b pins s2 σ H2 x y v u Q I2 rx ry q (hs _ _))

def rIxL (K : PySem.W.Frag) : R2 := fun x y H Q => ∃ p xs i v, x = .ref p ∧ y = .int i ∧ SqL K H p xs ∧ atI xs i = some v ∧ Q v H
def rIxT (K : PySem.W.Frag) : R2 := fun x y H Q => ∃ p xs i v, x = .ref p ∧ y = .int i ∧ SqT K H p xs ∧ atI xs i = some v ∧ Q v H
theorem ix_list : IxR X (rIxL X.K) := by
  intro value slice pins s σ H x y v u Q I rx ry h hs
  obtain ⟨p, xs, i, z, rfl, rfl, hq, he, q⟩ := h
  cases rx
  obtain ⟨t, rfl⟩ := ry
  obtain ⟨its, r, pl, hz⟩ := I.list hq
  obtain ⟨j, h1, h2, h3, h4, h5⟩ := atI_get he
  obtain ⟨w, ew, rw'⟩ := r.get h2
  have hl := r.length
  have hn := line63
  have fin : EP X pins σ Q w s := ⟨z, H, I, rw', q⟩
  by_cases h0 : 0 ≤ i
  · have hj : i.toNat = j := by
      rw [seqIndex_of h0 h5] at h1
      exact Option.some.inj h1
    exact item_listR pl.isList h0 (by omega) (by rw [hj]; simpa using ew) fin hs
  · have hj : (i + (its.toArray.size : Int)).toNat = j := by
      rw [seqIndex_neg (by omega) h4] at h1
      rw [List.size_toArray, ← hl]
      exact Option.some.inj h1
    exact subscriptTail_builtinR (x := w) pl.isList.typeIs slot_list_getitem.lookup
      (wpAny_getItem_list_neg (Q := fun r s' => r = w ∧ EP X pins σ Q r s') pl.isList (by omega) (by rw [List.size_toArray] <;> omega) (by omega) (by rw [hj]; simpa using ew) ⟨rfl, fin⟩) hs
theorem ix_tup : IxR X (rIxT X.K) := by
  intro value slice pins s σ H x y v u Q I rx ry h hs
  obtain ⟨p, xs, i, z, rfl, rfl, hq, he, q⟩ := h
  cases rx
  obtain ⟨t, rfl⟩ := ry
  obtain ⟨its, r, pl, hz⟩ := I.tuple hq
  obtain ⟨j, h1, h2, h3, h4, h5⟩ := atI_get he
  obtain ⟨w, ew, rw'⟩ := r.get h2
  have hl := r.length
  have hn := line63
  have fin : EP X pins σ Q w s := ⟨z, H, I, rw', q⟩
  exact subscriptTail_builtinR (x := w) pl.typeIs slot_tuple_getitem.lookup
    (getItem_tuple (j := j) (Q := fun r s' => r = w ∧ EP X pins σ Q r s') pl (by omega) (by omega) (by rw [List.size_toArray, ← hl]; exact h1) (by simpa using ew) ⟨rfl, fin⟩) hs
/-! ### xs[i] = v, any sign -/
/-- the list's object behind a store -/
theorem mapSeq_set (its : List Value) (n j : Nat) (u : Value) : Obj.mapSeq (·.setIfInBounds j u) { cls := .type "list", data := .seq its.toArray n } = { cls := .type "list", data := .seq (its.set j u).toArray n } := by
  simp [Obj.mapSeq]
theorem Inv.lst {pins : List (Addr × Obj)} {σ : St} {H : Hp} {s : Shared} {p : Addr} {xs : List V} (I : Inv X pins σ H s) (h : H p = some (.lst xs)) :
    ∃ (its : List Value) (n : Nat), Vals xs its ∧ s.heap.get? p = some { cls := .type "list", data := .seq its.toArray n } ∧ xs.length ≤ sizeLine := by
  obtain ⟨z, its, n, r, e⟩ := I.hok p _ h
  exact ⟨its, n, r, e, z⟩
/-- the list at p is written by an update of its object -/
theorem Inv.lstUpd {pins : List (Addr × Obj)} {σ : St} {H : Hp} {s : Shared} {p : Addr} {xs ys : List V} {its its' : List Value} {n n' : Nat} {f : Obj → Obj} (I : Inv X pins σ H s) (h : H p = some (.lst xs))
    (ho : s.heap.get? p = some { cls := .type "list", data := .seq its.toArray n }) (hf : f { cls := .type "list", data := .seq its.toArray n } = { cls := .type "list", data := .seq its'.toArray n' }) (r : Vals ys its') (hz : ys.length ≤ sizeLine) (t : Nat) :
    Inv X pins σ (upd H p (.lst ys)) { s with heap := s.heap.update p f, toks := t } := by
  have e : (s.heap.update p f).get? p = some { cls := .type "list", data := .seq its'.toArray n' } := by
    rw [Heap.get?_update_self f ho (by rw [hf] <;> rfl), hf]
  refine I.write (x := p) (e := p) (by rw [h]; trivial) (.inl rfl) (fun b u hb q => (Heap.get?_update_other _ _ (Ne.symm hb)).trans q) ⟨_, e⟩ ?_
  exact ⟨hz, its', n', r, e⟩
def rSetL : V → V → V → Hp → (Hp → Prop) → Prop := fun o i v H Q => ∃ p xs k j, o = .ref p ∧ i = .int k ∧ H p = some (.lst xs) ∧ ixN xs.length k = some j ∧ Q (upd H p (.lst (xs.set j v)))
theorem set_list : PSet X rSetL := by
  intro pins s σ H o i v ov iv u Q I ro ri rv h
  obtain ⟨p, xs, k, j, rfl, rfl, hp, hj, q⟩ := h
  cases ro
  obtain ⟨t, rfl⟩ := ri
  obtain ⟨its, n, r, ho, hz⟩ := I.lst hp
  obtain ⟨h1, h2, h3, h4⟩ := ixN_seq hj
  have hl := r.length
  have hn := line63
  have I' : Inv X pins σ (upd H p (.lst (xs.set j v))) { s with heap := s.heap.update p (Obj.mapSeq (·.setIfInBounds j u)) } :=
    I.lstUpd hp ho (mapSeq_set its n j u) (r.set rv j) (by rw [List.length_set]; exact hz) s.toks
  by_cases h0 : 0 ≤ k
  · have hk : k.toNat = j := by
      rw [seqIndex_of h0 h4] at h1
      exact Option.some.inj h1
    exact PySem.W.ki_setAt ho h0 (by omega) (by rw [List.size_toArray, ← hl]; exact h4) (by rw [hk]; exact ⟨_, I', q⟩)
  · have hk : (k + (its.toArray.size : Int)).toNat = j := by
      rw [seqIndex_neg (by omega) h3] at h1
      rw [List.size_toArray, ← hl]
      exact Option.some.inj h1
    exact PySem.W.ki_setBack ho (by omega) (by rw [List.size_toArray, ← hl]; exact h3) (by omega) (by rw [hk]; exact ⟨_, I', q⟩)

/-! ### slices -/
/-! ### in, not in: flat items -/
/-! ### len, list(x), tuple(x) of any list or tuple that is read -/
theorem call_len_seq : CallR X (.builtin "len") (fun xs H Q => ∃ p ys, xs = [.ref p] ∧ (SqL X.K H p ys ∨ SqT X.K H p ys) ∧ Q (.int ys.length) H) := by
  intro pins s σ H xs us Q I r h
  obtain ⟨p, ys, rfl, hq, q⟩ := h
  obtain ⟨u, rfl, rx⟩ := vals1 r
  cases rx
  have hn := line63
  rcases hq with hq | hq
  · obtain ⟨its, r', pl, hz⟩ := I.list hq
    have hlen := r'.length
    exact Calls.call_len_list pl.isList (by simp only [List.size_toArray] <;> omega) ⟨.int ys.length, H, I.tok _, ⟨s.toks + 1, by rw [List.size_toArray, hlen]⟩, q⟩
  · obtain ⟨its, r', pl, hz⟩ := I.tuple hq
    have hlen := r'.length
    exact len_tuple pl (by simp only [List.size_toArray] <;> omega) ⟨.int ys.length, H, I.tok _, ⟨s.toks + 1, by rw [List.size_toArray, hlen]⟩, q⟩
/-! ### the call of a builtin's method: o.m(..) -/
/-- the value is of that builtin type -/
def tyV (K : PySem.W.Frag) (T : String) (x : V) (H : Hp) : Prop := match x with
  | .str _ => T = "str"
  | .int _ => T = "int"
  | .ref p => (T = "list" ∧ ∃ xs, SqL K H p xs) ∨ (T = "tuple" ∧ ∃ o, K.lookup p = some o ∧ o.cls = .type "tuple" ∧ o.dict = none) ∨
      (T = "dict" ∧ ((∃ kvs, H p = some (.dK kvs)) ∨ ∃ kvs, H p = some (.dT kvs))) ∨ (T = "set" ∧ ∃ S n, H p = some (.set S n))
  | _ => False
theorem tyV_is {pins : List (Addr × Obj)} {σ : St} {H : Hp} {s : Shared} {T : String} {x : V} {v : Value} (I : Inv X pins σ H s) (r : RelV x v) (ty : tyV X.K T x H) :
    s.TypeIs v T ∧ ∀ a, v = .ref a → ∃ ob, s.heap.get? a = some ob ∧ ob.dict = none := by
  cases x with
  | str z =>
    obtain ⟨t, rfl⟩ := r
    cases (show T = "str" from ty)
    exact ⟨typeIs_str s z t, fun _ e => nomatch e⟩
  | int i =>
    obtain ⟨t, rfl⟩ := r
    cases (show T = "int" from ty)
    exact ⟨typeIs_int s i t, fun _ e => nomatch e⟩
  | ref p =>
    cases r
    rcases ty with ⟨rfl, xs, hq⟩ | ⟨rfl, o, hk, hc, hd⟩ | ⟨rfl, hk⟩ | ⟨rfl, S, n, hk⟩
    · obtain ⟨its, _, pl, _⟩ := I.list hq
      refine ⟨pl.isList.typeIs, fun a e => ?_⟩
      cases e
      obtain ⟨o, n, e, c, hd, _⟩ := pl
      exact ⟨o, e, hd⟩
    · refine ⟨⟨o, I.kIn p o hk, hc⟩, fun a e => ?_⟩
      cases e
      exact ⟨o, I.kIn _ o hk, hd⟩
    · have z : ∃ o, s.heap.get? p = some o ∧ o.ExactDict := by
        rcases hk with ⟨kvs, hk⟩ | ⟨kvs, hk⟩
        · obtain ⟨_, _, _, _, o, _, _, e, ex, _⟩ := I.hok p _ hk
          exact ⟨o, e, ex⟩
        · obtain ⟨_, _, _, _, o, _, _, e, ex, _⟩ := I.hok p _ hk
          exact ⟨o, e, ex⟩
      obtain ⟨o, e, ex⟩ := z
      refine ⟨⟨o, e, ex.1⟩, fun a e2 => ?_⟩
      cases e2
      exact ⟨o, e, ex.2.1⟩
    · obtain ⟨o, _, _, _, e, ex, _⟩ := I.hok p _ hk
      refine ⟨⟨o, e, ex.1⟩, fun a e2 => ?_⟩
      cases e2
      exact ⟨o, e, ex.2.1⟩
  | _ => exact False.elim ty
def tBM (K : PySem.W.Frag) (T : String) (r : V → List V → Hp → VK → Prop) (to : TE) (t : TA) : TE := fun σ H Q => to σ H fun x H1 => tyV K T x H1 ∧ t σ H1 fun xs H2 => r x xs H2 Q
variable {o e : Expr} {es : List Expr} {to : TE} {t : TA} {name : Str} {apos cpos : Pos} {T id : String} {r : V → List V → Hp → VK → Prop}
theorem pe_bm (pa : PlainAttrs T) (slot : Slot T name id) (hty : typeOf (.builtin id) = pure (.type "method_descriptor")) (hm : MtR X id r) (ho : PE X o to) (ha : PA X (e :: es) t)
    (hbase : attributeBase o name X.env (eval o X.env) = eval o X.env := by rfl)
    (hfew : ((backTo cpos (starEach (e :: es) X.env)).all (fun x => !x.1) && (backToKw cpos (keywordEach [] X.env)).all (fun x => x.1.isSome)
      && decide ((e :: es).length + ([] : List Keyword).length + (if ([] : List Keyword).isEmpty then 0 else 1) < 30)) = true := by rfl)
    (hline : (apos.endLine == cpos.line) = true := by rfl) (hs : starEach (e :: es) X.env = (false, eval e X.env) :: starEach es X.env := by rfl) (hplain : (backTo cpos (starEach es X.env)).any (·.1) = false := by rfl) :
    PE X (.Call (.Attribute o name apos) (e :: es) [] cpos) (tBM X.K T r to t) := by
  intro pins s σ H Q I h
  refine wpAny_Call_method_late hbase hfew hline rfl (thn (ho pins s σ H _ I h) fun v s1 ⟨x, H1, I1, r1, ty, q1⟩ => ?_)
  obtain ⟨h1, h2⟩ := tyV_is I1 r1 ty
  refine ⟨T, id, pa, slot, hty, h1, h2, ?_⟩
  have hA := ha cpos pins s1 σ H1 _ I1 q1
  rw [hs] at hA ⊢
  refine Calls.callWith_builtin (by show (false || (backTo cpos (starEach es X.env)).any (·.1)) = false; rw [hplain] <;> rfl) (Calls.evalArgs_plain ?_)
  exact thn hA fun us s2 ⟨vs, H2, I2, r2, q2⟩ => hm pins s2 σ H2 x vs v us Q I2 r1 r2 q2
/- xs.append(e), list.index on a module's tuple .. are MtR facts of 06m -/
end
end L2

namespace L2
open PySem PySem.Spec PyProof.Rows

def MtM (X : Cx) (id : String) (r : V → List V → Hp → VK → Prop) : Prop :=
  ∀ (pins : List (Addr × Obj)) (s : Shared) (σ : St) (H : Hp) (x : V) (xs : List V) (v : Value) (us : List Value) (Q : VK), Inv X pins σ H s → RelV x v → Vals xs us → r x xs H Q →
    wpAny (model X.prog X.w) X.A (call (.builtin id) (v :: us)) (EP X pins σ Q) X.xe s

/-! ### lists of values -/
theorem Vals.one : ∀ {x : V} {us : List Value}, Vals [x] us → ∃ u, us = [u] ∧ RelV x u
  | _, _, .cons r .nil => ⟨_, rfl, r⟩
theorem Vals.two : ∀ {x y : V} {us : List Value}, Vals [x, y] us → ∃ u v, us = [u, v] ∧ RelV x u ∧ RelV y v
  | _, _, _, .cons r (.cons q .nil) => ⟨_, _, rfl, r, q⟩
theorem Vals.zero : ∀ {us : List Value}, Vals [] us → us = []
  | _, .nil => rfl
theorem Vals.reverse {xs : List V} {us : List Value} (h : Vals xs us) : Vals xs.reverse us.reverse := by
  induction h with
  | nil => exact .nil
  | cons r t ih => rw [List.reverse_cons, List.reverse_cons]; exact Vals.append ih (.cons r .nil)
theorem Vals.rep {xs : List V} {us : List Value} (h : Vals xs us) : ∀ k : Nat, Vals (List.replicate k xs).flatten (List.replicate k us).flatten
  | 0 => .nil
  | k + 1 => by
    rw [List.replicate_succ, List.replicate_succ, List.flatten_cons, List.flatten_cons]
    exact Vals.append h (Vals.rep h k)
section
variable {X : Cx} {pins : List (Addr × Obj)} {σ : St} {H : Hp} {s : Shared} {l b : Addr} {xs ys zs : List V}

/-! ### the two steps: a tracked list is rewritten, a new list is laid -/
theorem Inv.lset {its its' : List Value} {n : Nat} {f : Array Value → Array Value} {t' : Nat} (I : Inv X pins σ H s) (hH : H l = some (.lst xs))
    (e : s.heap.get? l = some { cls := .type "list", data := .seq its.toArray n }) (hf : f its.toArray = its'.toArray) (hv : Vals ys its') (hz : ys.length ≤ sizeLine) :
    Inv X pins σ (upd H l (.lst ys)) { s with heap := s.heap.update l (Obj.mapSeq f), toks := t' } := by
  have q := PySem.IsL.update e f
  rw [hf] at q
  refine I.write (x := l) (e := l) (by rw [hH]; exact trivial) (.inl rfl) (fun b' u hb hu => (Heap.get?_update_other s.heap (Obj.mapSeq f) (Ne.symm hb)).trans hu) ⟨_, q⟩ ?_
  exact ⟨hz, its', _, hv, q⟩
theorem Inv.lnew {its : List Value} {t' : Nat} (I : Inv X pins σ H s) (hv : Vals ys its) (hz : ys.length ≤ sizeLine) :
    Inv X pins σ (upd H s.heap.objs.size (.lst ys)) { s with heap := s.heap.push { cls := .type "list", data := .seq its.toArray }, toks := t' } :=
  I.laid (fun _ _ q => Heap.get?_push_of_some _ q) (Nat.le_refl _) ⟨hz, its, 0, hv, Heap.get?_push_size _ rfl⟩
theorem Inv.fresh (I : Inv X pins σ H s) : H s.heap.objs.size = none := I.hok.fresh (Nat.le_refl _)
theorem Inv.lstM (I : Inv X pins σ H s) (hH : H l = some (.lst xs)) : xs.length ≤ sizeLine ∧ ∃ (its : List Value) (n : Nat), Vals xs its ∧ xs.length = its.length ∧ s.heap.get? l = some { cls := .type "list", data := .seq its.toArray n } := by
  obtain ⟨z, its, n, r, e⟩ := I.hok l _ hH
  exact ⟨z, its, n, r, r.length, e⟩

end

section
variable {X : Cx}

/-! ### methods -/
def rAppend : V → List V → Hp → VK → Prop := fun x vs H Q => ∃ l xs y, x = .ref l ∧ vs = [y] ∧ H l = some (.lst xs) ∧ xs.length < sizeLine ∧ Q .non (upd H l (.lst (xs ++ [y])))
theorem mt_append : MtM X "list.append" rAppend := by
  intro pins s σ H x vs v us Q I rx rv h
  obtain ⟨l, xs, y, rfl, rfl, hH, hz, q⟩ := h
  cases rx
  obtain ⟨u, rfl, ru⟩ := rv.one
  obtain ⟨z, its, n, r, hl, e⟩ := I.lstM hH
  refine call_meets F.slot_list_append ⟨_, e, rfl⟩ F.entry_list_append (F.args_list_append_2 _ _) (PySem.list_append l its.toArray n u (by rw [List.size_toArray]; omega)) ⟨e, ?_⟩
  refine ⟨.non, _, I.lset (its' := its ++ [u]) hH e (by simp) (r.append (.cons ru .nil)) ?_, rfl, q⟩
  rw [List.length_append, List.length_singleton]
  omega

/-! ### list + list, list += list, list * int -/
def rCat : R2 := fun x y H Q => ∃ l b xs zs, x = .ref l ∧ y = .ref b ∧ H l = some (.lst xs) ∧ H b = some (.lst zs) ∧ xs.length + zs.length ≤ sizeLine ∧ ∀ p, H p = none → Q (.ref p) (upd H p (.lst (xs ++ zs)))
theorem op_cat : OpR X (binaryOp .Add) rCat := by
  intro pins s σ H x y v u Q I rx ry h
  obtain ⟨l, b, xs, zs, rfl, rfl, hH, hB, hz, q⟩ := h
  cases rx
  cases ry
  obtain ⟨z, its, n, r, hl, e⟩ := I.lstM hH
  obtain ⟨z2, its2, n2, r2, hl2, e2⟩ := I.lstM hB
  refine PySem.P.add_list e e2 ?_ (by rw [List.size_toArray, List.size_toArray]; omega)
  have ea : its.toArray ++ its2.toArray = (its ++ its2).toArray := by simp
  rw [ea]
  exact ⟨.ref _, _, I.lnew (t' := s.toks) (r.append r2) (by rw [List.length_append]; omega), rfl, q _ I.fresh⟩
/-! ### del xs[i] -/
end

/-! ### xs[a:b] = ys -/
section
variable {prog : Program} {w : World} {A : Around} {E : Value → Shared → Prop} {s : Shared}
end

section
variable {X : Cx}
end
end L2

namespace Att
open PySem PySem.W PySem.Calls PyProof.Rows

/-! ### the script -/
theorem ints_of_wellAll {P : Params} {h : Heap} : ∀ (ns : List Int) (vs : List Value), WellAll P h vs (ns.map WData.int) → IntsAre vs ns := by
  intro ns
  induction ns with
  | nil =>
    intro vs w
    rw [List.map_nil] at w
    cases w
    exact .nil
  | cons n ns ih =>
    intro vs w
    rw [List.map_cons] at w
    cases w with
    | cons a b =>
      cases a
      exact .cons _ _ (ih _ b)

theorem script_of {l : OpenLaw} {n : Nat} (hn : l.most = some n) {P : Params} {h : Heap} {args : List WData} {vals : List Value}
    (hpre : l.row.toRowW.claim.pre args = true) (hwl : WellAll P h vals args) :
    ∃ a vs ns, vals = [Value.ref a] ∧ args = [WData.list (ns.map WData.int)] ∧ h.get? a = some { cls := .type "list", data := .seq vs.toArray } ∧ IntsAre vs ns ∧ ns.length ≤ n := by
  have hsh : WShape.hasAll [] args [.list .int] = true := (pre_splitW hpre).1
  have hc : l.pre.holds [] { args := args } = true := (pre_splitW hpre).2
  obtain ⟨d, r, rfl, h1, h2⟩ := hasAllW_cons hsh
  obtain rfl := hasAllW_nil h2
  obtain ⟨xs, rfl, h3⟩ := hasW_list h1
  obtain ⟨ns, rfl⟩ := items_int h3
  have hlen : ns.length ≤ n := by
    unfold OpenLaw.pre at hc
    have h4 : (WTm.not (.lt (.lit (.int (n : Int))) (.len (.arg 0)))).holds [] { args := [.list (ns.map .int)] } = true := by
      have h4 := (holds_andW hc).1
      rw [hn] at h4
      exact h4
    have h5 := condW_of h4 (w_not (w_lt w_lit (w_len_list (w_arg rfl))))
    rw [List.length_map] at h5
    refine Nat.le_of_not_lt fun q => ?_
    have q' : (n : Int) < ((ns.length : Nat) : Int) := by omega
    first
      | (rw [decide_eq_true q'] at h5; exact absurd h5 (by decide))
      | (simp at h5; omega)
  cases hwl with
  | cons w1 w2 =>
    cases w2
    cases w1 with
    | list ho hall => exact ⟨_, _, ns, rfl, rfl, ho, ints_of_wellAll ns _ hall, hlen⟩

theorem post_true (l : OpenLaw) (args : List WData) : l.row.toRowW.claim.post args (.bool true) args = true :=
  postW_of (r := l.row.toRowW) (X := (true == true))
    (show WShape.has [] (.bool true) .bool = true by first | rfl | decide | simp [WShape.has, WShape.arms, WShape.armsAll])
    (show (WTm.eq .res (.lit (.bool true))).value [] { args := args, res := some (.bool true), after := args } = some (.bool (true == true)) from w_eq_bool (w_res rfl) w_lit) rfl

/-! ### the attachment: holds_open's last premise (the goal 'hc' behind k_head) from a wpAny of the law's body -/
/-- the same from a codeAny of the CALL (for a layer whose function contracts speak of calls) -/
theorem attach_call {l : OpenLaw} {n : Nat} {q : Program} {loose : List Str} {XP : (Str → Option Value) → Heap → Prop} {YP : World → Heap → Prop} {d : DefRec}
    (hn : l.most = some n) (hdf : d.params.defaults = [])
    (call : ∀ (w : World) (s₀ s₁ : Shared) (mg mb : Str → Option Value) (fa : Addr) (o : Obj) (pm cd doc : Value) (a : Addr) (vs : List Value) (ns : List Int),
      Ground q loose [] XP w s₀ mg mb s₁.heap → YP w s₁.heap →
      s₁.heap.get? fa = some o → o.data = .func (docDef d.name d.params d.body d.scope pm cd doc) → s₁.heap.CodeRec cd d.name → mg d.name = some (.ref fa) →
      s₁.heap.get? a = some { cls := .type "list", data := .seq vs.toArray } → IntsAre vs ns → ns.length ≤ n → s₁.gens = #[] →
      codeAny (model l.prog w) callerA (.call (.ref fa) ⟨[.ref a], []⟩) (fun r s' => r = .ok (.ret (.bool true)) ∧ OldK s₁.heap s'.heap ∧ s'.os = s₁.os ∧ AllBare s'.gens) s₁) :
    WalkO q loose XP YP l.row.toRowW d [] (fun f vs => PySem.call f vs) := by
  intro w s₀ s₁ mg mb G Y fa o pm cd doc dV kV ho hd hcd hD hmg hg args vals as hpre hlay hrd hwl hlo
  obtain rfl : dV = .none := Dflts.none hD hdf
  obtain rfl : kV = .none := Dflts.noKw hD
  obtain ⟨a, vs, ns, rfl, rfl, hobj, hints, hlen⟩ := script_of hn hpre hwl
  refine enter_call (codeAny_mono (call w s₀ s₁ mg mb fa o pm cd doc a vs ns G Y ho (fd_plain hd) hcd hmg hobj hints hlen hg) fun r s' hq => ?_)
  obtain ⟨rfl, h2, h3, h4⟩ := hq
  exact ⟨.inl ⟨.bool true, .bool true, [], rfl, fun _ => rfl, .bool true, post_true l _, fun _ => ⟨List.Pairwise.nil, fun _ hm => (nomatch hm)⟩⟩, h2, h3, h4⟩

/-! ### rules over ANY heap (no ledger) from facts about the written part K: the library's own take a ledger (News) for what they write -/
section
variable {prog : Program} {w : World} {A : Around} {E : Value → Shared → Prop} {s : Shared} {K : Frag}

/-! the whole heap as the ledger: makes every rule that writes through a ledger a rule over any heap -/
end
end Att

namespace L2
open PySem PySem.Spec PyProof.Rows

theorem vals_ints : ∀ {vs : List Value} {ns : List Int}, IntsAre vs ns → Vals (ns.map V.int) vs
  | _, _, .nil => .nil
  | _, _, .cons n t h => .cons ⟨t, rfl⟩ (vals_ints h)

/-- nothing is tracked but the script, known to the object (or it is an object of the module) -/
def Only (H : Hp) : Prop := ∀ b, H b = none ∨ ∃ o xs, H b = some (.frz o (.lst xs))

/-- THE HEAD: the law's promise, at the heap behind the top. F, the promise of the law's def, may use that base is part of the heap (so K.In base, base.Ns mainGlobals mg stand in Mod) -/
theorem law_call {P : Program} {w : World} {K : PySem.W.Frag} {mg mb : Str → Option Value} {CX : CXT} {k : Nat} {fa a : Addr} {fd : FuncData} {x : Str} {sp : Sp} {s₁ : Shared} {vs : List Value} {ns : List Int}
    (KX : K.In s₁.heap) (hns : s₁.heap.Ns mainGlobals mg) (hb : s₁.heap.Ns builtinsNs mb) (hbb : ∀ x : Str, x ≠ "__name__" → mb x = bootBuiltins x) (hlim : s₁.heap.NoLimit) (hg : s₁.gens = #[])
    (ha : s₁.heap.get? a = some { cls := .type "list", data := .seq vs.toArray }) (hi : IntsAre vs ns) (hl : ns.length ≤ sizeLine) (hr : Room k callerA)
    (F : ∀ base : Heap, K.In base → base.Ns mainGlobals mg → FnOk P w K mg base CX k fa fd [x] sp) (hbind : ∀ (s : Shared) (u : Value), BindsTo s fd ⟨[u], []⟩ [(x, u)])
    (hsp : ∀ H : Hp, Only H → SqL K H a (ns.map V.int) → sp [.ref a] H (fun v _ => v = .bl true) fun _ _ _ => False)
    (hCX : ∀ H e s', CX [] H s₁ (fun _ _ _ => False) e s' → False) :
    codeAny (model P w) callerA (.call (.ref fa) ⟨[.ref a], []⟩) (fun r s' => r = .ok (.ret (.bool true)) ∧ OldK s₁.heap s'.heap ∧ s'.os = s₁.os ∧ AllBare s'.gens) s₁ := by
  have rv := vals_ints hi
  have lenV := hi.length
  -- from an abstract heap in which nothing but the script may be tracked
  have core : ∀ H : Hp, Only H → SqL K H a (ns.map V.int) → HOk P w H s₁.heap → (∀ b, H b ≠ none → b = a) → (H a ≠ none → K.lookup a = none) →
      codeAny (model P w) callerA (.call (.ref fa) ⟨[.ref a], []⟩) (fun r s' => r = .ok (.ret (.bool true)) ∧ OldK s₁.heap s'.heap ∧ s'.os = s₁.os ∧ AllBare s'.gens) s₁ := by
    intro H hO hS hok hA hK
    have base_of : ∀ {b : Addr} {o : Obj}, s₁.heap.get? b = some o → H b = none → (hidT s₁.heap H).get? b = some o := fun e n => hidT_get e n
    have noA : ∀ {b : Addr} {o : Obj} {es : Array DictEntry} {ep : Nat}, s₁.heap.get? b = some o → o.data = .dict es ep → H b = none := fun {b o es ep} e d => by
      cases q : H b with
      | none => rfl
      | some u =>
        have e' : b = a := hA b (by rw [q]; simp)
        subst e'
        rw [ha] at e; cases e
        have d' : Data.seq vs.toArray _ = Data.dict es ep := d
        cases d'
    have nsK : ∀ {b : Addr} {m : Str → Option Value}, s₁.heap.Ns b m → (hidT s₁.heap H).Ns b m := fun {b m} ⟨o, es, ep, e, d, r⟩ => ⟨o, es, ep, base_of e (noA e d), d, r⟩
    have hKb : K.In (hidT s₁.heap H) := fun b o e => base_of (KX b o e) (by
      cases q : H b with
      | none => rfl
      | some u =>
        have e' : b = a := hA b (by rw [q]; simp)
        subst e'
        rw [hK (by rw [q]; simp)] at e; cases e)
    have hM : Mod K mg (hidT s₁.heap H) := ⟨hKb, nsK hns, ⟨mb, nsK hb, hbb⟩, let ⟨mc, h1, h2⟩ := hlim; ⟨mc, nsK h1, h2⟩⟩
    have e0 : Env0 P w K mg (hidT s₁.heap H) callerA [] s₁ H := ⟨rfl, hM, fun b o e => of_hidT e, Nat.le_of_eq (hidT_size _ _), trivial, fun b hb => absurd (show b ∈ ([] : List Addr) from hb) (by simp), hok, .of_eq hg⟩
    refine codeAny_mono ((F _ hKb (nsK hns)).run callerA [] s₁ H ⟨[.ref a], []⟩ [.ref a] [.ref a] _ _ hr e0 (hbind s₁ (.ref a)) (.cons rfl .nil) (hsp H hO hS)) fun r s' h => ?_
    cases r with
    | error e => exact (hCX H e s' h).elim
    | ok fl =>
      cases fl with
      | next => exact False.elim h
      | brk => exact False.elim h
      | cont => exact False.elim h
      | ret u =>
        obtain ⟨v, H', os, bare, un, hok', r', q⟩ := h
        have q' : v = .bl true := q
        subst q'
        obtain rfl : u = Value.bool true := r'
        refine ⟨rfl, OldK.of_keep fun b o e => ?_, os, bare⟩
        cases q : H b with
        | none => exact un.keep b o e q (by intro z; exact absurd (show b ∈ ([] : List Addr) from z) (by simp)) (by simp)
        | some u =>
          rcases hO b with z | ⟨ob, xs, z⟩
          · rw [q] at z; cases z
          · have z2 := un.frzs b ob _ z
            obtain ⟨e1, _⟩ := hok b _ z
            obtain ⟨e2, _⟩ := hok' b _ z2
            rw [e] at e1; cases e1
            exact e2
  cases hk : K.lookup a with
  | some o =>
    -- the script is one of the module's own objects
    have e := KX a o hk
    rw [ha] at e
    cases e
    refine core (fun _ => none) (fun _ => .inl rfl) (.inr ⟨_, vs.toArray, _, hk, rfl, rfl, rfl, by rw [List.size_toArray, lenV]; exact hl, by simpa using rv⟩) (fun b u z => by have z' : (none : Option HO) = some u := z; cases z') (fun b z => absurd rfl z) fun z => absurd rfl z
  | none =>
    refine core (fun b => if b = a then some (.frz { cls := .type "list", data := .seq vs.toArray } (.lst (ns.map V.int))) else none) (fun b => ?_) (.inl (.inr ⟨{ cls := .type "list", data := .seq vs.toArray }, if_pos rfl⟩)) (fun b u z => ?_) (fun b z => ?_) fun _ => hk
    · by_cases hb : b = a
      · exact .inr ⟨_, _, if_pos hb⟩
      · exact .inl (if_neg hb)
    · by_cases hb : b = a
      · have z' := (if_pos hb).symm.trans z
        cases z'
        subst hb
        exact ⟨ha, by rw [List.length_map]; exact hl, vs, _, rv, ha⟩
      · have z' := (if_neg hb).symm.trans z
        cases z'
    · by_cases hb : b = a
      · exact hb
      · exact absurd (if_neg hb) z
end L2

namespace L2
open PySem PySem.Spec PyProof.Rows

abbrev KOf {K : PySem.W.Frag} {h : Heap} (_ : K.In h) : PySem.W.Frag := K

/-- the goal that k_head leaves (case hc), from the law's promise. F gives the function object fd (K's own) once, then the promise over every base -/
theorem walk_of {l : PySem.W.OpenLaw} {n k : Nat} {q : Program} {loose : List Str} {XP : (Str → Option Value) → Heap → Prop} {YP : World → Heap → Prop} {d : DefRec} {K : Params → PySem.W.Frag} {CX : World → CXT} {sp : World → Sp} {x : Str}
    (hn : l.most = some n) (hn2 : n ≤ sizeLine) (hdf : d.params.defaults = []) (hr : Room k callerA)
    (hY : ∀ (w : World) (h : Heap), YP w h → (K w.params).In h)
    (F : ∀ (w : World) (mg : Str → Option Value) (fa : Addr) (h : Heap), (K w.params).In h → h.Ns mainGlobals mg → mg d.name = some (.ref fa) →
      ∃ fd : FuncData, (∀ (s : Shared) (u : Value), BindsTo s fd ⟨[u], []⟩ [(x, u)]) ∧
        ∀ base : Heap, (K w.params).In base → base.Ns mainGlobals mg → FnOk l.prog w (K w.params) mg base (CX w) k fa fd [x] (sp w))
    (hsp : ∀ (w : World) (H : Hp) (a : Addr) (ns : List Int), ns.length ≤ n → Only H → SqL (K w.params) H a (ns.map V.int) → sp w [.ref a] H (fun v _ => v = .bl true) fun _ _ _ => False)
    (hCX : ∀ (w : World) (H : Hp) (s : Shared) (e : Value) (s' : Shared), CX w [] H s (fun _ _ _ => False) e s' → False) :
    PySem.W.WalkO q loose XP YP l.row.toRowW d [] (fun f vs => PySem.call f vs) := by
  refine Att.attach_call hn hdf fun w s₀ s₁ mg mb fa o pm cd doc a vs ns G Y ho hd hcd hmg hobj hints hlen hg => ?_
  have KX := hY w _ Y
  obtain ⟨fd, hb, hF⟩ := F w mg fa _ KX G.T.g hmg
  exact law_call KX G.T.g G.T.b G.T.builtins G.T.nolimit hg hobj hints (Nat.le_trans hlen hn2) hr hF hb (fun H hO hS => hsp w H a ns hlen hO hS) fun H e s' => hCX w H s₁ e s'
end L2

/- THE LAST THEOREM (shape; LID, My.* are yours):
   My.Adr: a structure of the addresses that your layer names (classes, functions); My.Txt K t: a structure (Prop) of the equations over K;
   My.txt_mk : {K} {implicit addresses ..} (e1 : nsIn K mainGlobals "law" = some (some (.ref f))) (e2 : K.lookup f = some ⟨oc, od, .func (fnOf "law" "law" params body scope dV kV doc pm an cdv ct), sl⟩) (e3 : codeIn K cdv "law" = true) .. : ∃ t, My.Txt K t

set_option maxRecDepth 100000 in
set_option maxHeartbeats 0 in
theorem PySem.Challenge.cw_LID_holds : PySem.Challenge.rw_LID.Holds := by
  w_on; o_law; k_head; (case hw => w_witness2)
  k_fill
  refine L2.walk_of (l := PySem.Challenge.rw_LID) (n := 63) (k := 40) (x := "script") (CX := fun w => ..) (sp := fun _ => My.sp_law) rfl (by decide) rfl ⟨rfl, by decide, by decide⟩ (fun w h Y => PySem.W.kIn_of Y) ?F ?S ?C
  case F =>
    intro w mg fa h KX G hmg
    have T : ∃ t, My.Txt (L2.KOf KX) t := by
      dsimp only [L2.KOf]                          -- K must stand as «<heap const> w.params» for k_is
      refine' My.txt_mk ?e1 ?e2 ?e3 ..
      (case e1 => PySem.W.k_is)                    -- in the order: a name -> its address -> its object -> its parts
      (case e2 => PySem.W.k_is)
      ..
    obtain ⟨t, T⟩ := T
    have e0 := hmg.symm.trans (PySem.W.mg_of KX G T.law)
    cases e0                                       -- fa is the law's own address
    exact ⟨_, fun s u => .of_eq rfl, fun base kb nb => My.law_fn T kb nb⟩     -- if «.of_eq rfl» comes too early: refine' ⟨_, ?b, fun base kb nb => My.law_fn T kb nb⟩; exact fun s u => .of_eq rfl
  case S => exact fun w H a ns hl hO hS => ..
  case C => exact ..
(the tactic k_is has no namespace: write k_is) -/

/-! SHORT WORDS over the layer: a def of the text, its body, what a loop and a test want. -/
namespace L2
open PySem PySem.Spec PyProof.Rows

/-! ### the text by places -/
/-- the j-th statement of a class's body -/
def inClass (s : Stmt) (j : Nat) : Stmt := match s with
  | .ClassDef _ _ _ body _ _ _ _ _ _ _ => body.getD j (.Pass ⟨0, 0, 0, 0⟩)
  | _ => .Pass ⟨0, 0, 0, 0⟩
def defArgs (s : Stmt) : Arguments := match s with
  | .FunctionDef _ a _ _ _ _ _ _ _ _ => a
  | _ => { posonlyargs := [], args := [], vararg := none, kwonlyargs := [], kw_defaults := [], kwarg := none, defaults := [] }
def defBody (s : Stmt) : List Stmt := match s with
  | .FunctionDef _ _ b _ _ _ _ _ _ _ => b
  | _ => []
def defScope (s : Stmt) : Scope := match s with
  | .FunctionDef _ _ _ _ _ _ sc _ _ _ => sc
  | _ => { kind := .function, names := [], isGenerator := false, isCoroutine := false }

/-! ### no exception leaves a def -/
abbrev CX0 : CXT := fun _ _ _ _ _ _ => False
abbrev E0 : XK := fun _ _ _ => False
/-! ### a def (or method) of the text as it stands behind the top -/
structure Fun (K : PySem.W.Frag) (x qual : Str) (st : Stmt) (f : Addr) (fd : FuncData) : Prop where
  ex : ∃ (oc : Value) (od : Option Addr) (kV doc pm : Value) (an : Option Addr) (cdv ct : Value) (osl : Array (Option Value)),
    fd = PySem.W.fnOf x qual (defArgs st) (defBody st) (defScope st) .none kV doc pm an cdv ct ∧ K.lookup f = some ⟨oc, od, .func fd, osl⟩ ∧ PySem.W.codeIn K cdv qual = true
  kp : PySem.W.keepIn K (.ref f) = true
section
variable {P : Program} {w : World} {K : PySem.W.Frag} {mg : Str → Option Value} {base : Heap}
/-- THE RULE for a def: its body as a term of rules, and the reading of that term -/
theorem Fun.ok {x qual : Str} {st : Stmt} {f : Addr} {fd : FuncData} {N ps : List Str} {k : Nat} {sp : Sp} (F : Fun K x qual st f fd) (S : FnScope N ps (defScope st)) (len : ∀ vs H Q E, sp vs H Q E → vs.length = ps.length)
    (hbody : ∀ (cdv : Value) (A : Around) (outer : List Env) (s : Shared) (H : Hp) (vs : List V) (Q : VK) (E : XK), Room k (A.deeper (envOfC qual (defScope st) s.heap.objs.size f cdv)) → sp vs H Q E →
      ∃ t, PSs (cxOf CX0 P w K mg base N qual (defScope st) f cdv A outer s H E).nox (defBody st) t ∧ t { nx := fun _ H' => Q .non H', rt := Q } (start N vs) H) : FnOk P w K mg base CX0 (k + 1) f fd ps sp := by
  obtain ⟨oc, od, kV, doc, pm, an, cdv, ct, osl, rfl, lk, hcd⟩ := F.ex
  refine fn_of lk hcd S len fun A outer s H vs Q E hr hsp => ?_
  obtain ⟨t, h, q⟩ := hbody cdv A outer s H vs Q E hr hsp
  exact ⟨t, h.nox, q⟩
/-- how its arguments bind (no defaults): h is «fun _ _ _ _ _ _ us hl => match us, hl with | [_, _], _ => rfl», one _ a parameter -/
theorem Fun.binds {x qual : Str} {st : Stmt} {f : Addr} {fd : FuncData} {ps : List Str} (F : Fun K x qual st f fd)
    (h : ∀ (kV doc pm : Value) (an : Option Addr) (cdv ct : Value) (us : List Value), us.length = ps.length → bindArgs (PySem.W.fnOf x qual (defArgs st) (defBody st) (defScope st) .none kV doc pm an cdv ct) ⟨us, []⟩ = pure (ps.zip us)) : Binds K fd ps [] := by
  obtain ⟨oc, od, kV, doc, pm, an, cdv, ct, osl, rfl, lk, hcd⟩ := F.ex
  exact .all (h kV doc pm an cdv ct)
theorem fun_mk {x qual : Str} {st : Stmt} {f : Addr} {oc : Value} {od an : Option Addr} {osl : Array (Option Value)} {kV doc pm cdv ct : Value} (l : K.lookup f = some ⟨oc, od, .func (PySem.W.fnOf x qual (defArgs st) (defBody st) (defScope st) .none kV doc pm an cdv ct), osl⟩)
    (c : PySem.W.codeIn K cdv qual = true) (k : PySem.W.keepIn K (.ref f) = true) : Fun K x qual st f (PySem.W.fnOf x qual (defArgs st) (defBody st) (defScope st) .none kV doc pm an cdv ct) := ⟨⟨oc, od, kV, doc, pm, an, cdv, ct, osl, rfl, l, c⟩, k⟩
end
theorem hu_of {A : Around} {k : Nat} (hr : Room k A) : A.units + 1 < cLine := Nat.lt_of_le_of_lt (Nat.add_le_add_left (by decide : 1 ≤ 64) _) hr.units
/-! ### expressions in short: the name that stands in the i-th slot -/
section
variable {X : Cx}
theorem pv (i : Nat) {x : Str} {pos : Pos} (hN : X.N[i]? = some x := by rfl) (hv : Vis X.env.scope x := by first | exact Or.inl rfl | exact Or.inr (Or.inl rfl) | exact Or.inr (Or.inr rfl)) (hd : (x == ("__debug__" : Str)) = false := by decide)
    (hcd : (x == ("__classdict__" : Str)) = false := by decide) : PE X (.Name x pos) (tVar i) := pe_var hN hv hd hcd
end

/-! ### tests -/
theorem ite2 {c A B : Prop} [Decidable c] (h1 : c → A) (h2 : ¬ c → B) : if c then A else B := by
  by_cases h : c
  · rw [if_pos h]
    exact h1 h
  · rw [if_neg h]
    exact h2 h
/-! ### heaps -/
/-- all that was tracked is as it was -/
def Same (H H' : Hp) : Prop := ∀ b o, H b = some o → H' b = some o
theorem Same.refl (H : Hp) : Same H H := fun _ _ h => h
theorem Same.trans {H H1 H2 : Hp} (a : Same H H1) (b : Same H1 H2) : Same H H2 := fun c o h => b c o (a c o h)
theorem Same.free {H H' : Hp} (e : Same H H') {l : Addr} (h : H' l = Option.none) : H l = Option.none := by
  cases q : H l with
  | none => rfl
  | some o =>
    rw [e l o q] at h
    cases h
theorem Same.seq {K : PySem.W.Frag} {H H' : Hp} {a : Addr} {xs : List V} (e : Same H H') (h : SqL K H a xs) : SqL K H' a xs := by
  rcases h with (h | ⟨o, h⟩) | h
  · exact .inl (.inl (e _ _ h))
  · exact .inl (.inr ⟨o, e _ _ h⟩)
  · exact .inr h

end L2

set_option Elab.async false
set_option linter.all false
set_option maxRecDepth 100000
/-! More rules over the hand layer: products and quotients of wide numbers, isinstance, own defs in short. -/
namespace Fr
open PySem PySem.Spec L2
open PyProof.Rows hiding St

/-- the built-in names that the text does not bind -/
structure Bi (mg : Str → Option Value) : Prop where
  len : mg "len" = none
  abs : mg "abs" = none
  int : mg "int" = none
  max : mg "max" = none
  min : mg "min" = none
  range : mg "range" = none
  isinstance : mg "isinstance" = none
  bool : mg "bool" = none
  tuple : mg "tuple" = none
  list : mg "list" = none
  str : mg "str" = none
  zip : mg "zip" = none
  all : mg "all" = none
  divmod : mg "divmod" = none

/-- a def of the text: it stands under its name and keeps its promise -/
def Own (P : Program) (w : World) (K : PySem.W.Frag) (mg : Str → Option Value) (base : Heap) (k : Nat) (x : Str) (ps : List Str) (sp : Sp) : Prop :=
  ∃ (f : Addr) (fd : FuncData), FnOk P w K mg base CX0 k f fd ps sp ∧ mg x = some (.ref f) ∧ PySem.W.keepIn K (.ref f) = true ∧ Binds K fd ps []
theorem Own.mono {P : Program} {w : World} {K : PySem.W.Frag} {mg : Str → Option Value} {base : Heap} {j k : Nat} {x : Str} {ps : List Str} {sp : Sp} (O : Own P w K mg base j x ps sp) (h : j ≤ k) : Own P w K mg base k x ps sp := by
  obtain ⟨f, fd, a, b, c, d⟩ := O
  exact ⟨f, fd, a.mono h, b, c, d⟩

section
variable {X : Cx} {a b : Expr} {ta tb : TE} {pos p : Pos} {k : Nat} {x : Str} {ps : List Str} {sp : Sp} {e : Expr} {es : List Expr} {t : TA}
def CMB (i j : Int) : Prop := CMul i j ∨ (i.natAbs < 2 ^ 250 ∧ j.natAbs < 2 ^ 250)
theorem CMB.ok {i j : Int} (h : CMB i j) : IntMulOk i j := by
  rcases h with h | ⟨h1, h2⟩
  · exact h.ok
  · refine IntMulOk.of_bits (Nat.le_trans (intBits_le_iff.mpr h1) ?_) (Nat.le_trans (intBits_le_iff.mpr h2) ?_) <;> decide
theorem op_mulB : OpR X (binaryOp .Mult) (rI CMB fun i j => .int (i * j)) := opI fun _ _ _ _ _ _ _ hc q => mul_int q hc.ok
theorem log2_le {n : Nat} (h : n < 2 ^ 250) : n.log2 < 9000 := by
  by_cases h0 : n = 0
  · subst h0; decide
  · have := (Nat.log2_lt h0).mpr h
    omega
theorem op_fdivP : OpR X (binaryOp .FloorDiv) (rI (fun _ j => 0 < j ∧ j < 2 ^ 250) fun i j => .int (i / j)) := opI fun i j _ _ _ _ _ hc q => by
  have h1 : (0 : Int) < j := hc.1
  have h2 : j < 2 ^ 250 := hc.2
  exact floordiv_int (by omega) (by rw [Int.fdiv_eq_ediv_of_nonneg i (by omega)]; exact q) (.inl (PyProof.noPylong_of_log2 (log2_le (by omega))))
theorem op_fdivZ : OpR X (binaryOp .FloorDiv) (rI (fun _ j => j ≠ 0 ∧ j.natAbs < 2 ^ 250) fun i j => .int (i.fdiv j)) := opI fun i j _ _ _ _ _ hc q =>
  floordiv_int hc.1 q (.inl (PyProof.noPylong_of_log2 (log2_le hc.2)))
theorem pe_ty {x : Str} {n : String} {pos : Pos} (hg : Gl X x) (hm : X.mg x = none) (hv : bootBuiltins x = some (.type n)) (hn : x ≠ "__name__" := by decide) (hd : (x == ("__debug__" : Str)) = false := by decide) : PE X (.Name x pos) (tC (.ty n)) :=
  pe_bltn hg hm hv rfl hn hd
end
/-! heaps: all but one address is kept -/
def Keep (p : Addr) (H H' : Hp) : Prop := ∀ b o, H b = some o → b ≠ p → H' b = some o
theorem Keep.refl (p : Addr) (H : Hp) : Keep p H H := fun _ _ h _ => h
theorem Keep.trans {p : Addr} {H H1 H2 : Hp} (a : Keep p H H1) (b : Keep p H1 H2) : Keep p H H2 := fun c o h n => b c o (a c o h n) n
theorem Keep.upd {p : Addr} {H : Hp} {o : HO} : Keep p H (upd H p o) := fun c u h n => by rw [upd_ne n]; exact h
theorem Keep.new {p q : Addr} {H : Hp} {o : HO} (h : H q = none) : Keep p H (L2.upd H q o) := fun c u e _ => by rw [upd_ne (ne_of_none e h)]; exact e
theorem Same.new {q : Addr} {H : Hp} {o : HO} (h : H q = none) : Same H (L2.upd H q o) := fun c u e => by rw [upd_ne (ne_of_none e h)]; exact e
theorem Keep.seq {K : PySem.W.Frag} {p a : Addr} {H H' : Hp} {xs : List V} (k : Keep p H H') (n : a ≠ p) (h : SqL K H a xs) : SqL K H' a xs := by
  rcases h with (h | ⟨o, h⟩) | h
  · exact .inl (.inl (k _ _ h n))
  · exact .inl (.inr ⟨o, k _ _ h n⟩)
  · exact .inr h
theorem cmb_r {i j : Int} (h1 : -(2 ^ 64) < j) (h2 : j < 2 ^ 64) : CMB i j := .inl (.inr ⟨h1, h2⟩)
theorem cmb_l {i j : Int} (h1 : -(2 ^ 64) < i) (h2 : i < 2 ^ 64) : CMB i j := .inl (.inl ⟨h1, h2⟩)
theorem cmb_b {i j : Int} (h1 : i.natAbs < 2 ^ 250) (h2 : j.natAbs < 2 ^ 250) : CMB i j := .inr ⟨h1, h2⟩
theorem len2 {a b : V} : [a, b].length ≤ sizeLine := by show 2 ≤ sizeLine; decide
/-- tests of a loop keep to what is wanted -/
theorem mono_cmp {g : Int → Int → V} {i j : Nat} : ∀ (σ : St) (H : Hp) (Q Q' : Bool → Hp → Prop), (∀ b H1, Q b H1 → Q' b H1) → tTest (tOp (rI0 g) (tVar i) (tVar j)) σ H Q → tTest (tOp (rI0 g) (tVar i) (tVar j)) σ H Q' := by
  rintro σ H Q Q' m ⟨v, e, v', e', i, j, h1, h2, k, e3, q⟩
  exact ⟨v, e, v', e', i, j, h1, h2, k, e3, m _ _ q⟩
end Fr

set_option linter.all false
/-! The mathematics: common divisors, lowest terms. -/
namespace Fr
theorem gcd_lin {x y q r : Int} (h : x = y * q + r) : Int.gcd y r = Int.gcd x y := by
  have h2 : r = x + (-q) * y := by rw [h, Int.neg_mul, Int.mul_comm q y]; omega
  rw [h2, Int.gcd_add_mul_right_right, Int.gcd_comm]
theorem gcd_emod' (x y : Int) : Int.gcd y (x % y) = Int.gcd x y := gcd_lin (q := x / y) (Int.mul_ediv_add_emod x y).symm
theorem gcd_fmod' (x y : Int) : Int.gcd y (x.fmod y) = Int.gcd x y := gcd_lin (q := x.fdiv y) (Int.mul_fdiv_add_fmod x y).symm
theorem gcd_abs (x y : Int) : Int.gcd (if x < 0 then -x else x) (if y < 0 then -y else y) = Int.gcd x y := by
  have h : ∀ z : Int, (if z < 0 then -z else z).natAbs = z.natAbs := fun z => by split <;> omega
  show Nat.gcd _ _ = Nat.gcd _ _
  rw [h, h]
/-- (x, y) in lowest terms -/
def IsSpot (x y : Int) : Prop := (x = 1 ∧ y = 0) ∨ (0 < y ∧ Int.gcd x y = 1)
theorem IsSpot.nn {x y : Int} (h : IsSpot x y) : 0 ≤ y := by rcases h with h | h <;> omega
theorem IsSpot.gcd {x y : Int} (h : IsSpot x y) : Int.gcd x y = 1 := by
  rcases h with ⟨rfl, rfl⟩ | h
  · rfl
  · exact h.2
/-- neighbours on the way of a division -/
structure Conv (i : Nat) (x1 y1 x2 y2 : Int) : Prop where
  n1 : 0 ≤ y1
  n2 : 1 ≤ y2
  b1 : x1.natAbs ≤ 20 * 61 ^ i
  b2 : y1.natAbs ≤ 20 * 61 ^ i
  b3 : x2.natAbs ≤ 20 * 61 ^ i
  b4 : y2.natAbs ≤ 20 * 61 ^ i
  cr : x1 * y2 - x2 * y1 = 1 ∨ x1 * y2 - x2 * y1 = -1
theorem Conv.start {d : Int} (h0 : 0 ≤ d) (h1 : d < 41) : Conv 0 1 0 (d - 20) 1 := ⟨by decide, by decide, by decide, by decide, by omega, by decide, .inl (by omega)⟩
theorem abs_lin {m a b : Int} {n : Nat} (h0 : 1 ≤ m) (h1 : m ≤ 60) (ha : a.natAbs ≤ n) (hb : b.natAbs ≤ n) : (m * a + b).natAbs ≤ 61 * n := by
  have h1 := Int.natAbs_add_le (m * a) b
  have h2 : (m * a).natAbs ≤ 60 * n := by
    rw [Int.natAbs_mul]
    exact Nat.mul_le_mul (by omega) ha
  omega
theorem Conv.next {i : Nat} {x1 y1 x2 y2 m : Int} (c : Conv i x1 y1 x2 y2) (h0 : 1 ≤ m) (h1 : m ≤ 60) : Conv (i + 1) x2 y2 (m * x2 + x1) (m * y2 + y1) := by
  have e : 20 * 61 ^ (i + 1) = 61 * (20 * 61 ^ i) := by rw [Nat.pow_succ]; omega
  have hm : 1 ≤ m * y2 := Int.le_trans (by decide : (1 : Int) ≤ 1 * 1) (Int.mul_le_mul h0 c.n2 (by decide) (by omega))
  refine ⟨by have := c.n2; omega, by have := c.n1; omega, by have := c.b3; omega, by have := c.b4; omega, ?_, ?_, ?_⟩
  · rw [e]; exact abs_lin h0 h1 c.b3 c.b1
  · rw [e]; exact abs_lin h0 h1 c.b4 c.b2
  · have q : x2 * (m * y2 + y1) - (m * x2 + x1) * y2 = -(x1 * y2 - x2 * y1) := by
      rw [Int.mul_add, Int.add_mul, Int.mul_assoc m x2 y2, Int.mul_left_comm x2 m y2]; omega
    rw [q]
    rcases c.cr with h | h <;> rw [h]
    · exact .inr rfl
    · exact .inl rfl
end Fr

set_option Elab.async false
set_option linter.all false
set_option maxRecDepth 100000
namespace Fr
open PySem PySem.Spec L2
open PyProof.Rows hiding St
section
variable {prog : Program} {w : World} {A : Around} {E : Value → Shared → Prop} {s : Shared}
end
section
variable {X : Cx}
end
/-! isinstance of ints and bools -/
end Fr

set_option linter.all false
namespace Fr
end Fr

set_option Elab.async false
set_option linter.all false
set_option maxRecDepth 100000
/-! Values as data: == and != of numbers, truths, texts, tuples and lists within one another. -/
namespace Fr
open PySem PySem.Spec L2
open PyProof.Rows hiding St
mutual
inductive IsD (K : PySem.W.Frag) (H : Hp) : V → PyData → Prop
  | non : IsD K H .non .none
  | bl (b : Bool) : IsD K H (.bl b) (.bool b)
  | int (i : Int) : IsD K H (.int i) (.int i)
  | str (x : Str) : IsD K H (.str x) (.str x)
  | tup {a : Addr} {xs : List V} {ds : List PyData} : SqT K H a xs → IsDs K H xs ds → IsD K H (.ref a) (.tuple ds)
  | lst {a : Addr} {xs : List V} {ds : List PyData} : SqL K H a xs → IsDs K H xs ds → IsD K H (.ref a) (.list ds)
inductive IsDs (K : PySem.W.Frag) (H : Hp) : List V → List PyData → Prop
  | nil : IsDs K H [] []
  | cons {x : V} {d : PyData} {xs : List V} {ds : List PyData} : IsD K H x d → IsDs K H xs ds → IsDs K H (x :: xs) (d :: ds)
end
section
variable {X : Cx} {pins : List (Addr × Obj)} {σ : St} {H : Hp} {s : Shared}
mutual
theorem reads_of (I : Inv X pins σ H s) : ∀ {x : V} {d : PyData} {u : Value}, IsD X.K H x d → RelV x u → ∃ as, Reads s.heap u d as
  | _, _, _, .non, r => by cases r; exact ⟨_, .none⟩
  | _, _, _, .bl b, r => by cases r; exact ⟨_, .bool b⟩
  | _, _, _, .int i, r => by obtain ⟨t, rfl⟩ := r; exact ⟨_, .int i t⟩
  | _, _, _, .str y, r => by obtain ⟨t, rfl⟩ := r; exact ⟨_, .str y t⟩
  | _, _, _, .tup h hs, r => by
    cases r
    obtain ⟨its, rv, ⟨o, ho, hc, n, hd⟩, hz⟩ := I.tuple h
    obtain ⟨as, q⟩ := readsAll_of I hs rv
    exact ⟨_, .tuple ho hc hd (by simpa using q)⟩
  | _, _, _, .lst h hs, r => by
    cases r
    obtain ⟨its, rv, ⟨o, n, ho, hc, _, hd⟩, hz⟩ := I.list h
    obtain ⟨as, q⟩ := readsAll_of I hs rv
    exact ⟨_, .list ho hc hd (by simpa using q)⟩
theorem readsAll_of (I : Inv X pins σ H s) : ∀ {xs : List V} {ds : List PyData} {us : List Value}, IsDs X.K H xs ds → Vals xs us → ∃ as, ReadsAll s.heap us ds as
  | _, _, _, .nil, r => by cases r; exact ⟨_, .nil⟩
  | _, _, _, .cons h hs, r => by
    cases r with
    | cons r1 r2 =>
      obtain ⟨as, q⟩ := reads_of I h r1
      obtain ⟨bs, q'⟩ := readsAll_of I hs r2
      exact ⟨_, .cons q q'⟩
end
theorem op_eqD : OpR X (compareOp .Eq) (fun x y H Q => ∃ d d', IsD X.K H x d ∧ IsD X.K H y d' ∧ d.canLay0 = true ∧ d'.canLay0 = true ∧ X.A.units + d.depth < cLine ∧ Q (.bl (PyData.eqv d d')) H) := by
  intro pins s σ H x y v u Q I rx ry h
  obtain ⟨d, d', h1, h2, c1, c2, hu, q⟩ := h
  obtain ⟨as, r1⟩ := reads_of I h1 rx
  obtain ⟨bs, r2⟩ := reads_of I h2 ry
  exact SeqAt.compareEq_reads r1 r2 c1 c2 (by omega) (fin_bl I q rfl)
theorem op_neD : OpR X (compareOp .NotEq) (fun x y H Q => ∃ d d', IsD X.K H x d ∧ IsD X.K H y d' ∧ d.canLay0 = true ∧ d'.canLay0 = true ∧ X.A.units + d.depth < cLine ∧ Q (.bl (!PyData.eqv d d')) H) := by
  intro pins s σ H x y v u Q I rx ry h
  obtain ⟨d, d', h1, h2, c1, c2, hu, q⟩ := h
  obtain ⟨as, r1⟩ := reads_of I h1 rx
  obtain ⟨bs, r2⟩ := reads_of I h2 ry
  exact SeqAt.compareNe_reads r1 r2 c1 c2 (by omega) (fin_bl I q rfl)
end
theorem room_d {A : Around} {k n : Nat} (hr : Room k A) (h : n ≤ 64) : A.units + n < cLine := by
  have := hr.units
  omega
end Fr

set_option Elab.async false
set_option linter.all false
set_option maxRecDepth 100000
/-! Things of a known kind; making them grows the heap. -/
namespace Fr
open PySem PySem.Spec L2
open PyProof.Rows hiding St
theorem natAbs_fmod {a b : Int} (h : b ≠ 0) : (a.fmod b).natAbs < b.natAbs := by
  by_cases hb : 0 < b
  · have := Int.fmod_nonneg_of_pos a hb
    have := Int.fmod_lt_of_pos a hb
    omega
  · have hn : 0 < -b := by omega
    have h1 := Int.fmod_nonneg_of_pos (-a) hn
    have h2 := Int.fmod_lt_of_pos (-a) hn
    rw [Int.neg_fmod_neg] at h1 h2
    omega
inductive Kn (H : Hp) : V → Prop
  | non : Kn H .non
  | bl (b : Bool) : Kn H (.bl b)
  | int (i : Int) : Kn H (.int i)
  | str (x : Str) : Kn H (.str x)
  | lst {a : Addr} {xs : List V} (h : H a = some (.lst xs)) : Kn H (.ref a)
  | tup {a : Addr} {xs : List V} (h : H a = some (.tup xs)) : Kn H (.ref a)
theorem Kn.same {H H' : Hp} {v : V} (k : Kn H v) (s : Same H H') : Kn H' v := by
  cases k with
  | non => exact .non
  | bl b => exact .bl b
  | int i => exact .int i
  | str x => exact .str x
  | lst h => exact .lst (s _ _ h)
  | tup h => exact .tup (s _ _ h)
def isI : V → Bool
  | .int _ => true
  | _ => false
def isB : V → Bool
  | .bl _ => true
  | _ => false
/-- isinstance of int, of bool, of tuple -/
theorem Kn.ty {K : PySem.W.Frag} {H : Hp} {v : V} (k : Kn H v) : ∃ t, TyOf K H v t ∧ PySem.W.kitOne K t (.type "int") = some (isI v || isB v) ∧ PySem.W.kitOne K t (.type "bool") = some (isB v) := by
  cases k with
  | non => exact ⟨_, .non, rfl, rfl⟩
  | bl b => exact ⟨_, .bl b, rfl, rfl⟩
  | int i => exact ⟨_, .int i, rfl, rfl⟩
  | str x => exact ⟨_, .str x, rfl, rfl⟩
  | lst h => exact ⟨_, .lst h, rfl, rfl⟩
  | tup h => exact ⟨_, .tup h, rfl, rfl⟩
/-- a thing: of a known kind, and its parts, if it is a tuple -/
def Thing (H : Hp) (v : V) : Prop := Kn H v ∧ ∀ a xs, v = .ref a → H a = some (.tup xs) → ∀ x ∈ xs, Kn H x
theorem Thing.same {H H' : Hp} {v : V} (k : Thing H v) (s : Same H H') : Thing H' v := by
  refine ⟨k.1.same s, fun a xs e h x hx => ?_⟩
  subst e
  have : ∃ o, H a = some o := by
    cases k.1 with
    | lst h => exact ⟨_, h⟩
    | tup h => exact ⟨_, h⟩
  obtain ⟨o, ho⟩ := this
  have := s _ _ ho
  rw [h] at this
  cases this
  exact (k.2 a xs rfl ho x hx).same s
theorem Thing.sc {H : Hp} {v : V} (k : Kn H v) (n : ∀ a, v ≠ .ref a) : Thing H v := ⟨k, fun a _ e => absurd e (n a)⟩
theorem Thing.tup {H : Hp} {t : Addr} {xs : List V} (h : H t = some (.tup xs)) (k : ∀ x ∈ xs, Kn H x) : Thing H (.ref t) := ⟨.tup h, fun a ys e h' => by
  cases e
  rw [h] at h'
  cases h'
  exact k⟩
theorem Thing.lst {H : Hp} {t : Addr} {xs : List V} (h : H t = some (.lst xs)) : Thing H (.ref t) := ⟨.lst h, fun a ys e h' => by
  cases e
  rw [h] at h'
  cases h'⟩
/-! ### expressions that make things -/
section
variable {G : Hp → Prop} {R : Hp → V → Prop} {σ : St} {te : TE} {ta : TA} {n : Nat}
end
end Fr

set_option Elab.async false
set_option linter.all false
set_option maxRecDepth 100000
/-! A list comprehension with one name, without tests, whose element reads its own name and global names. -/
namespace Fr
open PySem PySem.Spec L2
open PyProof.Rows hiding St
section
variable {prog : Program} {w : World} {A : Around} {R : Result → Shared → Prop} {s : Shared}
/-- the block's loop, the iterator's own step kept -/
theorem compLoop_go {elt target iter : Expr} {scope : Scope} {pos : Pos} {it acc : Value} {env : Env} (J : Nat → Shared → Prop)
    (turn : ∀ n s, J n s → ∀ E : Value → Shared → Prop, wpAny (model prog w) A (pyNext it) (fun r s₁ => (r = none ∧ R (.ok .next) s₁) ∨ ∃ v, r = some v ∧
      wpAny (model prog w) A (letOwnedTupleGo target it v) (fun _ s₂ => wpAny (model prog w) A (assign target env v) (fun _ s₃ => wpAny (model prog w) A (eval elt env) (fun y s₄ =>
        wpAny (model prog w) A (call (.builtin "list.append") [acc, y]) (fun _ s₅ => ∃ m, m < n ∧ J m s₅) E s₄) E s₃) E s₂) E s₁) E s)
    (n : Nat) (h : J n s) : codeAny (model prog w) A (.compLoop (.ListComp elt [⟨target, iter, [], 0⟩] scope pos) 0 it acc env) R s := by
  refine codeAny_loop rfl J (fun n s hJ => ?_) n h
  refine wpAny_noted ?_
  rw [compTurn_list1]
  refine wpAny_bind (wpAny_standAt (wpAny_bind (thn (turn n s hJ _) fun r s₁ h₁ => ?_)))
  rcases h₁ with ⟨rfl, h₁⟩ | ⟨v, rfl, h₁⟩
  · exact wpAny_pure h₁
  · refine wpAny_bind (thn h₁ fun _ s₂ h₂ => wpAny_bind (thn h₂ fun _ s₃ h₃ => ?_))
    exact wpAny_bind (wpAny_bind (thn h₃ fun y s₄ h₄ => wpAny_bind (thn h₄ fun _ s₅ h₅ => wpAny_pure (wpAny_pure ⟨rfl, h₅⟩))))
end
section
variable {X : Cx} {pins : List (Addr × Obj)} {σ : St} {H : Hp} {s : Shared} {scope : Scope} {x : Str} {fp : List Addr}
/-- what the iterator's records are, seen from the block -/
structure FpIn (X : Cx) (pins : List (Addr × Obj)) (h : Heap) (fp : List Addr) : Prop where
  lt : ∀ b ∈ fp, b < h.objs.size
  loc : ∀ b ∈ fp, b ≠ X.env.locals
  fs : ∀ b ∈ fp, b ∉ X.fs
  own : ∀ b ∈ fp, b ∈ X.ex ∨ X.s₀.heap.objs.size ≤ b
  cl : ∀ b ∈ fp, ∀ x c, X.env.cells.lookup x = some c → c ≠ b
  pn : ∀ b ∈ fp, ∀ p ∈ X.pn ++ pins, p.1 ≠ b
theorem FpIn.stack (f : FpIn X pins s.heap fp) (I : Inv X pins σ H s) : ∀ b ∈ fp, b ∉ frs X.stack := fun b hb z => by
  rcases List.mem_cons.mp (I.stkSub b z) with e | e
  · exact f.loc b hb e
  · exact f.fs b hb e
theorem FpIn.base (f : FpIn X pins s.heap fp) (I : Inv X pins σ H s) : ∀ b o, X.base.get? b = some o → b ∉ fp := fun b o e hb => by
  rcases f.own b hb with z | z
  · exact I.ok.noex b o e z
  · exact absurd (Nat.lt_of_lt_of_le (Heap.lt_size (I.ok.bs b o e).1) z) (Nat.lt_irrefl _)
end
section
variable {X : Cx}
end
end Fr

set_option Elab.async false
set_option linter.all false
set_option maxRecDepth 100000
/-! for a, b in zip(one list, another): both read as they stand at each turn. -/
namespace Fr
open PySem PySem.Spec L2
open PyProof.Rows hiding St
section
variable {X : Cx} {pins : List (Addr × Obj)} {σ : St} {H : Hp} {s : Shared} {h' : Heap} {fp : List Addr}
end
section
variable {X : Cx}
end
end Fr

set_option linter.all false
/-! The division and its steps. -/
namespace Fr
open PySem
def NextTo (p q : Int × Int) : Prop := p.1 * q.2 - p.2 * q.1 = 1 ∨ p.1 * q.2 - p.2 * q.1 = -1
theorem NextTo.step {b l : Int × Int} (k : Int) (h : NextTo b l) : NextTo l (k * l.1 + b.1, k * l.2 + b.2) := by
  unfold NextTo at *
  simp only
  have e : l.1 * (k * l.2 + b.2) - l.2 * (k * l.1 + b.1) = -(b.1 * l.2 - b.2 * l.1) := by grind
  rw [e]
  omega
end Fr

set_option Elab.async false
set_option linter.all false
set_option maxRecDepth 100000
namespace Fr
open PySem PySem.Spec L2
open PyProof.Rows hiding St
/-! ### all(a list of True) -/
section
variable {X : Cx}
/-- divmod by a positive number: a new tuple -/
theorem call_divmodB : CallR X (.builtin "divmod") (fun xs H Q => ∃ i j, xs = [.int i, .int j] ∧ (0 < j ∧ j < 2 ^ 250) ∧ ∀ p, H p = none → Q (.ref p) (upd H p (.tup [.int (i / j), .int (i % j)]))) := by
  intro pins s σ H xs us Q I r h
  obtain ⟨i, j, rfl, ⟨h1, h2⟩, q⟩ := h
  obtain ⟨u, w', rfl, ⟨t, rfl⟩, ⟨t', rfl⟩⟩ := vals2 r
  refine divmod_int (by omega) ?_ (.inl (PyProof.noPylong_of_log2 (log2_le (by omega))))
  rw [Int.fdiv_eq_ediv_of_nonneg i (by omega), Int.fmod_eq_emod_of_nonneg i (by omega)]
  refine ⟨.ref s.heap.objs.size, _, I.laid (o := .tup [.int (i / j), .int (i % j)]) (fun b o e => Heap.get?_push_of_some _ e) (Nat.le_refl _) ⟨len2, [.int (i / j) s.toks, .int (i % j) (s.toks + 1)], .cons ⟨_, rfl⟩ (.cons ⟨_, rfl⟩ .nil), ?_⟩, rfl, q _ (I.hok.fresh (Nat.le_refl _))⟩
  exact ⟨_, Heap.get?_push_size s.heap rfl, rfl, 0, rfl⟩
/-- a product of wide numbers, by their bits -/
def CW (i j : Int) : Prop := ∃ n : Nat, i.natAbs < 2 ^ n ∧ j.natAbs < 2 ^ n ∧ n ≤ 2 ^ 20
theorem op_mulW : OpR X (binaryOp .Mult) (rI CW fun i j => .int (i * j)) := opI fun _ _ _ _ _ _ _ hc q => by
  obtain ⟨n, h1, h2, h3⟩ := hc
  exact mul_int q (IntMulOk.of_bits (Nat.le_trans (intBits_le_iff.mpr h1) h3) (Nat.le_trans (intBits_le_iff.mpr h2) h3))
theorem pe_gl {x : Str} {a : Addr} {pos : Pos} (hg : Gl X x) (hm : X.mg x = some (.ref a)) (hd : (x == ("__debug__" : Str)) = false := by decide) : PE X (.Name x pos) (tC (.ref a)) := pe_glob hg hm rfl hd
end
section
variable {X : Cx}
end
/-! ### what stays as the heap grows -/
theorem sqT_same {K : PySem.W.Frag} {H H' : Hp} {a : Addr} {xs : List V} (e : Same H H') (h : SqT K H a xs) : SqT K H' a xs := by
  rcases h with (h | ⟨o, h⟩) | h
  · exact .inl (.inl (e _ _ h))
  · exact .inl (.inr ⟨o, e _ _ h⟩)
  · exact .inr h
theorem sqT_keep {K : PySem.W.Frag} {H H' : Hp} {p a : Addr} {xs : List V} {zs : List V} (hp : H p = some (.lst zs)) (k : Keep p H H') (h : SqT K H a xs) : SqT K H' a xs := by
  rcases h with (h | ⟨o, h⟩) | h
  · exact .inl (.inl (k _ _ h (ne_of h hp (by intro z; cases z))))
  · exact .inl (.inr ⟨o, k _ _ h (ne_of h hp (by intro z; cases z))⟩)
  · exact .inr h
/-- a pair of numbers as a value; many of them -/
def PairV (K : PySem.W.Frag) (H : Hp) (v : V) (p : Int × Int) : Prop := ∃ a, v = .ref a ∧ SqT K H a [.int p.1, .int p.2]
theorem PairV.sq {K : PySem.W.Frag} {H : Hp} {a : Addr} {p : Int × Int} (h : PairV K H (.ref a) p) : SqT K H a [.int p.1, .int p.2] := by
  obtain ⟨b, e, r⟩ := h
  cases e
  exact r
def Pairs (K : PySem.W.Frag) (H : Hp) (vs : List V) (ps : List (Int × Int)) : Prop := Paired (PairV K H) vs ps
theorem PairV.same {K : PySem.W.Frag} {H H' : Hp} {v : V} {p : Int × Int} (h : PairV K H v p) (e : Same H H') : PairV K H' v p := let ⟨a, q, r⟩ := h; ⟨a, q, sqT_same e r⟩
theorem PairV.keep {K : PySem.W.Frag} {H H' : Hp} {v : V} {p : Int × Int} {l : Addr} {zs : List V} (h : PairV K H v p) (hp : H l = some (.lst zs)) (e : Keep l H H') : PairV K H' v p := let ⟨a, q, r⟩ := h; ⟨a, q, sqT_keep hp e r⟩
theorem Pairs.same {K : PySem.W.Frag} {H H' : Hp} {vs : List V} {ps : List (Int × Int)} (h : Pairs K H vs ps) (e : Same H H') : Pairs K H' vs ps := Paired.mapP h fun _ _ z => z.same e
theorem Pairs.keep {K : PySem.W.Frag} {H H' : Hp} {vs : List V} {ps : List (Int × Int)} {l : Addr} {zs : List V} (h : Pairs K H vs ps) (hp : H l = some (.lst zs)) (e : Keep l H H') : Pairs K H' vs ps := Paired.mapP h fun _ _ z => z.keep hp e
theorem Pairs.snoc {K : PySem.W.Frag} {H : Hp} {vs : List V} {ps : List (Int × Int)} {v : V} {p : Int × Int} (h : Pairs K H vs ps) (q : PairV K H v p) : Pairs K H (vs ++ [v]) (ps ++ [p]) := Paired.snoc h q
theorem Pairs.len {K : PySem.W.Frag} {H : Hp} {vs : List V} {ps : List (Int × Int)} (h : Pairs K H vs ps) : vs.length = ps.length := Paired.length h
theorem Paired.at {α β : Type} {F : α → β → Prop} : ∀ {l₁ : List α} {l₂ : List β} {i : Nat} {b : β}, Paired F l₁ l₂ → l₂[i]? = some b → ∃ a, l₁[i]? = some a ∧ F a b
  | _, _, _, _, .nil, e => by simp at e
  | _, _, 0, _, .cons r _, e => by simp at e; subst e; exact ⟨_, rfl, r⟩
  | _, _, i + 1, b, .cons _ t, e => by
    obtain ⟨a, h1, h2⟩ := Paired.at (i := i) (b := b) t (by simpa using e)
    exact ⟨a, by simpa using h1, h2⟩
theorem Paired.at' {α β : Type} {F : α → β → Prop} : ∀ {l₁ : List α} {l₂ : List β} {i : Nat} {a : α}, Paired F l₁ l₂ → l₁[i]? = some a → ∃ b, l₂[i]? = some b ∧ F a b
  | _, _, _, _, .nil, e => by simp at e
  | _, _, 0, _, .cons r _, e => by simp at e; subst e; exact ⟨_, rfl, r⟩
  | _, _, i + 1, b, .cons _ t, e => by
    obtain ⟨a, h1, h2⟩ := Paired.at' (i := i) (a := b) t (by simpa using e)
    exact ⟨a, by simpa using h1, h2⟩
def dat (p : Int × Int) : PyData := .tuple [.int p.1, .int p.2]
theorem PairV.isD {K : PySem.W.Frag} {H : Hp} {v : V} {p : Int × Int} (h : PairV K H v p) : IsD K H v (dat p) := by
  obtain ⟨a, rfl, r⟩ := h
  exact .tup r (.cons (.int _) (.cons (.int _) .nil))
theorem Pairs.isDs {K : PySem.W.Frag} {H : Hp} : ∀ {vs : List V} {ps : List (Int × Int)}, Pairs K H vs ps → IsDs K H vs (ps.map dat)
  | _, _, .nil => .nil
  | _, _, .cons r t => .cons r.isD (Pairs.isDs t)
theorem Paired.split {α β : Type} {F : α → β → Prop} : ∀ {l₁ : List α} {m₁ m₂ : List β}, Paired F l₁ (m₁ ++ m₂) → ∃ a₁ a₂, l₁ = a₁ ++ a₂ ∧ Paired F a₁ m₁ ∧ Paired F a₂ m₂
  | l₁, [], m₂, h => ⟨[], l₁, rfl, .nil, h⟩
  | _, b :: m₁, m₂, .cons r t => by
    obtain ⟨a₁, a₂, rfl, h1, h2⟩ := Paired.split t
    exact ⟨_ :: a₁, a₂, rfl, .cons r h1, h2⟩
end Fr

set_option Elab.async false
set_option linter.all false
set_option maxRecDepth 100000
/-! a[::-1], insert, count. -/
namespace Fr
open PySem PySem.Spec L2
open PyProof.Rows hiding St
section
variable {X : Cx} {e : Expr} {te : TE} {pos p2 : Pos}
end
end Fr

set_option Elab.async false
set_option linter.all false
namespace PySem
open Sem (wp)
namespace Heap
def TracedV (h base : Heap) (e : Addr) (cls a0 : Value) : Prop :=
  ∃ oe vs T oT ts, h.get? e = some oe ∧ (oe.cls = cls ∧ vs[0]? = some a0 ∧ vs[2]? = some .none) ∧ oe.data = .fields vs ∧ vs[1]? = some (.ref T) ∧ base.get? T = none ∧ T ≠ e ∧ h.get? T = some oT ∧ oT.data = .fields ts ∧ ts[3]? = some .none

def TracedAtV (h base : Heap) (e : Addr) (cls a0 fl : Value) : Prop :=
  ∃ oe vs T oT ts, h.get? e = some oe ∧ (oe.cls = cls ∧ vs[0]? = some a0 ∧ vs[2]? = some .none) ∧ oe.data = .fields vs ∧ vs[1]? = some (.ref T) ∧ base.get? T = none ∧ T ≠ e ∧ h.get? T = some oT ∧ oT.data = .fields ts ∧ ts[3]? = some fl
theorem TracedV.at {h base : Heap} {e : Addr} {cls a0 : Value} (x : h.TracedV base e cls a0) : h.TracedAtV base e cls a0 .none := x
theorem TracedAtV.there {h base : Heap} {e : Addr} {cls a0 fl : Value} (x : h.TracedAtV base e cls a0 fl) : ∃ ob, h.get? e = some ob ∧ ob.cls = cls := by
  obtain ⟨oe, _, _, _, _, he, hc, _⟩ := x
  exact ⟨oe, he, hc.1⟩

def NotedV (base : Heap) (l : List Env) (e : Addr) (cls a0 fl : Value) (h h' : Heap) : Prop :=
  base.StaysIn h' ∧ h'.FunFrames base l ∧ h'.TracedAtV base e cls a0 fl ∧ ∀ b o, h.get? b = some o → (∀ vs, o.data ≠ .fields vs) → ∃ sl, h'.get? b = some { o with slots := sl }
end Heap

section
variable {M : Model} {A : Around} {E : Value → Shared → Prop} {s : Shared}

def Heap.LeftV (base : Heap) (l : List Env) (e : Addr) (cls a0 : Value) (h h' : Heap) : Prop :=
  base.StaysIn h' ∧ h'.FunFrames base l ∧ h'.TracedV base e cls a0 ∧
    ∀ b o, h.get? b = some o → (∀ vs, o.data ≠ .fields vs) → ∃ sl, h'.get? b = some { o with slots := sl }

theorem wpAny_newEntryV {base : Heap} {env : Env} {outer : List Env} {L e : Addr} {oe : Obj} {vs : Array Value} {head a0 : Value} {hadNext : Bool} {Q : Unit → Shared → Prop}
    (hfr : A.frames = some (env :: outer)) (hl : s.heap.FunFrames base (env :: outer)) (hf : env.frame = some L)
    (he : s.heap.get? e = some oe) (hkb : base.StaysIn s.heap) (hen : base.get? e = none) (hd : oe.data = .fields vs) (hsz : 1 < vs.size) (h0 : vs[0]? = some a0 ∧ vs[2]? = some .none)
    (h : ∀ h', Heap.LeftV base (env :: outer) e oe.cls a0 s.heap h' → Q () { s with heap := h' }) :
    wpAny M A (do let a ← frameOf env; let pl ← entryPlaceOf L hadNext; let b ← EntryCells.newEntry head a .none (rawInt L) .none pl; setField (.ref e) 1 b) (fun _ s' => wpAny M A (setFlight (.ref e) none) Q E s') E s := by
  have hene : e ∉ (env :: outer).filterMap (·.frame) := fun hm => by
    obtain ⟨_, o, ho, hnf⟩ := hl.mem hm
    rw [he] at ho; injection ho with ho; subst ho; exact hnf vs hd
  refine wpAny_bind (wpAny_frameOf_fun hfr hl hf fun h₁ hs₁ => ?_)
  refine wpAny_bind (wpAny_entryPlaceOf fun pl hpl => ?_)
  unfold EntryCells.newEntry newFields
  refine wpAny_bind (wpAny_newObj_type ?_ (hpl.sizeOk5 _ _ _ _ _))
  have he₁ : h₁.get? e = some oe := (hs₁.2.1 e hene).trans he
  have kb₁ : base.StaysIn h₁ := fun b o hbo => (hs₁.2.1 b fun hm => by rw [(hl.mem hm).1] at hbo; cases hbo).trans (hkb b o hbo)
  have he₂ := Heap.get?_push_of_some (h := h₁) { cls := .type "traceback", dict := none, data := .fields ([head, .ref L, .none, rawInt L, .none] ++ (if pl.isEmpty then List.replicate 6 Value.none else pl)).toArray } he₁
  refine wpAny_setField he₂ hd hsz ?_
  have hTe : h₁.objs.size ≠ e := Nat.ne_of_gt (Heap.lt_size he₁)
  have hd₃ := Obj.data_mapFields hd (·.setIfInBounds 1 (Value.ref h₁.objs.size))
  have he₃ := Heap.get?_update_self (Obj.mapFields (·.setIfInBounds 1 (Value.ref h₁.objs.size))) he₂ (Obj.isFreed_of_fields hd₃)
  have hT₃ := (Heap.get?_update_other (h₁.push { cls := .type "traceback", dict := none, data := .fields ([head, .ref L, .none, rawInt L, .none] ++ (if pl.isEmpty then List.replicate 6 Value.none else pl)).toArray })
    (Obj.mapFields (·.setIfInBounds 1 (Value.ref h₁.objs.size))) (Ne.symm hTe)).trans (Heap.get?_push_size h₁ rfl)
  unfold setFlight
  refine wpAny_bind (wpAny_field he₃ hd₃ (x := .ref h₁.objs.size) (by simp [hsz]) ?_)
  rw [if_pos (show (Value.ref h₁.objs.size != Value.none) = true from by simp)]
  refine wpAny_setField hT₃ rfl (by simp only [List.size_toArray, List.length_append, List.length_cons, List.length_nil] <;> omega) (h _ ?_)

  have keep : ∀ b o, b ≠ e → h₁.get? b = some o →
      (((h₁.push { cls := .type "traceback", dict := none, data := .fields ([head, .ref L, .none, rawInt L, .none] ++ (if pl.isEmpty then List.replicate 6 Value.none else pl)).toArray }).update e (Obj.mapFields (·.setIfInBounds 1 (Value.ref h₁.objs.size)))).update h₁.objs.size
        (Obj.mapFields (·.setIfInBounds 3 ((none : Option Addr).elim Value.none fun f => rawInt f)))).get? b = some o := fun b o hbe hb => by
    have hbT : h₁.objs.size ≠ b := Nat.ne_of_gt (Heap.lt_size hb)
    rw [Heap.get?_update_other _ _ hbT, Heap.get?_update_other _ _ (Ne.symm hbe)]
    exact Heap.get?_push_of_some _ hb
  have noRecord : ∀ b o, s.heap.get? b = some o → (∀ vs, o.data ≠ .fields vs) → b ≠ e := fun b o hb hnf q => by
    rw [q, he] at hb; injection hb with hb; subst hb; exact hnf vs hd
  refine ⟨fun b o hbo => keep b o (fun q => by rw [q, hen] at hbo; cases hbo) (kb₁ b o hbo), hl.of_keeps fun b o hb hnf => ?_, ?_, fun b o hb hnf => ?_⟩
  · obtain ⟨sl, hs⟩ := hs₁.2.2 b o hb
    exact ⟨_, keep b _ (noRecord b o hb hnf) hs, rfl⟩
  · refine ⟨_, _, h₁.objs.size, _, _, ?_, ⟨Obj.cls_mapFields _ _, ⟨by rw [Array.getElem?_setIfInBounds_ne (by decide)]; exact h0.1, by rw [Array.getElem?_setIfInBounds_ne (by decide)]; exact h0.2⟩⟩, hd₃, by simp [hsz], kb₁.fresh, hTe, Heap.get?_update_self _ hT₃ (Obj.isFreed_of_fields (Obj.data_mapFields rfl _)), Obj.data_mapFields rfl _, by first | (simp; done) | (rcases hpl with rfl | ⟨_, _, _, _, _, _, _, rfl⟩ <;> simp)⟩
    rw [Heap.get?_update_other _ _ hTe]; exact he₃
  · obtain ⟨sl, hs⟩ := hs₁.2.2 b o hb
    exact ⟨sl, keep b _ (noRecord b o hb hnf) hs⟩

theorem wpAny_leaving_firstV {base : Heap} {env : Env} {outer : List Env} {L e : Addr} {oe : Obj} {vs : Array Value} {a0 : Value} {Q : Unit → Shared → Prop}
    (hfr : A.frames = some (env :: outer)) (hl : s.heap.FunFrames base (env :: outer)) (hf : env.frame = some L)
    (he : s.heap.get? e = some oe) (hkb : base.StaysIn s.heap) (hen : base.get? e = none) (hd : oe.data = .fields vs) (h1 : vs[1]? = some .none) (h0 : vs[0]? = some a0 ∧ vs[2]? = some .none)
    (h : ∀ h', Heap.LeftV base (env :: outer) e oe.cls a0 s.heap h' → Q () { s with heap := h' }) : wpAny M A (leaving env (.ref e)) Q E s := by
  unfold leaving noteFrame
  simp only [hf]
  refine wpAny_bind (wpAny_bind (wpAny_field he hd h1 ?_))
  rw [if_neg (by decide)]
  exact wpAny_newEntryV hfr hl hf he hkb hen hd (Array.getElem?_eq_some_iff.mp h1).1 h0 h

theorem wpAny_leaving_nextV {base : Heap} {env : Env} {outer : List Env} {L e : Addr} {cls a0 : Value} {Q : Unit → Shared → Prop}
    (hfr : A.frames = some (env :: outer)) (hl : s.heap.FunFrames base (env :: outer)) (hf : env.frame = some L) (ht : s.heap.TracedV base e cls a0) (hkb : base.StaysIn s.heap) (hen : base.get? e = none)
    (h : ∀ h', Heap.LeftV base (env :: outer) e cls a0 s.heap h' → Q () { s with heap := h' }) : wpAny M A (leaving env (.ref e)) Q E s := by
  obtain ⟨oe, vs, T, oT, ts, he, ⟨hcls, h0⟩, hd, h1, hnT, hTe, hT, hdT, h3⟩ := ht
  subst hcls
  unfold leaving noteFrame
  simp only [hf]
  refine wpAny_bind (wpAny_bind (wpAny_field he hd h1 ?_))
  rw [if_pos (show (Value.ref T != Value.none) = true from by simp)]
  refine wpAny_bind (wpAny_field hT hdT h3 ?_)
  rw [if_neg (show ¬ ((Value.none == rawInt L) = true) from by simp [rawInt])]
  refine wpAny_bind (wpAny_setField hT hdT (Array.getElem?_eq_some_iff.mp h3).1 ?_)

  have other : ∀ b, b ≠ T → (s.heap.update T (Obj.mapFields (·.setIfInBounds 3 Value.none))).get? b = s.heap.get? b := fun b hb => Heap.get?_update_other _ _ (Ne.symm hb)
  have noRecord : ∀ b o, s.heap.get? b = some o → (∀ vs, o.data ≠ .fields vs) → b ≠ T := fun b o hb hnf q => by
    rw [q, hT] at hb; injection hb with hb; subst hb; exact hnf ts hdT
  refine wpAny_newEntryV hfr (hl.of_keeps fun b o hb hnf => ⟨o, (other b (noRecord b o hb hnf)).trans hb, rfl⟩) hf ((other e (Ne.symm hTe)).trans he)
    (fun b o hbo => (other b fun q => by rw [q, hnT] at hbo; cases hbo).trans (hkb b o hbo)) hen hd (Array.getElem?_eq_some_iff.mp h1).1 h0
    fun h' ⟨x1, x2, x3, x4⟩ => h h' ⟨x1, x2, x3, fun b o hb hnf => x4 b o ((other b (noRecord b o hb hnf)).trans hb) hnf⟩

def Heap.FlyingV (base : Heap) (l : List Env) (e : Addr) (cls a0 : Value) (h : Heap) : Prop :=
  base.StaysIn h ∧ base.get? e = none ∧ h.FunFrames base l ∧ h.TracedV base e cls a0
theorem Heap.FlyingV.there {base h : Heap} {l : List Env} {e : Addr} {cls a0 : Value} (x : Heap.FlyingV base l e cls a0 h) : ∃ ob, h.get? e = some ob ∧ ob.cls = cls := by
  obtain ⟨_, _, _, oe, _, _, _, _, he, hc, _⟩ := x
  exact ⟨oe, he, hc.1⟩

theorem wpAny_leaves_onV {base : Heap} {env : Env} {outer : List Env} {L e : Addr} {cls a0 : Value} {Q : Unit → Shared → Prop}
    (hfr : A.frames = some (env :: outer)) (hf : env.frame = some L) (hfl : Heap.FlyingV base (env :: outer) e cls a0 s.heap)
    (hQ : ∀ h', Heap.FlyingV base outer e cls a0 h' → s.heap.UpToSlots h' → Q () { s with heap := h' }) : wpAny M A (leaving env (.ref e)) Q E s := by
  obtain ⟨f1, f2, f3, f4⟩ := hfl
  refine wpAny_leaving_nextV hfr f3 hf f4 f1 f2 fun h' hL => ?_
  obtain ⟨k1, ⟨_, _, k2⟩, k3, k4⟩ := hL
  exact hQ h' ⟨k1, f2, k2, k3⟩ k4

theorem wpAny_entryV {base : Heap} {env : Env} {outer : List Env} {L e : Addr} {oe : Obj} {vs : Array Value} {head a0 : Value} {hadNext : Bool} {Q : Unit → Shared → Prop}
    (hfr : A.frames = some (env :: outer)) (hl : s.heap.FunFrames base (env :: outer)) (hf : env.frame = some L)
    (he : s.heap.get? e = some oe) (hkb : base.StaysIn s.heap) (hen : base.get? e = none) (hd : oe.data = .fields vs) (hsz : 1 < vs.size) (h0 : vs[0]? = some a0 ∧ vs[2]? = some .none)
    (h : ∀ h', Heap.NotedV base (env :: outer) e oe.cls a0 (rawInt L) s.heap h' → Q () { s with heap := h' }) :
    wpAny M A (do let a ← frameOf env; let pl ← entryPlaceOf L hadNext; let b ← EntryCells.newEntry head a .none (rawInt L) .none pl; setField (.ref e) 1 b) Q E s := by
  have hene : e ∉ (env :: outer).filterMap (·.frame) := fun hm => by
    obtain ⟨_, o, ho, hnf⟩ := hl.mem hm
    rw [he] at ho; injection ho with ho; subst ho; exact hnf vs hd
  refine wpAny_bind (wpAny_frameOf_fun hfr hl hf fun h₁ hs₁ => ?_)
  refine wpAny_bind (wpAny_entryPlaceOf fun pl hpl => ?_)
  unfold EntryCells.newEntry newFields
  refine wpAny_bind (wpAny_newObj_type ?_ (hpl.sizeOk5 _ _ _ _ _))
  have he₁ : h₁.get? e = some oe := (hs₁.2.1 e hene).trans he
  have kb₁ : base.StaysIn h₁ := fun b o hbo => (hs₁.2.1 b fun hm => by rw [(hl.mem hm).1] at hbo; cases hbo).trans (hkb b o hbo)
  have he₂ := Heap.get?_push_of_some (h := h₁) { cls := .type "traceback", dict := none, data := .fields ([head, .ref L, .none, rawInt L, .none] ++ (if pl.isEmpty then List.replicate 6 Value.none else pl)).toArray } he₁
  refine wpAny_setField he₂ hd hsz (h _ ?_)
  have hTe : h₁.objs.size ≠ e := Nat.ne_of_gt (Heap.lt_size he₁)
  have hd₃ := Obj.data_mapFields hd (·.setIfInBounds 1 (Value.ref h₁.objs.size))
  have he₃ := Heap.get?_update_self (Obj.mapFields (·.setIfInBounds 1 (Value.ref h₁.objs.size))) he₂ (Obj.isFreed_of_fields hd₃)
  have hT₃ := (Heap.get?_update_other (h₁.push { cls := .type "traceback", dict := none, data := .fields ([head, .ref L, .none, rawInt L, .none] ++ (if pl.isEmpty then List.replicate 6 Value.none else pl)).toArray })
    (Obj.mapFields (·.setIfInBounds 1 (Value.ref h₁.objs.size))) (Ne.symm hTe)).trans (Heap.get?_push_size h₁ rfl)
  have keep : ∀ b o, b ≠ e → h₁.get? b = some o →
      ((h₁.push { cls := .type "traceback", dict := none, data := .fields ([head, .ref L, .none, rawInt L, .none] ++ (if pl.isEmpty then List.replicate 6 Value.none else pl)).toArray }).update e (Obj.mapFields (·.setIfInBounds 1 (Value.ref h₁.objs.size)))).get? b = some o :=
    fun b o hbe hb => by
      rw [Heap.get?_update_other _ _ (Ne.symm hbe)]
      exact Heap.get?_push_of_some _ hb
  have noRecord : ∀ b o, s.heap.get? b = some o → (∀ vs, o.data ≠ .fields vs) → b ≠ e := fun b o hb hnf q => by
    rw [q, he] at hb; injection hb with hb; subst hb; exact hnf vs hd
  refine ⟨fun b o hbo => keep b o (fun q => by rw [q, hen] at hbo; cases hbo) (kb₁ b o hbo), hl.of_keeps fun b o hb hnf => ?_, ?_, fun b o hb hnf => ?_⟩
  · obtain ⟨sl, hs⟩ := hs₁.2.2 b o hb
    exact ⟨_, keep b _ (noRecord b o hb hnf) hs, rfl⟩
  · exact ⟨_, _, h₁.objs.size, _, _, he₃, ⟨Obj.cls_mapFields _ _, ⟨by rw [Array.getElem?_setIfInBounds_ne (by decide)]; exact h0.1, by rw [Array.getElem?_setIfInBounds_ne (by decide)]; exact h0.2⟩⟩, hd₃, by simp [hsz], kb₁.fresh, hTe, hT₃, rfl, by first | (simp; done) | (rcases hpl with rfl | ⟨_, _, _, _, _, _, _, rfl⟩ <;> simp)⟩
  · obtain ⟨sl, hs⟩ := hs₁.2.2 b o hb
    exact ⟨sl, keep b _ (noRecord b o hb hnf) hs⟩

theorem wpAny_noteFrame_onV {base : Heap} {env : Env} {outer : List Env} {L e : Addr} {cls a0 : Value} {Q : Unit → Shared → Prop}
    (hfr : A.frames = some (env :: outer)) (hl : s.heap.FunFrames base (env :: outer)) (hf : env.frame = some L) (ht : s.heap.TracedV base e cls a0) (hkb : base.StaysIn s.heap) (hen : base.get? e = none)
    (h : ∀ h', Heap.NotedV base (env :: outer) e cls a0 (rawInt L) s.heap h' → Q () { s with heap := h' }) : wpAny M A (noteFrame (.ref e) env) Q E s := by
  obtain ⟨oe, vs, T, oT, ts, he, ⟨hcls, h0⟩, hd, h1, hnT, hTe, hT, hdT, h3⟩ := ht
  subst hcls
  unfold noteFrame
  simp only [hf]
  refine wpAny_bind (wpAny_field he hd h1 ?_)
  rw [if_pos (show (Value.ref T != Value.none) = true from by simp)]
  refine wpAny_bind (wpAny_field hT hdT h3 ?_)
  rw [if_neg (show ¬ ((Value.none == rawInt L) = true) from by simp [rawInt])]
  refine wpAny_bind (wpAny_setField hT hdT (Array.getElem?_eq_some_iff.mp h3).1 ?_)
  have other : ∀ b, b ≠ T → (s.heap.update T (Obj.mapFields (·.setIfInBounds 3 Value.none))).get? b = s.heap.get? b := fun b hb => Heap.get?_update_other _ _ (Ne.symm hb)
  have noRecord : ∀ b o, s.heap.get? b = some o → (∀ vs, o.data ≠ .fields vs) → b ≠ T := fun b o hb hnf q => by
    rw [q, hT] at hb; injection hb with hb; subst hb; exact hnf ts hdT
  refine wpAny_entryV hfr (hl.of_keeps fun b o hb hnf => ⟨o, (other b (noRecord b o hb hnf)).trans hb, rfl⟩) hf ((other e (Ne.symm hTe)).trans he)
    (fun b o hbo => (other b fun q => by rw [q, hnT] at hbo; cases hbo).trans (hkb b o hbo)) hen hd (Array.getElem?_eq_some_iff.mp h1).1 h0
    fun h' ⟨x1, x2, x3, x4⟩ => h h' ⟨x1, x2, x3, fun b o hb hnf => x4 b o ((other b (noRecord b o hb hnf)).trans hb) hnf⟩

theorem wpAny_setFlight_noneV {base : Heap} {l : List Env} {e : Addr} {cls a0 fl : Value} {Q : Unit → Shared → Prop}
    (hkb : base.StaysIn s.heap) (hl : s.heap.FunFrames base l) (ht : s.heap.TracedAtV base e cls a0 fl)
    (h : ∀ h', base.StaysIn h' → h'.FunFrames base l → h'.TracedV base e cls a0 → (∀ b o, s.heap.get? b = some o → (∀ vs, o.data ≠ .fields vs) → h'.get? b = some o) → Q () { s with heap := h' }) :
    wpAny M A (setFlight (.ref e) none) Q E s := by
  obtain ⟨oe, vs, T, oT, ts, he, hcls, hd, h1, hnT, hTe, hT, hdT, h3⟩ := ht
  have hsz3 : 3 < ts.size := (Array.getElem?_eq_some_iff.mp h3).1
  have other : ∀ b, b ≠ T → (s.heap.update T (Obj.mapFields (·.setIfInBounds 3 ((none : Option Addr).elim Value.none fun f => rawInt f)))).get? b = s.heap.get? b :=
    fun b hb => Heap.get?_update_other _ _ (Ne.symm hb)
  have noRecord : ∀ b o, s.heap.get? b = some o → (∀ vs, o.data ≠ .fields vs) → b ≠ T := fun b o hb hnf q => by
    rw [q, hT] at hb; injection hb with hb; subst hb; exact hnf ts hdT
  unfold setFlight
  refine wpAny_bind (wpAny_field he hd h1 ?_)
  rw [if_pos (show (Value.ref T != Value.none) = true from by simp)]
  refine wpAny_setField hT hdT hsz3 (h _ (fun b o hbo => (other b fun q => by rw [q, hnT] at hbo; cases hbo).trans (hkb b o hbo))
    (hl.of_keeps fun b o hb hnf => ⟨o, (other b (noRecord b o hb hnf)).trans hb, rfl⟩) ?_ fun b o hb hnf => (other b (noRecord b o hb hnf)).trans hb)
  exact ⟨oe, vs, T, _, _, (other e (Ne.symm hTe)).trans he, hcls, hd, h1, hnT, hTe, Heap.get?_update_self _ hT (Obj.isFreed_of_fields (Obj.data_mapFields hdT _)), Obj.data_mapFields hdT _, by simp [hsz3]⟩

def Heap.HeldV (base : Heap) (l : List Env) (e : Addr) (cls a0 : Value) (L : Addr) (h : Heap) : Prop :=
  base.StaysIn h ∧ base.get? e = none ∧ h.FunFrames base l ∧ h.TracedAtV base e cls a0 (rawInt L)
theorem Heap.HeldV.there {base h : Heap} {l : List Env} {e L : Addr} {cls a0 : Value} (x : Heap.HeldV base l e cls a0 L h) : ∃ ob, h.get? e = some ob ∧ ob.cls = cls := x.2.2.2.there

theorem wpAny_looks_onV {base : Heap} {env : Env} {outer : List Env} {L e : Addr} {cls a0 : Value} {Q : Unit → Shared → Prop}
    (hfr : A.frames = some (env :: outer)) (hf : env.frame = some L) (hfl : Heap.FlyingV base (env :: outer) e cls a0 s.heap)
    (hQ : ∀ h', Heap.HeldV base (env :: outer) e cls a0 L h' → s.heap.UpToSlots h' → Q () { s with heap := h' }) : wpAny M A (noteFrame (.ref e) env) Q E s := by
  obtain ⟨f1, f2, f3, f4⟩ := hfl
  refine wpAny_noteFrame_onV hfr f3 hf f4 f1 f2 fun h' hN => ?_
  obtain ⟨k1, k2, k3, k4⟩ := hN
  exact hQ h' ⟨k1, f2, k2, k3⟩ k4

theorem wpAny_landsV {base : Heap} {l : List Env} {e L : Addr} {cls a0 : Value} {Q : Unit → Shared → Prop} (hh : Heap.HeldV base l e cls a0 L s.heap)
    (hQ : ∀ h', Heap.FlyingV base l e cls a0 h' → s.heap.UpToSlots h' → Q () { s with heap := h' }) : wpAny M A (setFlight (.ref e) none) Q E s := by
  obtain ⟨f1, f2, f3, f4⟩ := hh
  exact wpAny_setFlight_noneV f1 f3 f4 fun h' k1 k2 k3 k4 => hQ h' ⟨k1, f2, k2, k3⟩ fun b o hb hn => ⟨o.slots, k4 b o hb hn⟩

theorem wpAny_leaves_madeV {base h : Heap} {env : Env} {outer : List Env} {L e : Addr} {cls : Value} {args : List Value} {Q : Unit → Shared → Prop}
    (hfr : A.frames = some (env :: outer)) (hf : env.frame = some L) (hkb : base.StaysIn h) (hl : h.FunFrames base (env :: outer)) (hx : Heap.MadeExcOf h s.heap e cls args)
    (hQ : ∀ h' t, Heap.FlyingV base outer e cls (.ref t) h' → h'.TupAt t args → base.get? t = none → s.heap.UpToSlots h' → Q () { s with heap := h' }) : wpAny M A (leaving env (.ref e)) Q E s := by
  obtain ⟨t, he, htn, ht⟩ := hx.there
  have fresh : ∀ b, h.get? b = none → base.get? b = none := fun b hb => by
    cases hq : base.get? b with
    | none => rfl
    | some o' => have := hkb b o' hq; rw [hb] at this; cases this
  refine wpAny_leaving_firstV (a0 := .ref t) hfr (hl.of_keeps fun b o hb _ => ⟨o, hx.keeps b o hb, rfl⟩) hf he (fun b o hb => hx.keeps b o (hkb b o hb)) (fresh e hx.new) rfl rfl ⟨rfl, rfl⟩ fun h' hL => ?_
  obtain ⟨k1, ⟨_, _, k2⟩, k3, k4⟩ := hL
  exact hQ h' t ⟨k1, fresh e hx.new, k2, k3⟩ (Heap.TupAt.of_slots ⟨_, _, ht, rfl, rfl⟩ k4) (fresh t htn) k4

end

theorem lands_againV {M : Model} {A : Around} {E : Value → Shared → Prop} {s : Shared} {base : Heap} {l : List Env} {e : Addr} {cls a0 : Value} {Q : Unit → Shared → Prop} (hh : Heap.FlyingV base l e cls a0 s.heap)
    (hQ : ∀ h', Heap.FlyingV base l e cls a0 h' → s.heap.UpToSlots h' → Q () { s with heap := h' }) : wpAny M A (setFlight (.ref e) none) Q E s := by
  obtain ⟨f1, f2, f3, f4⟩ := hh
  exact wpAny_setFlight_noneV f1 f3 f4.at fun h' k1 k2 k3 k4 => hQ h' ⟨k1, f2, k2, k3⟩ fun b o hb hn => ⟨o.slots, k4 b o hb hn⟩


end PySem

set_option Elab.async false
set_option linter.all false
set_option maxRecDepth 100000
set_option maxHeartbeats 4000000
/-! isinstance of an exception of an own class; count and index of truths. -/
namespace Fr
open PySem PySem.Spec L2
open PyProof.Rows hiding St
open Sem (wp)

/-- what is asked of the class of an exception, over the text's fragment -/
structure ExcK (K : PySem.W.Frag) (C : Addr) : Prop where
  ga : PySem.W.findIn K (.ref C) "__getattribute__" = some (some (.builtin "BaseException.__getattribute__"))
  gt : PySem.W.findIn K (.ref C) "__getattr__" = some none
  cl : PySem.W.findIn K (.ref C) "__class__" = some (some (.builtin "object.__class__"))
  mb : PySem.W.mroIn K C (.type "BaseException") = some true
  mo : PySem.W.mroIn K C (.type "object") = some true
  is : ∃ c d cd sl, K.lookup C = some ⟨c, d, .cls cd, sl⟩

section
variable {prog : Program} {w : World} {A : Around} {E : Value → Shared → Prop} {h : Heap} {g : Array GenState} {d : Drawn} {t : Nat} {os : OsState} {a C : Addr} {o : Obj} {K : PySem.W.Frag}

theorem ex_class_get {R : Result → Shared → Prop} (X : K.In h) (Z : ExcK K C) (hx : h.get? a = some o) (hc : o.cls = .ref C) (hq : R (.ok (.ret (.ref C))) ⟨h, g, d, t, os⟩) :
    codeAny (model prog w) A (.call (.builtin "getset_descriptor.__get__") ⟨[.builtin "object.__class__", .ref a, .ref C], []⟩) R ⟨h, g, d, t, os⟩ := by
  have dsc : (⟨h, g, d, t, os⟩ : Shared).TypeIs (.builtin "object.__class__") "getset_descriptor" := F.typeOf_object_class
  have L := PySem.W.looks_mroIn (M := model prog w) X Z.mo
  refine codeAny_call_builtin F.slot_gs_get.plain F.entry_gs_get (F.slot_gs_get.check _ _ _ _ _ _ _ _ dsc (F.args_gs_get _ _ _) ?_)
  have e0 := F.owner_object_class
  repeat (any_goals (first | assumption | (with_reducible refine wpAny_loadPart_at hx ?_; rw [hc]) | (rw [e0]; with_reducible refine L.here ?_) | (with_reducible refine L.here ?_) | wp_step))
  refine And.intro (Code.quiet_builtin _ (by decide +kernel)) (codeAny_builtin F.entry_object_class ?_)
  repeat (any_goals (first | assumption | (with_reducible refine wpAny_loadPart_at hx ?_; rw [hc]) | wp_step))

theorem ex_check_ga {M : Model} {nameV : Value} {Q : Unit → Shared → Prop} (X : K.In h) (Z : ExcK K C) (hx : h.get? a = some o) (hc : o.cls = .ref C) (hq : Q () ⟨h, g, d, t, os⟩) :
    wpAny M A (checkBuiltinCall "BaseException.__getattribute__" ⟨[.ref a, nameV], []⟩) Q E ⟨h, g, d, t, os⟩ := by
  have kdE : builtinKind "BaseException.__getattribute__" = some .slot := by decide +kernel
  have spE : splitId "BaseException.__getattribute__" = some ("BaseException", "__getattribute__") := by decide +kernel
  have L := PySem.W.looks_mroIn (M := M) X Z.mb
  have arE := F.args_bexc_ga (.ref a) nameV
  simp only [checkBuiltinCall, kdE, spE]
  refine wpAny_bind ?_
  · unfold isInstance
    repeat (first | (with_reducible refine wpAny_loadPart_at hx ?_; rw [hc]) | (with_reducible refine L.here ?_) | wp_step)
    exact hq

theorem ex_class_entry {tk : Tok} {Q : Fin → Shared → Prop} (X : K.In h) (Z : ExcK K C) (hx : h.get? a = some o) (hc : o.cls = .ref C) (hq : Q (.done (.ret (.ref C))) ⟨h, g, d, t, os⟩) :
    wpAny (model prog w) A
      (Builtin.«object.__getattribute__» ⟨[.ref a, .str "__class__" tk], []⟩) Q E ⟨h, g, d, t, os⟩ := by
  have dsc : (⟨h, g, d, t, os⟩ : Shared).TypeIs (.builtin "object.__class__") "getset_descriptor" := F.typeOf_object_class
  have L := PySem.W.looks_findIn (M := model prog w) X Z.cl
  have t5 : typeOf (.builtin "object.__class__") = _ := F.typeOf_object_class
  have g6 := F.slot_gs_get.lookup
  have g7 := F.slot_gs_set.lookup
  repeat (any_goals (first | assumption | (with_reducible refine wpAny_loadPart_at hx ?_; rw [hc]) | (with_reducible refine L.here ?_) | wp_step))
  refine ex_class_get X Z hx hc ?_
  repeat any_goals (first | assumption | wp_step)

theorem ex_class_call {tk : Tok} {R : Result → Shared → Prop} (X : K.In h) (Z : ExcK K C) (hx : h.get? a = some o) (hc : o.cls = .ref C) (hq : R (.ok (.ret (.ref C))) ⟨h, g, d, t, os⟩) :
    codeAny (model prog w) A (.call (.builtin "BaseException.__getattribute__") ⟨[.ref a, .str "__class__" tk], []⟩) R ⟨h, g, d, t, os⟩ :=
  codeAny_call_builtin PySem.F.attr_ValueError.ga.plain F.entry_bexc_ga (ex_check_ga X Z hx hc (ex_class_entry X Z hx hc hq))

theorem ex_class_by {tk : Tok} {Q : Value → Shared → Prop} (X : K.In h) (Z : ExcK K C) (hx : h.get? a = some o) (hc : o.cls = .ref C) (hq : Q (.ref C) ⟨h, g, d, t, os⟩) :
    wpAny (model prog w) A (getAttrBy (.ref a) (.str "__class__" tk) false) Q E ⟨h, g, d, t, os⟩ := by
  have f3 := PySem.F.attr_ValueError.ga.bind (.ref a)
  have L1 := PySem.W.looks_findIn (M := model prog w) X Z.ga
  have L2' := PySem.W.looks_findIn (M := model prog w) X Z.gt
  have ne0 : ∀ expr, (expr && onTheHeap (Value.builtin "BaseException.__getattribute__")) = false := fun expr => by cases expr <;> rfl
  have ne2 : (Value.builtin "BaseException.__getattribute__" == Value.builtin "object.__getattribute__") = false := by decide +kernel
  have ne1 : (onTheHeap (Value.ref C) && Value.builtin "BaseException.__getattribute__" == Value.builtin "object.__getattribute__") = false := by rw [ne2]; rfl
  repeat (any_goals (first | assumption | (with_reducible refine wpAny_loadPart_at hx ?_; rw [hc]) | (with_reducible refine L1.here ?_) | (with_reducible refine L2'.here ?_) | wp_step))
  refine ex_class_call X Z hx hc ?_
  repeat any_goals (first | assumption | wp_step)

theorem ex_class_attr {Q : Option Value → Shared → Prop} (X : K.In h) (Z : ExcK K C) (hx : h.get? a = some o) (hc : o.cls = .ref C) (hq : Q (some (.ref C)) ⟨h, g, d, t + 1, os⟩) :
    wpAny (model prog w) A (getAttr? (.ref a) "__class__") Q E ⟨h, g, d, t, os⟩ := by
  unfold getAttr? getAttrBy?
  repeat (any_goals (first | assumption | with_reducible apply ex_class_by X Z hx hc | wp_step))
end

def ExcAt (a C : Addr) (h : Heap) : Prop := ∃ o, h.get? a = some o ∧ o.cls = .ref C ∧ ∃ vs, o.data = .fields vs ∧ vs[2]? = some .none
theorem kitx_exc {K : PySem.W.Frag} {a C : Addr} (Z : ExcK K C) : PySem.W.KitX K (.ref a) (.ref C) (ExcAt a C) where
  ty := fun M h _ p => by
    obtain ⟨o, h1, h2, _⟩ := p
    exact h2 ▸ (PySem.W.Looks.ld h1).andThen .now
  it := fun _ _ X _ => by
    obtain ⟨c, d, cd, sl, ho⟩ := Z.is
    intro A' Q' E' s' k q
    unfold isType loadHead
    refine wpAny_bind (wpAny_loadPart (k _ _ (X _ _ ho)) ?_)
    exact wpAny_pure q
  ne := fun g tp d2 xs m s2 X htp => by
    obtain ⟨c, d, cd, sl', ho⟩ := Z.is
    apply Bool.eq_false_iff.mpr; intro q
    have e : C = tp := Value.ref.inj (beq_iff_eq.mp q)
    subst e
    have same := (X _ _ ho).symm.trans htp
    cases same
  ca := fun {prog w A E Q s} X p k => by
    obtain ⟨h, g, d, t, os⟩ := s
    obtain ⟨o, h1, h2, _⟩ := p
    exact ex_class_attr X Z h1 h2 k

/-- an exception of the class at C -/
def ExcO (a C : Addr) : HO := .ext (ExcAt a C)
section
variable {X : Cx}
/-- isinstance of an exception: of an own class, of a built-in one -/
theorem call_isiE : CallR X (.builtin "isinstance") (fun xs H Q => ∃ a D C b, xs = [.ref a, .ref D] ∧ H a = some (ExcO a C) ∧ ExcK X.K C ∧ PySem.W.kitOne X.K (.ref C) (.ref D) = some b ∧ Q (.bl b) H) := by
  intro pins s σ H xs us Q I r h
  obtain ⟨a, D, C, b, rfl, hH, Z, e, q⟩ := h
  obtain ⟨u, w', rfl, r1, r2⟩ := vals2 r
  cases r1
  cases r2
  have hp : ExcAt a C s.heap := (I.hok a _ hH).1
  exact PySem.W.kia_one (kitx_exc Z) I.kIn hp e (by intro q; cases q) fun tk => ⟨.bl b, H, I.tok _, rfl, q⟩
theorem call_isiB : CallR X (.builtin "isinstance") (fun xs H Q => ∃ a T C b, xs = [.ref a, .ty T] ∧ H a = some (ExcO a C) ∧ ExcK X.K C ∧ PySem.W.kitOne X.K (.ref C) (.type T) = some b ∧ Q (.bl b) H) := by
  intro pins s σ H xs us Q I r h
  obtain ⟨a, D, C, b, rfl, hH, Z, e, q⟩ := h
  obtain ⟨u, w', rfl, r1, r2⟩ := vals2 r
  cases r1
  cases r2
  have hp : ExcAt a C s.heap := (I.hok a _ hH).1
  exact PySem.W.kia_one (kitx_exc Z) I.kIn hp e (by intro q; cases q) fun tk => ⟨.bl b, H, I.tok _, rfl, q⟩
/-! count and index of a truth in a list of truths -/
def trueV : Value → Bool
  | .bool b => b
  | _ => false
theorem vals_bl : ∀ {bs : List Bool} {its : List Value}, Vals (bs.map V.bl) its → its = bs.map Value.bool
  | [], _, .nil => rfl
  | b :: bs, _, .cons r t => by
    have r' : _ = Value.bool b := r
    rw [r', vals_bl t]
    rfl
def rCountB (K : PySem.W.Frag) : V → List V → Hp → VK → Prop := fun x vs H Q => ∃ (l : Addr) (bs : List Bool), x = .ref l ∧ vs = [.bl true] ∧ SqL K H l (bs.map V.bl) ∧ Q (.int (bs.countP id : Nat)) H
theorem cnt_true (bs : List Bool) : (bs.map Value.bool).countP trueV = bs.countP id := by
  rw [List.countP_map]
  rfl
theorem mt_countB : MtM X "list.count" (rCountB X.K) := by
  intro pins s σ H x vs v us Q I rx rv h
  obtain ⟨l, bs, rfl, rfl, hq, q⟩ := h
  cases rx
  obtain ⟨u, rfl, ru⟩ := rv.one
  cases ru
  obtain ⟨its, r, ⟨o, n, ho, hc, hdd, hd⟩, hz⟩ := I.list hq
  obtain rfl := vals_bl r
  obtain ⟨c, dd, dt, sl⟩ := o
  simp only at hc hd hdd
  subst hc hd hdd
  refine call_meets F.slot_list_count ⟨_, ho, rfl⟩ F.entry_list_count (F.args_list_count_2 _ _) (SeqAt.list_countAt l _ n none sl (.bool true) trueV) ⟨ho, fun z hz => ?_, ?_⟩
  · have hz' : z ∈ bs.map Value.bool := by simpa using hz
    obtain ⟨b, _, rfl⟩ := List.mem_map.mp hz'
    have e := SeqAt.EqAt.bool_bool (A := X.A.in1) (s := s) b true
    have e2 : (b == true) = trueV (.bool b) := by cases b <;> rfl
    rw [e2] at e
    exact e
  · refine ⟨.int (bs.countP id : Nat), H, I.tok _, ⟨s.toks, ?_⟩, q⟩
    rw [← cnt_true]
def rIndexB (K : PySem.W.Frag) : V → List V → Hp → VK → Prop := fun x vs H Q => ∃ (l : Addr) (bs : List Bool) (j : Nat), x = .ref l ∧ vs = [.bl true] ∧ SqL K H l (bs.map V.bl) ∧ bs[j]? = some true ∧ (∀ m < j, bs[m]? = some false) ∧ Q (.int (j : Nat)) H
theorem mt_indexB : MtM X "list.index" (rIndexB X.K) := by
  intro pins s σ H x vs v us Q I rx rv h
  obtain ⟨l, bs, j, rfl, rfl, hq, hj, hno, q⟩ := h
  cases rx
  obtain ⟨u, rfl, ru⟩ := rv.one
  cases ru
  obtain ⟨its, r, ⟨o, n, ho, hc, hdd, hd⟩, hz⟩ := I.list hq
  obtain rfl := vals_bl r
  obtain ⟨c, dd, dt, sl⟩ := o
  simp only at hc hd hdd
  subst hc hd hdd
  have hjl : j < bs.length := (List.getElem?_eq_some_iff.mp hj).1
  have hsz : j < (bs.map Value.bool).toArray.size := by simpa using hjl
  have at_ : ∀ m (hm : m < (bs.map Value.bool).toArray.size) b, bs[m]? = some b → trueV (bs.map Value.bool).toArray[m] = b := fun m hm b e => by
    have e2 := (List.getElem?_eq_some_iff.mp e).2
    simp [e2, trueV]
  have hz2 : bs.length ≤ sizeLine := by simpa using hz
  have hsm : (j : Int) < 2 ^ 63 - 1 := by
    have e : (sizeLine : Nat) < 2 ^ 63 := line63
    omega
  refine call_meets F.slot_list_index ⟨_, ho, rfl⟩ F.entry_list_index (F.args_list_index_2 _ _)
    (SeqAt.list_indexAt l _ n none sl (.bool true) trueV j hsz hsm (at_ j hsz true hj) (fun m hm hl => at_ m hm false (hno m hl))) ⟨ho, fun z hz => ?_, ?_⟩
  · have hz' : z ∈ bs.map Value.bool := by simpa using hz
    obtain ⟨b, _, rfl⟩ := List.mem_map.mp hz'
    have e := SeqAt.EqAt.bool_bool (A := X.A.in1) (s := s) b true
    have e2 : (b == true) = trueV (.bool b) := by cases b <;> rfl
    rw [e2] at e
    exact e
  · exact ⟨.int (j : Nat), H, I.tok _, ⟨s.toks, rfl⟩, q⟩
end
end Fr

set_option Elab.async false
set_option linter.all false
set_option maxRecDepth 100000
set_option maxHeartbeats 4000000
/-! Exceptions of own classes over the hand layer: raise, how one lies behind a call, try with one call and one clause. -/
namespace Fr
open PySem PySem.Spec L2
open PyProof.Rows hiding St

section
variable {P : Program} {w : World} {H H' : Hp} {h h' : Heap} {a : Addr} {o : HO}
theorem obj_got (x : ObjOk P w H h a o) : ∃ ob, h.get? a = some ob := by
  cases o with
  | lst xs => obtain ⟨_, _, _, _, e⟩ := x; exact ⟨_, e⟩
  | tup xs => obtain ⟨_, _, _, ob, e, _⟩ := x; exact ⟨_, e⟩
  | dK kvs => obtain ⟨_, _, _, _, o, _, _, e, _⟩ := x; exact ⟨_, e⟩
  | dT kvs => obtain ⟨_, _, _, _, o, _, _, e, _⟩ := x; exact ⟨_, e⟩
  | set S n => obtain ⟨o, _, _, _, e, _⟩ := x; exact ⟨_, e⟩
  | ins C dx fs => obtain ⟨_, _, _, e, _⟩ := x; exact ⟨_, e⟩
  | own y => exact x
  | xd fs => obtain ⟨_, ⟨_, _, _, e, _⟩, _⟩ := x; exact ⟨_, e⟩
  | rng lo hi => obtain ⟨_, _, _, e⟩ := x; exact ⟨_, e⟩
  | frz ob u => obtain ⟨e, _⟩ := x; exact ⟨_, e⟩
  | tbl ps => exact ⟨_, x⟩
  | met f y => exact ⟨_, x⟩
  | ext φ => exact x.2.1
theorem hok_none (x : HOk P w H h) (e : h.get? a = none) : H a = none := by
  cases q : H a with
  | none => rfl
  | some u =>
    obtain ⟨ob, z⟩ := obj_got (x a u q)
    rw [e] at z
    cases z
/-- all tracked objects are kept -/
theorem hok_keeps (x : HOk P w H h) (k : ∀ b u, H b ≠ none → h.get? b = some u → h'.get? b = some u) : HOk P w H h' := fun a o e =>
  (x a o e).stay (fun b u hb q => k b u (by rcases hb with rfl | hb <;> simp_all) q) (fun _ q => q) fun _ _ q => q
theorem hok_track (x : HOk P w H h) (n : H a = none) (new : ObjOk P w (upd H a o) h a o) : HOk P w (upd H a o) h := fun b u e => by
  by_cases hb : b = a
  · subst hb; rw [upd_same] at e; cases e; exact new
  · rw [upd_ne hb] at e
    exact (x b u e).stay (fun c v _ q => q) (fun c q => by rw [upd_ne (ne_of_none q n)]; exact q) fun c xs q => by rw [upd_ne (ne_of_none q n)]; exact q
end
theorem ff_move {h h' base base' : Heap} : ∀ {l : List Env}, h.FunFrames base l → (∀ b ∈ frs l, base'.get? b = none) → (∀ b ∈ frs l, ∀ o, h.get? b = some o → ∃ o', h'.get? b = some o' ∧ o'.data = o.data) → h'.FunFrames base' l
  | [], _, _, _ => trivial
  | env :: r, ⟨hk, ⟨L, o, hf, hn, ho, hd⟩, hr⟩, hb, hc => by
    have hL : L ∈ frs (env :: r) := by unfold frs; rw [List.filterMap_cons, hf]; exact List.mem_cons_self
    have sub : ∀ b ∈ frs r, b ∈ frs (env :: r) := fun b hb => by unfold frs; rw [List.filterMap_cons, hf]; exact List.mem_cons_of_mem _ hb
    obtain ⟨o', e, d⟩ := hc L hL o ho
    exact ⟨hk, ⟨L, o', hf, hb L hL, e, fun vs => d ▸ hd vs⟩, ff_move hr (fun b z => hb b (sub b z)) fun b z => hc b (sub b z)⟩

/-- an exception flies: at x, of the class at C, its record not in base -/
structure Fly (base h : Heap) (H : Hp) (x C : Addr) : Prop where
  ex : ∃ oe vs T oT ts a0, h.get? x = some oe ∧ (oe.cls = .ref C ∧ vs[0]? = some a0 ∧ vs[2]? = some .none) ∧ oe.data = .fields vs ∧ vs[1]? = some (.ref T) ∧ base.get? T = none ∧ T ≠ x ∧ h.get? T = some oT ∧ oT.data = .fields ts ∧ ts[3]? = some .none ∧ H T = none
  xn : base.get? x = none
  xh : H x = none
/-- how an exception lies behind a call -/
def CX1 (P : Program) (w : World) : CXT := fun outer H s E e s' => ∃ x C H', e = .ref x ∧ s'.os = s.os ∧ AllBare s'.gens ∧ Un (frs outer) [] H H' s.heap s'.heap ∧ HOk P w H' s'.heap ∧ Fly s.heap s'.heap H' x C ∧ E (.ref C) none H'
theorem pass1 {P : Program} {w : World} {X : Cx} : Passes (CX1 P w) X E0 := fun _ _ _ _ _ _ _ h => by
  obtain ⟨_, _, _, _, _, _, _, _, _, h⟩ := h
  exact h.elim

section
variable {X : Cx} {pins : List (Addr × Obj)} {σ : St} {H : Hp} {s : Shared}
theorem un_out {h'' : Heap} (I : Inv X pins σ H s) (hex : X.ex = []) (kept : ∀ b o, s.heap.get? b = some o → b ∉ frs X.stack → h''.get? b = some o)
    (slots : ∀ b o, b ∈ frs X.stack → s.heap.get? b = some o → ∃ sl, h''.get? b = some { o with slots := sl }) : Un X.fs [] X.H₀ H X.s₀.heap h'' := by
  have nx : ∀ b : Addr, b ∉ X.ex := fun b => by rw [hex]; simp
  have any : ∀ b o, s.heap.get? b = some o → ∃ sl, h''.get? b = some { o with slots := sl } := fun b o e => by
    by_cases hb : b ∈ frs X.stack
    · exact slots b o hb e
    · exact ⟨o.slots, kept b o e hb⟩
  refine ⟨fun b o e n hb _ => ?_, fun b o e n hb _ => ?_, fun b o e n _ => I.base.free b o e n (nx b), fun b o e _ => ?_, I.base.tups, I.base.frzs, I.base.tbls⟩
  · refine kept b o (I.base.keep b o e n hb (nx b)) fun z => ?_
    rcases List.mem_cons.mp (I.stkSub b z) with z | z
    · have := Nat.lt_of_lt_of_le (Heap.lt_size e) I.ok.above
      rw [z] at this
      exact absurd this (Nat.lt_irrefl _)
    · exact hb z
  · obtain ⟨sl, e1⟩ := I.base.slot b o e n hb (nx b)
    obtain ⟨sl2, e2⟩ := any b _ e1
    exact ⟨sl2, e2⟩
  · obtain ⟨o', e1⟩ := I.base.there b o e (nx b)
    obtain ⟨sl, e2⟩ := any b o' e1
    exact ⟨_, e2⟩
end

section
variable {P : Program} {w : World} {K : PySem.W.Frag} {mg : Str → Option Value} {base : Heap} {N : List Str} {qual : Str} {scope : Scope} {f : Addr} {cd : Value} {A : Around} {outer : List Env} {s : Shared} {H : Hp} {E : XK}
/-- a made exception leaves its def -/
theorem leave1 {pins : List (Addr × Obj)} {σ : St} {H2 : Hp} {s2 : Shared} {h' : Heap} {e C : Addr} {us : List Value} (I : Inv (cxOf (CX1 P w) P w K mg base N qual scope f cd A outer s H E) pins σ H2 s2)
    (hm : Heap.MadeExcOf s2.heap h' e (.ref C) us) (q : E (.ref C) none H2) : (cxOf (CX1 P w) P w K mg base N qual scope f cd A outer s H E).xe (.ref e) { s2 with heap := h' } := by
  have FF0 := I.stack
  have FF : s2.heap.FunFrames (PySem.W.hideAll s2.heap (frs (cxOf (CX1 P w) P w K mg base N qual scope f cd A outer s H E).stack)) (cxOf (CX1 P w) P w K mg base N qual scope f cd A outer s H E).stack :=
    ff_move FF0 (fun b hb => PySem.W.hideAll_none _ hb) fun b _ o e => ⟨o, e, rfl⟩
  refine wpAny_leaves_madeV (base := PySem.W.hideAll s2.heap (frs (cxOf (CX1 P w) P w K mg base N qual scope f cd A outer s H E).stack)) (h := s2.heap) (outer := outer) I.ok.frames rfl (fun b o hb => PySem.W.of_hideAll _ hb) FF hm fun h'' t fl tup tn us' => ?_
  have kept : ∀ b o, s2.heap.get? b = some o → b ∉ frs (cxOf (CX1 P w) P w K mg base N qual scope f cd A outer s H E).stack → h''.get? b = some o := fun b o e n => fl.1 b o (PySem.W.hideAll_get _ e n)
  have slots : ∀ b o, b ∈ frs (cxOf (CX1 P w) P w K mg base N qual scope f cd A outer s H E).stack → s2.heap.get? b = some o → ∃ sl, h''.get? b = some { o with slots := sl } := fun b o hb e => by
    obtain ⟨_, o', e', nf⟩ := FF.mem hb
    rw [e] at e'
    cases e'
    exact us' b o (hm.keeps b o e) nf
  have back : ∀ b, s2.heap.get? b = none → s.heap.get? b = none := fun b e => by
    cases z : s.heap.get? b with
    | none => rfl
    | some o =>
      obtain ⟨o', e1⟩ := I.base.there b o z (fun y => absurd (show b ∈ ([] : List Addr) from y) (by simp))
      rw [e] at e1
      cases e1
  obtain ⟨oe, vs, T, oT, ts, he, hc, hd, h1, hnT, hTe, hT, hdT, h3⟩ := fl.2.2.2
  have Tn : s2.heap.get? T = none := by
    cases z : s2.heap.get? T with
    | none => rfl
    | some o =>
      by_cases hb : T ∈ frs (cxOf (CX1 P w) P w K mg base N qual scope f cd A outer s H E).stack
      · obtain ⟨_, o', e', nf⟩ := FF.mem hb
        rw [z] at e'
        cases e'
        obtain ⟨sl, e2⟩ := slots T o hb z
        rw [hT] at e2
        cases e2
        exact absurd hdT (nf ts)
      · rw [PySem.W.hideAll_get _ z hb] at hnT
        cases hnT
  refine ⟨e, C, H2, rfl, I.os, I.bare, un_out I rfl kept slots, hok_keeps I.hok fun b u hb e => kept b u e fun z => hb (I.stkFree b z), ⟨⟨oe, vs, T, oT, ts, _, he, hc, hd, h1, back T Tn, hTe, hT, hdT, h3, hok_none I.hok Tn⟩, back e hm.new, hok_none I.hok hm.new⟩, q⟩
end
theorem exc_obj {K : PySem.W.Frag} {h₀ : Heap} {C : Addr} {bmB : List Value} {newId : String} (X : K.In h₀) (q : PySem.W.excIn K C bmB newId = true) :
    ∃ bm N nm q bs hdct sn sub ab col dd k0 k1 k2 k3 k5 mN, h₀.get? C = some (excClassObj nm q C N bs bm hdct sn sub ab col dd k0 k1 k2 k3 k5 newId) ∧ h₀.Ns N mN ∧ mN "__init__" = none ∧ OwnTail h₀ bmB bm := by
  cases hl : K.lookup C with
  | none => simp [PySem.W.excIn, hl] at q
  | some ob =>
    obtain ⟨cl, dct, dat', slots⟩ := ob
    have hG := X _ _ hl
    cases dat' with
    | cls info =>
      simp only [PySem.W.excIn, hl] at q
      split at q
      next dct' info' slots' hob =>
        cases hob
        split at q
        next C2 tl a0 a1 a2 a3 idn a5 hmro hslots =>
          simp only [Bool.and_eq_true, Bool.not_eq_true', beq_iff_eq] at q
          obtain ⟨⟨⟨⟨⟨hC2, hid⟩, hdl⟩, htl⟩, hns⟩, hini⟩ := q
          cases info
          simp only at hmro hdl hns hini
          cases hC2
          cases hid
          cases hmro
          cases hdl
          have hsl : slots = #[a0, a1, a2, a3, some (.builtin newId), a5] := Array.ext' (by simpa using hslots)
          cases hsl
          exact ⟨_, _, _, _, _, _, _, _, _, _, _, _, _, _, _, _, _, hG, Heap.Ns.of_isNs (PySem.W.isNs_of_in X hns), PySem.W.nsMap_none_of_in X hns hini, PySem.W.tail_of_in X htl⟩
        next => exact absurd q (by decide)
      next => exact absurd q (by decide)
    | _ => simp [PySem.W.excIn, hl] at q
abbrev bmVE : List Value := [.type "ValueError", .type "Exception", .type "BaseException", .type "object"]
/-- raise C(..), C an own class under ValueError -/
def tRaise (C : Addr) (E : XK) (ta : TA) : TS := fun _ σ H => ta σ H fun vs H1 => vs.length ≤ sizeLine ∧ E (.ref C) none H1
section
variable {P : Program} {w : World} {K : PySem.W.Frag} {mg : Str → Option Value} {base : Heap} {N : List Str} {qual : Str} {scope : Scope} {f : Addr} {cd : Value} {A : Around} {outer : List Env} {s : Shared} {H : Hp} {E : XK}
  {x : Str} {C : Addr} {np cpos pos : Pos} {e₀ : Expr} {rest : List Expr} {ta : TA}
theorem ps_raise (hg : Gl (cxOf (CX1 P w) P w K mg base N qual scope f cd A outer s H E) x) (hm : mg x = some (.ref C)) (q : PySem.W.excIn K C bmVE "ValueError.__new__" = true) (ha : PA (cxOf (CX1 P w) P w K mg base N qual scope f cd A outer s H E) (e₀ :: rest) ta)
    (he : starEach (e₀ :: rest) (cxOf (CX1 P w) P w K mg base N qual scope f cd A outer s H E).env = (false, eval e₀ (cxOf (CX1 P w) P w K mg base N qual scope f cd A outer s H E).env) :: starEach rest (cxOf (CX1 P w) P w K mg base N qual scope f cd A outer s H E).env := by rfl)
    (hpl : (backTo cpos (starEach rest (cxOf (CX1 P w) P w K mg base N qual scope f cd A outer s H E).env)).any (·.1) = false := by rfl) (hdb : (x == ("__debug__" : Str)) = false := by decide) :
    PS (cxOf (CX1 P w) P w K mg base N qual scope f cd A outer s H E) (.Raise (some (.Call (.Name x np) (e₀ :: rest) [] cpos)) none pos) (tRaise C E ta) := by
  intro pins s1 σ H1 D I h
  obtain ⟨tl, N', nm, q', bs, hdct, sn, sub, ab, col, dd, k0, k1, k2, k3, k5, mN, hC, hN, hni, T⟩ := exc_obj I.ok.mod.kin q
  refine wpAny_Raise_call_subT (C := C) (nm := nm) (q := q') (N := N') (bs := bs) (bm := tl) (hdct := hdct) (sn := sn) (sub := sub) (ab := ab) (col := col) (dd := dd) (k0 := k0) (k1 := k1) (k2 := k2) (k3 := k3) (k5 := k5)
    PySem.F.excBase_ValueError (mN := mN) (T.hasType PySem.F.excBase_ValueError.hasBase) (I.ok.hd rfl) (by rw [he]; show (false || (backTo cpos (starEach rest _)).any (·.1)) = false; rw [hpl]; rfl) hni (ld_glob I hg hm ⟨rfl, ?_⟩ hdb)
  have h2 := ha cpos pins s1 σ H1 _ I h
  rw [he] at h2 ⊢
  refine Calls.evalArgs_plain (wpAny_mono h2 (fun us s2 z => ?_) fun _ _ y => y)
  obtain ⟨vs, H2, I2, r, hz, hq⟩ := z
  exact ⟨rfl, (by rw [← r.length]; exact hz), I2.bk _ _ hC, hN.keeps I2.bk, T.keeps I2.bk, fun h' e hm => leave1 I2 hm hq⟩
end
end Fr

set_option Elab.async false
set_option linter.all false
set_option maxRecDepth 100000
set_option maxHeartbeats 4000000
/-! try: one call, one clause (an own class, as a name); defs that run within an except suite. -/
namespace Fr
open PySem PySem.Spec L2
open PyProof.Rows hiding St

abbrev _root_.L2.Cx.inex (X : Cx) (z : Addr) : Cx := { X with A := X.A.mark (some (.ref z)), calm := false, xe := fun _ _ => False }
section
variable {X : Cx} {pins : List (Addr × Obj)} {σ : St} {H : Hp} {s : Shared}
theorem inv_in (I : Inv X pins σ H s) (z : Addr) : Inv (X.inex z) pins σ H s :=
  ⟨⟨I.ok.mod, I.ok.kind, I.ok.glob, I.ok.blt, I.ok.above, I.ok.inj, I.ok.has, I.ok.cab, (fun h => nomatch h), I.ok.frames, I.ok.stk, I.ok.exf, I.ok.bs, I.ok.bsz, I.ok.noex, I.ok.exfs, I.ok.funs, I.ok.frf⟩,
    I.os, I.bare, I.base, I.loc, I.cell, I.free, I.freeC, I.pin, I.hok, I.len⟩
theorem inv_outof {z : Addr} (I : Inv (X.inex z) pins σ H s) (ok : X.Ok) : Inv X pins σ H s :=
  ⟨ok, I.os, I.bare, I.base, I.loc, I.cell, I.free, I.freeC, I.pin, I.hok, I.len⟩
end
theorem un_catch {fs : List Addr} {H H' : Hp} {h h' h'' : Heap} {x : Addr} {ob : HO} (u : Un fs [] H H' h h') (kept : ∀ b o, h.get? b ≠ none → b ∉ fs → h'.get? b = some o → h''.get? b = some o)
    (slots : ∀ b o, b ∈ fs → h'.get? b = some o → ∃ sl, h''.get? b = some { o with slots := sl }) (xn : h.get? x = none) (xh : H' x = none) : Un fs [] H (upd H' x ob) h h'' := by
  have nx : ∀ b o, h.get? b = some o → b ≠ x := fun b o e z => by rw [z, xn] at e; cases e
  have n0 : ∀ b : Addr, b ∉ ([] : List Addr) := fun b => by simp
  refine ⟨fun b o e n hb hx => kept b o (by rw [e]; simp) hb (u.keep b o e n hb hx), fun b o e n hb hx => ?_, fun b o e n hx => ?_, fun b o e hx => ?_, fun b xs e => ?_, fun b o xs e => ?_, fun b ps e => ?_⟩
  · obtain ⟨sl, e1⟩ := u.slot b o e n hb hx
    obtain ⟨sl2, e2⟩ := slots b _ hb e1
    exact ⟨sl2, e2⟩
  · rw [upd_ne (nx b o e)]
    exact u.free b o e n hx
  · obtain ⟨o', e1⟩ := u.there b o e hx
    by_cases hb : b ∈ fs
    · obtain ⟨sl, e2⟩ := slots b o' hb e1
      exact ⟨_, e2⟩
    · exact ⟨o', kept b o' (by rw [e]; simp) hb e1⟩
  · have e1 := u.tups b xs e
    rw [upd_ne (ne_of_none e1 xh)]
    exact e1
  · have e1 := u.frzs b o xs e
    rw [upd_ne (ne_of_none e1 xh)]
    exact e1
  · obtain ⟨m, e1⟩ := u.tbls b ps e
    exact ⟨m, by rw [upd_ne (ne_of_none e1 xh)]; exact e1⟩

/-- the class of an except clause -/
structure ClauseK (K : PySem.W.Frag) (D : Addr) : Prop where
  is : ∃ d cd sl, K.lookup D = some ⟨.type "type", d, .cls cd, sl⟩
  mb : PySem.W.mroIn K D (.type "BaseException") = some true
theorem exc_matches {M : Model} {A : Around} {E : Value → Shared → Prop} {K : PySem.W.Frag} {h : Heap} {g : Array GenState} {d : Drawn} {t : Nat} {os : OsState} {e C D : Addr} {oe : Obj} {Q : Bool → Shared → Prop}
    (X : K.In h) (Z : ClauseK K D) (he : h.get? e = some oe) (hcls : oe.cls = .ref C) (hsub : PySem.W.mroIn K C (.ref D) = some true) (hq : Q true ⟨h, g, d, t, os⟩) : wpAny M A (excMatches (.ref e) (.ref D)) Q E ⟨h, g, d, t, os⟩ := by
  have f := tc_notTuple
  obtain ⟨dd, cd, sl, hD⟩ := Z.is
  have hD' := X _ _ hD
  have L1 := PySem.W.looks_mroIn (M := M) X Z.mb
  have L2' := PySem.W.looks_mroIn (M := M) X hsub
  unfold excMatches
  repeat (first | (with_reducible refine wpAny_loadPart_at he ?_; rw [hcls]) | with_reducible refine wpAny_loadPart_at hD' ?_ | (with_reducible refine L1.here ?_) | (with_reducible refine L2'.here ?_) | wp_step)
  exact hq

section
variable {X : Cx} {pins : List (Addr × Obj)} {σ : St} {H H1 : Hp} {s s1 s' : Shared} {i : Nat} {n R : Str} {rp hpos : Pos} {b₀ : Stmt} {suite : List Stmt} {ts : TS} {D : Addr} {Dn : Ends} {e : Value} {Ee : Value → Shared → Prop}
end
section
variable {X : Cx} {k : Nat} {f : Addr} {fd : FuncData} {ps : List Str} {sp : Sp} {x n R : Str} {p pos p1 rp hpos tp : Pos} {ex : Expr} {es : List Expr} {t : TA} {i : Nat} {D : Addr} {b₀ : Stmt} {suite : List Stmt} {ts : TS}
end

/-! ### defs that run within an except suite -/
structure RoomN (k : Nat) (A : Around) : Prop where
  dp : A.depth + 3 * k + 5 < recursionLimit
  un : A.units + 16 * k + 200 < cLine
theorem RoomN.of {k : Nat} {A : Around} (r : Room k A) : RoomN k A := ⟨r.dp, r.un⟩
theorem RoomN.deeper {k : Nat} {A : Around} (r : RoomN (k + 1) A) (env : Env) : RoomN k (A.deeper env) :=
  ⟨by have := r.dp; show A.depth + 1 + 3 * k + 5 < _; omega, by have := r.un; show A.units + 3 + 16 * k + 200 < _; omega⟩
structure FnOkN (P : Program) (w : World) (K : PySem.W.Frag) (mg : Str → Option Value) (base : Heap) (k : Nat) (f : Addr) (fd : FuncData) (ps : List Str) (sp : Sp) : Prop where
  len : ∀ vs H Q E, sp vs H Q E → vs.length = ps.length
  run : ∀ (A : Around) (outer : List Env) (s : Shared) (H : Hp) (args : Args) (us : List Value) (vs : List V) (Q : VK), RoomN k A → Env0 P w K mg base A outer s H → BindsTo s fd args (ps.zip us) → Vals vs us → sp vs H Q E0 →
    codeAny (model P w) A (.call (.ref f) args) (CR CX0 outer P w H s Q E0) s
def cxN (P : Program) (w : World) (K : PySem.W.Frag) (mg : Str → Option Value) (base : Heap) (N : List Str) (qual : Str) (scope : Scope) (f : Addr) (cd : Value) (A : Around) (outer : List Env) (s : Shared) (H : Hp) : Cx :=
  { cxOf CX0 P w K mg base N qual scope f cd A outer s H E0 with calm := false, xe := fun _ _ => False }
section
variable {P : Program} {w : World} {K : PySem.W.Frag} {mg : Str → Option Value} {base : Heap}
theorem okN {x qual : Str} {st : Stmt} {f : Addr} {fd : FuncData} {N ps : List Str} {k : Nat} {sp : Sp} (F : Fun K x qual st f fd) (S : FnScope N ps (defScope st)) (len : ∀ vs H Q E, sp vs H Q E → vs.length = ps.length)
    (hbody : ∀ (cdv : Value) (A : Around) (outer : List Env) (s : Shared) (H : Hp) (vs : List V) (Q : VK), RoomN k (A.deeper (envOfC qual (defScope st) s.heap.objs.size f cdv)) → sp vs H Q E0 →
      ∃ t, PSs (cxN P w K mg base N qual (defScope st) f cdv A outer s H) (defBody st) t ∧ t { nx := fun _ H' => Q .non H', rt := Q } (start N vs) H) : FnOkN P w K mg base (k + 1) f fd ps sp := by
  obtain ⟨oc, od, kV, doc, pm, an, cdv, ct, osl, rfl, lk, hcd⟩ := F.ex
  refine ⟨len, fun A outer s H args us vs Q hr e0 hb r hsp => ?_⟩
  have hl := len _ _ _ _ hsp
  have KX : K.In s.heap := e0.mod.kin.keeps fun b o e => (e0.bs b o e).1
  have lim : s.heap.NoLimit := e0.mod.nolimit.keeps fun b o e => (e0.bs b o e).1
  have hkind : ∀ y ∈ ps.zip us, (defScope st).names.lookup y.1 = some .local ∨ ((defScope st).names.lookup y.1 = some .cell ∧ ((cellsFrom (s.heap.objs.size + 1) (defScope st).names []).lookup y.1).isSome = true) := fun ⟨n, v⟩ hy => by
    rcases S.par n (List.of_mem_zip hy).1 with q | q
    · exact .inl q
    · exact .inr ⟨q, PySem.W.cellsFrom_some _ _ _ (.inl q)⟩
  have hdep : A.depth < recursionLimit := by have := hr.dp; omega
  refine codeAny_call_function hdep (KX _ _ lk) rfl S.co S.gen rfl (PySem.W.codeRec_of KX hcd) (hb _ _ _ _ ?_)
  refine wpAny_newFunctionEnv_cells S.kind hkind fun env he s1 x => ?_
  subst he
  refine ⟨lim.keeps x.toInCall.keep, codeAny_func ?_⟩
  obtain ⟨t, ht, hq⟩ := hbody cdv A outer s H vs Q (hr.deeper _) hsp
  have I0 : Inv (cxOf CX0 P w K mg base N qual (defScope st) f cdv { A with handled := none } outer s H E0) [] (start N vs) H s1 :=
    inv_start S rfl ⟨e0.frames, e0.mod, e0.bs, e0.bsz, e0.funs, e0.frf, e0.hok, e0.bare⟩ hl r x
  have I : Inv (cxN P w K mg base N qual (defScope st) f cdv A outer s H) [] (start N vs) H s1 :=
    ⟨⟨I0.ok.mod, I0.ok.kind, I0.ok.glob, I0.ok.blt, I0.ok.above, I0.ok.inj, I0.ok.has, I0.ok.cab, (fun h => nomatch h), I0.ok.frames, I0.ok.stk, I0.ok.exf, I0.ok.bs, I0.ok.bsz, I0.ok.noex, I0.ok.exfs, I0.ok.funs, I0.ok.frf⟩,
      I0.os, I0.bare, I0.base, I0.loc, I0.cell, I0.free, I0.freeC, I0.pin, I0.hok, I0.len⟩
  refine wpAny_mono (ht [] s1 (start N vs) H _ I hq) (fun fl s' hs => ?_) fun e s' hs => False.elim hs
  have fin : ∀ {σ' : St} {H' : Hp} {v : V} {u : Value}, Inv (cxN P w K mg base N qual (defScope st) f cdv A outer s H) [] σ' H' s' → RelV v u → Q v H' → CE outer P w H s Q u s' :=
    fun {σ' H' v u} J rv q => ⟨v, H', J.os, J.bare, J.base, J.hok, rv, q⟩
  cases fl with
  | ret u =>
    obtain ⟨v, σ', H', J, rv, q⟩ := hs
    exact fin J rv q
  | next =>
    obtain ⟨σ', H', J, q⟩ := hs
    exact fin (v := V.non) (u := Value.none) J rfl q
  | brk =>
    obtain ⟨_, _, _, q⟩ := hs
    exact False.elim q
  | cont =>
    obtain ⟨_, _, _, q⟩ := hs
    exact False.elim q
end
def OwnN (P : Program) (w : World) (K : PySem.W.Frag) (mg : Str → Option Value) (base : Heap) (k : Nat) (x : Str) (ps : List Str) (sp : Sp) : Prop :=
  ∃ (f : Addr) (fd : FuncData), FnOkN P w K mg base k f fd ps sp ∧ mg x = some (.ref f) ∧ PySem.W.keepIn K (.ref f) = true ∧ Binds K fd ps []
section
variable {X : Cx} {pos p : Pos} {k : Nat} {x : Str} {ps : List Str} {sp : Sp} {e : Expr} {es : List Expr} {t : TA}
end
/-- a def that may raise, where it doesn't -/
def Own1 (P : Program) (w : World) (K : PySem.W.Frag) (mg : Str → Option Value) (base : Heap) (k : Nat) (x : Str) (ps : List Str) (sp : Sp) : Prop :=
  ∃ (f : Addr) (fd : FuncData), FnOk P w K mg base (CX1 P w) k f fd ps sp ∧ mg x = some (.ref f) ∧ PySem.W.keepIn K (.ref f) = true ∧ Binds K fd ps []
theorem Own1.mono {P : Program} {w : World} {K : PySem.W.Frag} {mg : Str → Option Value} {base : Heap} {j k : Nat} {x : Str} {ps : List Str} {sp : Sp} (O : Own1 P w K mg base j x ps sp) (h : j ≤ k) : Own1 P w K mg base k x ps sp := by
  obtain ⟨f, fd, a, b, c, d⟩ := O
  exact ⟨f, fd, a.mono h, b, c, d⟩
section
variable {X : Cx} {pos p : Pos} {k : Nat} {x : Str} {ps : List Str} {sp : Sp} {e : Expr} {es : List Expr} {t : TA}
end
/-- a def that may raise -/
theorem ok1 {P : Program} {w : World} {K : PySem.W.Frag} {mg : Str → Option Value} {base : Heap} {x qual : Str} {st : Stmt} {f : Addr} {fd : FuncData} {N ps : List Str} {k : Nat} {sp : Sp} (F : Fun K x qual st f fd) (S : FnScope N ps (defScope st)) (len : ∀ vs H Q E, sp vs H Q E → vs.length = ps.length)
    (hbody : ∀ (cdv : Value) (A : Around) (outer : List Env) (s : Shared) (H : Hp) (vs : List V) (Q : VK) (E : XK), Room k (A.deeper (envOfC qual (defScope st) s.heap.objs.size f cdv)) → sp vs H Q E →
      ∃ t, PSs (cxOf (CX1 P w) P w K mg base N qual (defScope st) f cdv A outer s H E) (defBody st) t ∧ t { nx := fun _ H' => Q .non H', rt := Q } (start N vs) H) : FnOk P w K mg base (CX1 P w) (k + 1) f fd ps sp := by
  obtain ⟨oc, od, kV, doc, pm, an, cdv, ct, osl, rfl, lk, hcd⟩ := F.ex
  exact fn_of lk hcd S len fun A outer s H vs Q E hr hsp => hbody cdv A outer s H vs Q E hr hsp
end Fr

set_option Elab.async false
set_option linter.all false
set_option maxRecDepth 100000
set_option maxHeartbeats 4000000
/-! An exception of a callee passes through a def; try with one statement that calls: f(..), x = f(..), return f(..). -/
namespace Fr
open PySem PySem.Spec L2
open PyProof.Rows hiding St

section
variable {P : Program} {w : World} {K : PySem.W.Frag} {mg : Str → Option Value} {base : Heap} {N : List Str} {qual : Str} {scope : Scope} {f : Addr} {cd : Value} {A : Around} {outer : List Env} {s : Shared} {H : Hp} {E : XK}
/-- what a callee raises, this def raises -/
theorem pass_on : Passes (CX1 P w) (cxOf (CX1 P w) P w K mg base N qual scope f cd A outer s H E) E := by
  intro pins σ H1 s1 e s' I c
  obtain ⟨x, C, H', rfl, os, bare, un, hok, fly, q⟩ := c
  obtain ⟨oe, vs, T, oT, ts', a0, he, hc, hd, h1, hnT, hTe, hT, hdT, h3, hHT⟩ := fly.ex
  have FF : s'.heap.FunFrames (PySem.W.hideAll s'.heap (x :: T :: frs (cxOf (CX1 P w) P w K mg base N qual scope f cd A outer s H E).stack)) (cxOf (CX1 P w) P w K mg base N qual scope f cd A outer s H E).stack :=
    ff_move I.stack (fun b hb => PySem.W.hideAll_none _ (List.mem_cons_of_mem _ (List.mem_cons_of_mem _ hb))) fun b hb o e => by
      obtain ⟨sl, e2⟩ := un.any e (I.stkFree b hb) (by simp)
      exact ⟨_, e2, rfl⟩
  have fl : Heap.FlyingV (PySem.W.hideAll s'.heap (x :: T :: frs (cxOf (CX1 P w) P w K mg base N qual scope f cd A outer s H E).stack)) (cxOf (CX1 P w) P w K mg base N qual scope f cd A outer s H E).stack x (.ref C) a0 s'.heap :=
    ⟨fun b o hb => PySem.W.of_hideAll _ hb, PySem.W.hideAll_none _ List.mem_cons_self, FF, oe, vs, T, oT, ts', he, hc, hd, h1, PySem.W.hideAll_none _ (List.mem_cons_of_mem _ List.mem_cons_self), hTe, hT, hdT, h3⟩
  have I' : Inv (cxOf (CX1 P w) P w K mg base N qual scope f cd A outer s H E) pins σ H' s' := I.call' os un hok bare (fun _ z => nomatch z)
  refine wpAny_leaves_onV (outer := outer) (L := (cxOf (CX1 P w) P w K mg base N qual scope f cd A outer s H E).env.locals) I.ok.frames rfl fl fun h'' fl2 sm => ?_
  have nf : ∀ b o, b ∈ frs (cxOf (CX1 P w) P w K mg base N qual scope f cd A outer s H E).stack → s'.heap.get? b = some o → ∀ vs, o.data ≠ .fields vs := fun b o hb e => by
    obtain ⟨_, o', e', nf⟩ := FF.mem hb
    rw [e] at e'
    cases e'
    exact nf
  have back1 : ∀ b, s1.heap.get? b = none → s.heap.get? b = none := fun b e => by
    cases z : s.heap.get? b with
    | none => rfl
    | some o =>
      obtain ⟨o', e1⟩ := I.base.there b o z (fun y => absurd (show b ∈ ([] : List Addr) from y) (by simp))
      rw [e] at e1
      cases e1
  have kept : ∀ b o, s'.heap.get? b = some o → b ≠ x → b ≠ T → b ∉ frs (cxOf (CX1 P w) P w K mg base N qual scope f cd A outer s H E).stack → h''.get? b = some o := fun b o e n1 n2 n3 => fl2.1 b o (PySem.W.hideAll_get _ e (by simp [n1, n2, n3]))
  have slots : ∀ b o, b ∈ frs (cxOf (CX1 P w) P w K mg base N qual scope f cd A outer s H E).stack → s'.heap.get? b = some o → ∃ sl, h''.get? b = some { o with slots := sl } := fun b o hb e => sm b o e (nf b o hb e)
  have xs0 := back1 x fly.xn
  have Ts0 := back1 T hnT
  have nxT : ∀ b o, s.heap.get? b = some o → b ≠ x ∧ b ≠ T := fun b o e => ⟨(fun z => by rw [z, xs0] at e; cases e), (fun z => by rw [z, Ts0] at e; cases e)⟩
  have unO : Un (frs outer) [] H H' s.heap h'' := by
    have B := I'.base
    have any : ∀ b o, b ≠ x → b ≠ T → s'.heap.get? b = some o → ∃ sl, h''.get? b = some { o with slots := sl } := fun b o n1 n2 e => by
      by_cases hb : b ∈ frs (cxOf (CX1 P w) P w K mg base N qual scope f cd A outer s H E).stack
      · exact slots b o hb e
      · exact ⟨o.slots, kept b o e n1 n2 hb⟩
    have nx : ∀ b : Addr, b ∉ (cxOf (CX1 P w) P w K mg base N qual scope f cd A outer s H E).ex := fun b z => absurd (show b ∈ ([] : List Addr) from z) (by simp)
    refine ⟨fun b o e n hb hx => ?_, fun b o e n hb hx => ?_, fun b o e n hx => B.free b o e n (nx b), fun b o e hx => ?_, B.tups, B.frzs, B.tbls⟩
    · refine kept b o (B.keep b o e n hb (nx b)) (nxT b o e).1 (nxT b o e).2 fun z => ?_
      rcases List.mem_cons.mp (I'.stkSub b z) with z | z
      · have := Nat.lt_of_lt_of_le (Heap.lt_size e) I'.ok.above
        rw [z] at this
        exact absurd this (Nat.lt_irrefl _)
      · exact hb z
    · obtain ⟨sl, e1⟩ := B.slot b o e n hb (nx b)
      obtain ⟨sl2, e2⟩ := any b _ (nxT b o e).1 (nxT b o e).2 e1
      exact ⟨sl2, e2⟩
    · obtain ⟨o', e1⟩ := B.there b o e (nx b)
      obtain ⟨sl, e2⟩ := any b o' (nxT b o e).1 (nxT b o e).2 e1
      exact ⟨_, e2⟩
  have hok2 : HOk P w H' h'' := hok_keeps hok fun b u hb e => kept b u e (fun z => hb (by rw [z]; exact fly.xh)) (fun z => hb (by rw [z]; exact hHT)) (fun z => hb (I'.stkFree b z))
  obtain ⟨oe2, vs2, T2, oT2, ts2, he2, hc2, hd2, h12, hnT2, hTe2, hT2, hdT2, h32⟩ := fl2.2.2.2
  have T2n : s'.heap.get? T2 = none ∨ T2 = T := by
    by_cases e : T2 = T
    · exact .inr e
    · refine .inl ?_
      cases z : s'.heap.get? T2 with
      | none => rfl
      | some o =>
        by_cases hb : T2 ∈ frs (cxOf (CX1 P w) P w K mg base N qual scope f cd A outer s H E).stack
        · obtain ⟨sl, e2⟩ := slots T2 o hb z
          rw [hT2] at e2
          cases e2
          exact absurd hdT2 (nf T2 o hb z ts2)
        · rw [PySem.W.hideAll_get _ z (by simp [hTe2, e, hb])] at hnT2
          cases hnT2
  have backS : s.heap.get? T2 = none ∧ H' T2 = none := by
    rcases T2n with z | z
    · refine ⟨?_, hok_none hok z⟩
      cases u : s.heap.get? T2 with
      | none => rfl
      | some o =>
        obtain ⟨o', e1⟩ := I'.base.there T2 o u (fun y => absurd (show T2 ∈ ([] : List Addr) from y) (by simp))
        rw [z] at e1
        cases e1
    · rw [z]
      exact ⟨Ts0, hHT⟩
  exact ⟨x, C, H', rfl, I'.os, bare, unO, hok2, ⟨⟨oe2, vs2, T2, oT2, ts2, _, he2, hc2, hd2, h12, backS.1, hTe2, hT2, hdT2, h32, backS.2⟩, xs0, fly.xh⟩, q⟩
end

/-- an expression that may raise: its reading with a wish for the exception -/
abbrev TEX := St → Hp → VK → XK → Prop
def PX (X : Cx) (e : Expr) (t : TEX) : Prop :=
  ∀ (Ew : Value → Shared → Prop) (pins : List (Addr × Obj)) (s : Shared) (σ : St) (H : Hp) (Q : VK) (E : XK), Inv X pins σ H s → t σ H Q E →
    (∀ H1 s1 v s', Inv X pins σ H1 s1 → CX1 X.prog X.w X.stack H1 s1 E v s' → Ew v s') → wpAny (model X.prog X.w) X.A (eval e X.env) (EP X pins σ Q) Ew s
section
variable {X : Cx} {k : Nat} {f : Addr} {fd : FuncData} {ps : List Str} {sp : Sp} {x : Str} {p pos : Pos} {ex : Expr} {es : List Expr} {t : TA}
def tXCall (sp : Sp) (t : TA) : TEX := fun σ H Q E => t σ H fun vs H1 => sp vs H1 Q E
theorem px_call (F : FnOk X.prog X.w X.K X.mg X.base (CX1 X.prog X.w) k f fd ps sp) (hr : Room k X.A) (hg : Gl X x) (hm : X.mg x = some (.ref f)) (hk : PySem.W.keepIn X.K (.ref f) = true) (hb : Binds X.K fd ps [])
    (ha : ∀ Ew, PA (X.wish Ew) (ex :: es) t) (hdb : (x == ("__debug__" : Str)) = false := by decide)
    (he : starEach (ex :: es) X.env = (false, eval ex X.env) :: starEach es X.env := by rfl) (hpl : (backTo pos (starEach es X.env)).any (·.1) = false := by rfl) : PX X (.Call (.Name x p) (ex :: es) [] pos) (tXCall sp t) := by
  intro Ew pins s σ H Q E I h hE
  refine wpAny_Call_Name_kw (ld_glob I hg hm ?_ hdb)
  have ha' := ha Ew pos pins s σ H _ (I.wish _) h
  refine PySem.W.callWith_K (h₀ := X.base) I.ok.mod.kin hk (thn ha' fun us s1 ⟨vs, H1, I1, r, q⟩ => ⟨I1.unwish.kIn, ?_⟩) he hpl
  have I1' : Inv X pins σ H1 s1 := I1.unwish
  have hl' : (us ++ []).length = ps.length := by rw [List.append_nil, ← r.length]; exact F.len _ _ _ _ q
  have hb' := hb s1 us I1'.kIn hl'
  rw [List.append_nil] at hb'
  refine wpAny_call (codeAny_mono (F.run X.A X.stack s1 H1 ⟨us, []⟩ us vs _ _ hr I1'.env0 hb' r q) fun rr s' hq => ?_)
  cases rr with
  | error e => exact hE H1 s1 e s' I1' hq
  | ok fl =>
    cases fl with
    | ret u => exact I1'.after hq
    | next => exact False.elim hq
    | brk => exact False.elim hq
    | cont => exact False.elim hq
end
section
variable {X : Cx} {n R : Str} {rp hpos tp p1 : Pos} {e : Expr} {te : TEX} {i : Nat} {D : Addr} {b₀ : Stmt} {suite : List Stmt} {ts : TS}
/-- the parts of a clause «except R as n: suite» -/
structure Clause (X : Cx) (i : Nat) (n R : Str) (D : Addr) (b₀ : Stmt) (suite : List Stmt) (ts : TS) : Prop where
  st : X.stack = X.env :: X.outer ∧ X.env.frame = some X.env.locals
  g : Gl X R
  m : X.mg R = some (.ref D)
  z : ClauseK X.K D
  nd : X.N.Nodup
  ix : X.N[i]? = some n
  lo : X.env.scope.names.lookup n = some .local
  su : ∀ z, PSs (X.inex z) (b₀ :: suite) ts
  db : (R == ("__debug__" : Str)) = false
end
end Fr

set_option Elab.async false
set_option linter.all false
set_option maxRecDepth 100000
namespace L2
open PySem PySem.Spec PyProof.Rows

/-! ### lists of pairs as tables -/
section
variable {κ : Type} [DecidableEq κ]
def valV (kvs : List (κ × V)) (k : κ) : Option V := (kvs.find? fun kv => decide (kv.1 = k)).map (·.2)
/-- in its place, or at the end -/
def putK (kvs : List (κ × V)) (k : κ) (v : V) : List (κ × V) :=
  if (kvs.any fun kv => decide (kv.1 = k)) = true then kvs.map (fun kv => if kv.1 = k then (kv.1, v) else kv) else kvs ++ [(k, v)]
def dropK (kvs : List (κ × V)) (k : κ) : List (κ × V) := kvs.filter fun kv => decide (kv.1 ≠ k)

theorem valV_pos {p : κ × V} {r : List (κ × V)} {k : κ} (e : p.1 = k) : valV (p :: r) k = some p.2 := by simp [valV, List.find?_cons, e]
theorem valV_neg {p : κ × V} {r : List (κ × V)} {k : κ} (e : ¬ p.1 = k) : valV (p :: r) k = valV r k := by simp [valV, List.find?_cons, e]
theorem valV_any (k : κ) : ∀ kvs : List (κ × V), (kvs.any fun kv => decide (kv.1 = k)) = (valV kvs k).isSome
  | [] => rfl
  | p :: r => by
    rw [List.any_cons]
    by_cases e : p.1 = k
    · simp only [valV_pos e, decide_eq_true e, Bool.true_or, Option.isSome_some]
    · rw [valV_neg e, decide_eq_false e, Bool.false_or]; exact valV_any k r
theorem length_putK (kvs : List (κ × V)) (k : κ) (v : V) : (putK kvs k v).length ≤ kvs.length + 1 := by
  unfold putK
  split
  · rw [List.length_map]; omega
  · rw [List.length_append, List.length_cons, List.length_nil]; omega
theorem putK_new {kvs : List (κ × V)} {k : κ} (v : V) (h : valV kvs k = none) : putK kvs k v = kvs ++ [(k, v)] := by
  unfold putK
  rw [valV_any, h]
  exact if_neg (by decide)

theorem RelO.isSome_eq {o : Option V} {u : Option Value} (r : RelO o u) : o.isSome = u.isSome := by
  cases o with
  | none => cases u with
    | none => rfl
    | some _ => exact (show False from r).elim
  | some _ => cases u with
    | none => exact (show False from r).elim
    | some _ => rfl
theorem RelO.getD {o : Option V} {u : Option Value} {d : V} {d' : Value} (r : RelO o u) (rd : RelV d d') : RelV (o.getD d) (u.getD d') := by
  cases o with
  | none => cases u with
    | none => exact rd
    | some _ => exact (show False from r).elim
  | some _ => cases u with
    | none => exact (show False from r).elim
    | some _ => exact r

/-- raw tables of the same keys -/
theorem KV.val {kvs : List (κ × V)} {vs : List (κ × Value)} (r : KV kvs vs) (k : κ) : RelO (valV kvs k) (valueAt vs k) := by
  unfold KV at r
  induction r with
  | nil => exact True.intro
  | @cons p q ps qs h t ih =>
    obtain ⟨h1, h2⟩ := h
    by_cases e : p.1 = k
    · have e' : q.1 = k := h1.symm.trans e
      have b : valueAt (q :: qs) k = some q.2 := by simp [valueAt, List.find?_cons, e']
      rw [valV_pos e, b]; exact h2
    · have e' : ¬ q.1 = k := fun z => e (h1.trans z)
      have b : valueAt (q :: qs) k = valueAt qs k := by simp [valueAt, List.find?_cons, e']
      rw [valV_neg e, b]; exact ih
theorem KV.any {kvs : List (κ × V)} {vs : List (κ × Value)} (r : KV kvs vs) (k : κ) : (kvs.any fun kv => decide (kv.1 = k)) = vs.any fun kv => decide (kv.1 = k) := by
  unfold KV at r
  induction r with
  | nil => rfl
  | cons h t ih => rw [List.any_cons, List.any_cons, ih, h.1]
theorem KV.repl {kvs : List (κ × V)} {vs : List (κ × Value)} (r : KV kvs vs) (k : κ) {y : V} {u : Value} (ry : RelV y u) :
    KV (kvs.map fun kv => if kv.1 = k then (kv.1, y) else kv) (vs.map fun kv => if kv.1 = k then (kv.1, u) else kv) := by
  unfold KV at r ⊢
  induction r with
  | nil => exact .nil
  | @cons p q ps qs h t ih =>
    rw [List.map_cons, List.map_cons]
    refine .cons ?_ ih
    obtain ⟨h1, h2⟩ := h
    by_cases e : p.1 = k
    · rw [if_pos e, if_pos (h1.symm.trans e)]; exact ⟨h1, ry⟩
    · rw [if_neg e, if_neg (fun z => e (h1.trans z))]; exact ⟨h1, h2⟩
theorem KV.put {kvs : List (κ × V)} {vs : List (κ × Value)} (r : KV kvs vs) (k : κ) {y : V} {u : Value} (ry : RelV y u) : KV (putK kvs k y) (stored vs k u) := by
  unfold putK stored
  rw [r.any k]
  by_cases e : (vs.any fun kv => decide (kv.1 = k)) = true
  · rw [if_pos e, if_pos e]; exact r.repl k ry
  · rw [if_neg e, if_neg e]; exact Paired.snoc r ⟨rfl, ry⟩
theorem KV.drop {kvs : List (κ × V)} {vs : List (κ × Value)} (r : KV kvs vs) (k : κ) : KV (dropK kvs k) (without vs k) := by
  unfold KV at r ⊢
  unfold dropK without
  induction r with
  | nil => exact .nil
  | @cons p q ps qs h t ih =>
    obtain ⟨h1, h2⟩ := h
    rw [List.filter_cons, List.filter_cons]
    by_cases e : p.1 = k
    · have a : ¬ decide (p.1 ≠ k) = true := by simp [e]
      have b : ¬ decide (q.1 ≠ k) = true := by simp [h1.symm.trans e]
      rw [if_neg a, if_neg b]; exact ih
    · have e' : ¬ q.1 = k := fun z => e (h1.trans z)
      have a : decide (p.1 ≠ k) = true := by simp [e]
      have b : decide (q.1 ≠ k) = true := by simp [e']
      rw [if_pos a, if_pos b]; exact .cons ⟨h1, h2⟩ ih
theorem KV.length {kvs : List (κ × V)} {vs : List (κ × Value)} (r : KV kvs vs) : kvs.length = vs.length := Paired.length r
end


/-! ### a tracked dict, its keys ints and texts or tuples of these -/
theorem kV_is {P : Program} {w : World} {k : Key} {u : Value} (r : RelV (kV k) u) : (mixKind P w).is k u = true := by
  cases k with
  | inl i => obtain ⟨t, e⟩ := (show ∃ t, u = Value.int i t from r); subst e; exact mixKind_int P w i t
  | inr x => obtain ⟨t, e⟩ := (show ∃ t, u = Value.str x t from r); subst e; exact mixKind_str P w x t
theorem items_are {P : Program} {w : World} : ∀ {ks : List Key} {us : List Value}, Vals (ks.map kV) us → ItemsAre (mixKind P w) ks us
  | [], _, r => by rw [List.map_nil] at r; cases r; exact .nil
  | k :: ks, _, r => by
    rw [List.map_cons] at r
    cases r with
    | cons h t => exact .cons (kV_is h) (items_are t)

/-- raw entries of a dict with tuple keys -/
abbrev KT (H : Hp) : List (List Key × V) → List (List Key × Addr × Value) → Prop := Paired fun p q => p.1 = q.1 ∧ H q.2.1 = some (.tup (p.1.map kV)) ∧ RelV p.2 q.2.2
theorem KT.val {H : Hp} {kvs : List (List Key × V)} {xs : List (List Key × Addr × Value)} (r : KT H kvs xs) (k : List Key) : RelO (valV kvs k) ((atKey xs k).map (·.2)) := by
  induction r with
  | nil => exact True.intro
  | @cons p q ps qs h t ih =>
    obtain ⟨h1, _, h2⟩ := h
    by_cases e : p.1 = k
    · have e' : q.1 = k := h1.symm.trans e
      have b : atKey (q :: qs) k = some q.2 := by simp [atKey, List.find?_cons, e']
      rw [valV_pos e, b]; exact h2
    · have e' : ¬ q.1 = k := fun z => e (h1.trans z)
      have b : atKey (q :: qs) k = atKey qs k := by simp [atKey, List.find?_cons, e']
      rw [valV_neg e, b]; exact ih
theorem KT.repl {H : Hp} {kvs : List (List Key × V)} {xs : List (List Key × Addr × Value)} (r : KT H kvs xs) (k : List Key) {y : V} {u : Value} (ry : RelV y u) :
    KT H (kvs.map fun kv => if kv.1 = k then (kv.1, y) else kv) (xs.map (putAt k u)) := by
  induction r with
  | nil => exact .nil
  | @cons p q ps qs h t ih =>
    rw [List.map_cons, List.map_cons]
    refine .cons ?_ ih
    obtain ⟨h1, h2, h3⟩ := h
    unfold putAt
    by_cases e : p.1 = k
    · rw [if_pos e, if_pos (h1.symm.trans e)]; exact ⟨h1, h2, ry⟩
    · rw [if_neg e, if_neg (fun z => e (h1.trans z))]; exact ⟨h1, h2, h3⟩
theorem KT.put {H : Hp} {kvs : List (List Key × V)} {xs : List (List Key × Addr × Value)} (r : KT H kvs xs) (k : List Key) {b : Addr} {y : V} {u : Value} (hb : H b = some (.tup (k.map kV))) (ry : RelV y u) :
    KT H (putK kvs k y) (storedH xs k b u) := by
  have e : (kvs.any fun kv => decide (kv.1 = k)) = (atKey xs k).isSome := by
    rw [valV_any, (r.val k).isSome_eq, Option.isSome_map]
  unfold putK storedH
  rw [e]
  by_cases q : (atKey xs k).isSome = true
  · rw [if_pos q, if_pos q]; exact r.repl k ry
  · rw [if_neg q, if_neg q]; exact Paired.snoc r ⟨rfl, hb, ry⟩
theorem KT.keeps {H H' : Hp} {kvs : List (List Key × V)} {xs : List (List Key × Addr × Value)} (r : KT H kvs xs) (ht : ∀ b ys, H b = some (.tup ys) → H' b = some (.tup ys)) : KT H' kvs xs :=
  Paired.mapP r fun _ _ z => ⟨z.1, ht _ _ z.2.1, z.2.2⟩

section
variable {P : Program} {w : World} {H : Hp} {h : Heap} {a : Addr}
theorem rd_of {u : HO} (ok : HOk P w H h) (e : Rd H a u) : ObjOk P w H h a u := e.ok ok
theorem dk_rd {kvs : List (Key × V)} (ok : HOk P w H h) (e : Rd H a (.dK kvs)) : kvs.length ≤ sizeLine ∧ (a == sysModules) = false ∧ ∃ vs, KV kvs vs ∧ h.DictOf (mixKind P w) a vs :=
  show ObjOk P w H h a (.dK kvs) from rd_of ok e
theorem dk_of {kvs : List (Key × V)} (ok : HOk P w H h) (e : H a = some (.dK kvs)) : kvs.length ≤ sizeLine ∧ (a == sysModules) = false ∧ ∃ vs, KV kvs vs ∧ h.DictOf (mixKind P w) a vs := dk_rd ok (.inl e)
/-- a tracked tuple of ints and texts is a key -/
theorem key_of {ks : List Key} (ok : HOk P w H h) (e : H a = some (.tup (ks.map kV))) : (tupleKind (mixKind P w)).is h ks a := by
  obtain ⟨_, its, r, o, h1, h2, n, h3⟩ := (show ObjOk P w H h a (.tup (ks.map kV)) from ok a _ e)
  exact ⟨o, its.toArray, n, h1, h2, h3, by simpa using items_are r⟩
theorem dt_rd {kvs : List (List Key × V)} (ok : HOk P w H h) (e : Rd H a (.dT kvs)) : kvs.length ≤ sizeLine ∧ (a == sysModules) = false ∧
    ∃ xs, KT H kvs xs ∧ h.DictOfH (tupleKind (mixKind P w)) a xs := by
  obtain ⟨z, y, xs, r, o, es, ep, h1, h2, h3, h4, h5⟩ := (show ObjOk P w H h a (.dT kvs) from rd_of ok e)
  refine ⟨z, y, xs, r, o, es, ep, h1, h2, h3, h4, fun x hx => ?_, h5⟩
  have all : ∀ {l : List (List Key × V)} {m : List (List Key × Addr × Value)}, KT H l m → ∀ x ∈ m, (tupleKind (mixKind P w)).is h x.1 x.2.1 := by
    intro l m q
    induction q with
    | nil => intro x hx; exact nomatch hx
    | @cons p q ps qs hq t ih =>
      intro x hx
      rcases List.mem_cons.mp hx with e | hx
      · subst e
        exact key_of ok (by rw [← hq.1]; exact hq.2.1)
      · exact ih x hx
  exact all r x hx
theorem dt_of {kvs : List (List Key × V)} (ok : HOk P w H h) (e : H a = some (.dT kvs)) : kvs.length ≤ sizeLine ∧ (a == sysModules) = false ∧
    ∃ xs, KT H kvs xs ∧ h.DictOfH (tupleKind (mixKind P w)) a xs := dt_rd ok (.inl e)
end

/-- what the dict at a holds at the key y -/
def DGet (H : Hp) (a : Addr) (y : V) (r : Option V) : Prop :=
  (∃ kvs k, Rd H a (.dK kvs) ∧ y = kV k ∧ r = valV kvs k) ∨ ∃ kvs k b, Rd H a (.dT kvs) ∧ y = .ref b ∧ H b = some (.tup (k.map kV)) ∧ r = valV kvs k
/-- the heap behind a[y] = v -/
def DPut (H : Hp) (a : Addr) (y v : V) (H' : Hp) : Prop :=
  (∃ kvs k, H a = some (.dK kvs) ∧ y = kV k ∧ kvs.length < sizeLine ∧ H' = upd H a (.dK (putK kvs k v))) ∨
  ∃ kvs k b, H a = some (.dT kvs) ∧ y = .ref b ∧ H b = some (.tup (k.map kV)) ∧ kvs.length < sizeLine ∧ H' = upd H a (.dT (putK kvs k v))
theorem DGet.k {H : Hp} {a : Addr} {kvs : List (Key × V)} {k : Key} (e : H a = some (.dK kvs)) : DGet H a (kV k) (valV kvs k) := .inl ⟨kvs, k, .inl e, rfl, rfl⟩
theorem DGet.t {H : Hp} {a b : Addr} {kvs : List (List Key × V)} {k : List Key} (e : H a = some (.dT kvs)) (eb : H b = some (.tup (k.map kV))) : DGet H a (.ref b) (valV kvs k) := .inr ⟨kvs, k, b, .inl e, rfl, eb, rfl⟩
theorem DPut.k {H : Hp} {a : Addr} {kvs : List (Key × V)} {k : Key} {v : V} (e : H a = some (.dK kvs)) (hl : kvs.length < sizeLine) : DPut H a (kV k) v (upd H a (.dK (putK kvs k v))) := .inl ⟨kvs, k, e, rfl, hl, rfl⟩
theorem DPut.t {H : Hp} {a b : Addr} {kvs : List (List Key × V)} {k : List Key} {v : V} (e : H a = some (.dT kvs)) (eb : H b = some (.tup (k.map kV))) (hl : kvs.length < sizeLine) :
    DPut H a (.ref b) v (upd H a (.dT (putK kvs k v))) := .inr ⟨kvs, k, b, e, rfl, eb, hl, rfl⟩


section
variable {X : Cx} {pins : List (Addr × Obj)} {σ : St} {H : Hp} {s : Shared} {a : Addr} {y v : V} {u r : Value} {o : Option V} {A : Around} {E : Value → Shared → Prop}

theorem Inv.big (I : Inv X pins σ H s) : sysModules < s.heap.objs.size := by
  have h : mainGlobals < s.heap.objs.size := (I.mod.glob.keeps I.bk).lt
  exact Nat.lt_trans (by decide) h

theorem d_notIn {Q : Value → Shared → Prop} (hu : A.units + 1 < cLine) (I : Inv X pins σ H s) (g : DGet H a y o) (ry : RelV y u) (h : ∀ s', Inv X pins σ H s' → Q (.bool (!o.isSome)) s') :
    wpAny (model X.prog X.w) A (compareOp .NotIn u (.ref a)) Q E s := by
  rcases g with ⟨kvs, k, e, ey, l⟩ | ⟨kvs, k, b, e, ey, eb, l⟩
  · subst ey
    obtain ⟨z, hd, vs, rel, dd⟩ := dk_rd I.hok e
    refine wpAny_notIn_of (kV_is ry) hd dd.mapOf ?_
    rw [← (rel.val k).isSome_eq, ← l]
    exact h _ (I.tok _)
  · subst ey
    cases (show u = Value.ref b from ry)
    obtain ⟨z, hd, xs, rel, dd⟩ := dt_rd I.hok e
    refine wpAny_notIn_heap (tupleKind_room_in1 hu) (key_of I.hok eb) hd dd ?_
    have q := (rel.val k).isSome_eq
    rw [Option.isSome_map] at q
    rw [← q, ← l]
    exact h _ (I.tok _)
/-- a dict's object is replaced -/
theorem d_write {h' : Heap} {t' : Nat} {ob : HO} (I : Inv X pins σ H s) (mu : Mut (H a)) (hs : Heap.SameBut a s.heap h') (he : ∃ q, h'.get? a = some q) (new : ObjOk X.prog X.w (upd H a ob) h' a ob) :
    Inv X pins σ (upd H a ob) { s with heap := h', toks := t' } :=
  I.write (x := a) (e := a) mu (.inl rfl) (fun b q hb z => (hs.2 b hb).trans z) he new
theorem dk_new {P : Program} {w : World} {H' : Hp} {h' : Heap} {kvs : List (Key × V)} {vs : List (Key × Value)} (z : kvs.length ≤ sizeLine) (hd : (a == sysModules) = false) (rel : KV kvs vs) (dd : h'.DictOf (mixKind P w) a vs) :
    ObjOk P w H' h' a (.dK kvs) := ⟨z, hd, vs, rel, dd⟩
/-- d[y] = v -/
theorem d_setItem {H' : Hp} {Q : Unit → Shared → Prop} (hu : A.units + 1 < cLine) (I : Inv X pins σ H s) (g : DPut H a y v H') (ry : RelV y u) (rv : RelV v r) (h : ∀ s', Inv X pins σ H' s' → Q () s') :
    wpAny (model X.prog X.w) A (setItem (.ref a) u r) Q E s := by
  rcases g with ⟨kvs, k, e, ey, l, eH⟩ | ⟨kvs, k, b, e, ey, eb, l, eH⟩
  · subst ey eH
    obtain ⟨z, hd, vs, rel, dd⟩ := dk_of I.hok e
    have hz : vs.length ≤ sizeLine := by rw [← rel.length]; exact z
    have hl : (putK kvs k v).length ≤ sizeLine := by have := length_putK kvs k v; omega
    refine wpAny_setItem_pairs (hsz := hz) (kV_is ry) dd fun h' dd' hs => h _ ?_
    have he : ∃ q, h'.get? a = some q := let ⟨q, _, _, hq, _⟩ := dd'; ⟨q, hq⟩
    exact d_write I (by rw [e]; exact True.intro) hs he (dk_new hl hd (rel.put k rv) dd')
  · subst ey eH
    cases (show u = Value.ref b from ry)
    obtain ⟨z, hd, xs, rel, dd⟩ := dt_of I.hok e
    have hz : xs.length ≤ sizeLine := by rw [← Paired.length rel]; exact z
    have hl : (putK kvs k v).length ≤ sizeLine := by have := length_putK kvs k v; omega
    refine wpAny_setItem_heap (hsz := hz) (tupleKind_room_in1 hu) (key_of I.hok eb) dd fun h' dd' hs => h _ ?_
    obtain ⟨q, es, ep, hq, h2, h3, h4, _, h5⟩ := dd'
    refine d_write I (by rw [e]; exact True.intro) hs ⟨q, hq⟩ ⟨hl, hd, _, (rel.put k eb rv).keeps fun c ys ec => ?_, q, es, ep, hq, h2, h3, h4, h5⟩
    rw [upd_ne (ne_of ec e (fun z => nomatch z))]
    exact ec
end

section
variable {X : Cx} {pins : List (Addr × Obj)} {σ : St} {H : Hp} {s : Shared} {a : Addr} {kvs : List (Key × V)} {k : Key} {u : Value} {A : Around} {E : Value → Shared → Prop}
end


/-! ### readings and rules -/
def tDNotIn (ty td : TE) : TE := fun σ H Q => ty σ H fun y H1 => td σ H1 fun x H2 => ∃ a o, x = .ref a ∧ DGet H2 a y o ∧ Q (.bl (!o.isSome)) H2
/-- d[y] = v -/
def sDPut (td ty tv : TE) : TS := fun D σ H => tv σ H fun v H1 => td σ H1 fun x H2 => ty σ H2 fun y H3 => ∃ a H4, x = .ref a ∧ DPut H3 a y v H4 ∧ D.nx σ H4
section
variable {X : Cx} {o i e value : Expr} {pos pos' tpos : Pos} {td ty tv : TE}
theorem pc_dnotin (hu : X.A.units + 1 < cLine) (hi : PE X i ty) (ho : PE X o td) : PC X .NotIn i o (tDNotIn ty td) := by
  intro pins s σ H Q I h
  refine thn (hi pins s σ H _ I h) fun iv s1 ⟨y, H1, I1, ry, q1⟩ => thn (ho pins s1 σ H1 _ I1 q1) fun u s2 ⟨x, H2, I2, rx, a, ov, ex, g, q2⟩ => ?_
  subst ex
  obtain rfl : u = Value.ref a := rx
  exact d_notIn hu I2 g ry fun s3 I3 => ⟨.bl (!ov.isSome), H2, I3, rfl, q2⟩
theorem ps_dput (hu : X.A.units + 1 < cLine) (ho : PE X o td) (hi : PE X i ty) (hv : PE X value tv) (hs : swapsWith value (some (.Subscript o i pos')) pos.line X.env = pure false) :
    PS X (.Assign [.Subscript o i pos'] value pos) (sDPut td ty tv) := by
  intro pins s σ H D I h
  refine wpAny_Assign_Subscript (thn (hv pins s σ H _ I h) fun r s1 ⟨v, H1, I1, rv, q1⟩ => thn (ho pins s1 σ H1 _ I1 q1) fun u s2 ⟨x, H2, I2, rx, q2⟩ => thn (hi pins s2 σ H2 _ I2 q2) fun iv s3 ⟨y, H3, I3, ry, a, H4, ex, g, q3⟩ => ?_) hs
  subst ex
  obtain rfl : u = Value.ref a := rx
  exact d_setItem hu I3 g ry rv fun s4 I4 => ⟨σ, H4, I4, q3⟩
end


/-! ### displays -/
theorem dt_empty {P : Program} {w : World} {H : Hp} (h : Heap) (hb : sysModules < h.objs.size) : ObjOk P w H (h.push { cls := .type "dict", data := .dict #[] }) h.objs.size (.dT []) :=
  ⟨Nat.zero_le _, beq_eq_false_iff_ne.mpr (Ne.symm (Nat.ne_of_lt hb)), [], .nil, _, #[], 0, Heap.get?_push_size _ rfl, ⟨rfl, rfl, rfl⟩, rfl, rfl, List.nodup_nil⟩
def tDNewT : TE := fun _ H Q => ∀ p, H p = none → Q (.ref p) (upd H p (.dT []))
section
variable {X : Cx} {pos : Pos}
theorem pe_dnewT : PE X (.Dict [] [] pos) tDNewT := fun pins s σ H Q I h =>
  wpAny_Dict_empty ⟨.ref s.heap.objs.size, _, I.laid (a := s.heap.objs.size) (o := .dT []) (t' := s.toks) (fun _ _ q => Heap.get?_push_of_some _ q) (Nat.le_refl _) (dt_empty s.heap I.big), rfl, h _ (I.hok.fresh (Nat.le_refl _))⟩
end

/-! ### methods -/
/-- a method call o.m(e) of a built-in, with one argument: what must be seen of the text -/
structure M1 (X : Cx) (o : Expr) (m : Str) (apos : Pos) (e : Expr) (cpos : Pos) : Prop where
  base : attributeBase o m X.env (eval o X.env) = eval o X.env
  few : ((backTo cpos (starEach [e] X.env)).all (fun x => !x.1) && (backToKw cpos (keywordEach [] X.env)).all (fun x => x.1.isSome)
    && decide (([e] : List Expr).length + ([] : List Keyword).length + (if ([] : List Keyword).isEmpty then 0 else 1) < 30)) = true
  line : (apos.endLine == cpos.line) = true
  trees : backTo cpos (starEach [e] X.env) = [(false, eval e X.env)]
structure M2 (X : Cx) (o : Expr) (m : Str) (apos : Pos) (e f : Expr) (cpos : Pos) : Prop where
  base : attributeBase o m X.env (eval o X.env) = eval o X.env
  few : ((backTo cpos (starEach [e, f] X.env)).all (fun x => !x.1) && (backToKw cpos (keywordEach [] X.env)).all (fun x => x.1.isSome)
    && decide (([e, f] : List Expr).length + ([] : List Keyword).length + (if ([] : List Keyword).isEmpty then 0 else 1) < 30)) = true
  line : (apos.endLine == cpos.line) = true
  trees : backTo cpos (starEach [e, f] X.env) = [(false, eval e X.env), (false, eval f X.env)]

/-- a is a dict, whatever its keys -/
def IsD (H : Hp) (a : Addr) : Prop := (∃ kvs, Rd H a (.dK kvs)) ∨ ∃ kvs, Rd H a (.dT kvs)
section
variable {X : Cx} {pins : List (Addr × Obj)} {σ : St} {H : Hp} {s : Shared} {a : Addr} {y d : V} {u r : Value} {o : Option V} {A : Around} {E : Value → Shared → Prop}
end

section
variable {X : Cx} {o e f : Expr} {apos cpos : Pos} {td ty tx : TE}
end

/-! ### dict(d): a copy -/
section
variable {X : Cx} {pins : List (Addr × Obj)} {σ : St} {H : Hp} {s : Shared} {a : Addr} {kvs : List (Key × V)} {A : Around} {E : Value → Shared → Prop}
end


section
variable {X : Cx} {pins : List (Addr × Obj)} {σ : St} {H : Hp} {s : Shared} {a : Addr} {y : V} {u : Value} {A : Around} {E : Value → Shared → Prop}
end
end L2


set_option Elab.async false
set_option linter.all false
set_option maxRecDepth 100000
set_option exponentiation.threshold 2000
/-! Wide numbers under one lid; tables of two pairs as values. -/
namespace Fr
open PySem PySem.Spec L2
open PyProof.Rows hiding St
def Big : Nat := 2 ^ 1000
theorem big : 10 ^ 200 ≤ Big := Nat.le_of_ble_eq_true rfl
section
variable {X : Cx}
end
/-! ### tables -/
def MatV (K : PySem.W.Frag) (H : Hp) (v : V) (a b c d : Int) : Prop := ∃ t r1 r2 : Addr, v = .ref t ∧ SqT K H t [.ref r1, .ref r2] ∧ SqT K H r1 [.int a, .int b] ∧ SqT K H r2 [.int c, .int d]
theorem MatV.same {K : PySem.W.Frag} {H H' : Hp} {v : V} {a b c d : Int} (m : MatV K H v a b c d) (e : Same H H') : MatV K H' v a b c d := by
  obtain ⟨t, r1, r2, rfl, h1, h2, h3⟩ := m
  exact ⟨t, r1, r2, rfl, sqT_same e h1, sqT_same e h2, sqT_same e h3⟩
theorem MatV.keep {K : PySem.W.Frag} {H H' : Hp} {v : V} {a b c d : Int} {l : Addr} {zs : List V} (m : MatV K H v a b c d) (hp : H l = some (.lst zs)) (e : Keep l H H') : MatV K H' v a b c d := by
  obtain ⟨t, r1, r2, rfl, h1, h2, h3⟩ := m
  exact ⟨t, r1, r2, rfl, sqT_keep hp e h1, sqT_keep hp e h2, sqT_keep hp e h3⟩
def matD (a b c d : Int) : PyData := .tuple [dat (a, b), dat (c, d)]
theorem MatV.isD {K : PySem.W.Frag} {H : Hp} {v : V} {a b c d : Int} (m : MatV K H v a b c d) : IsD K H v (matD a b c d) := by
  obtain ⟨t, r1, r2, rfl, h1, h2, h3⟩ := m
  exact .tup h1 (.cons (PairV.isD ⟨r1, rfl, h2⟩) (.cons (PairV.isD ⟨r2, rfl, h3⟩) .nil))
/-! ### where a turning leads -/
end Fr

set_option Elab.async false
set_option linter.all false
set_option maxRecDepth 100000
/-! A layer of plain data over the hand layer: tuples, lists, dicts and objects as data; lists, dicts and instances that a def owns change by name. -/
universe u1 u2 u3 u4
namespace Fr
open PySem PySem.Spec L2
/-- a code object's table, as it may stand -/
def TabAt (P : Addr) (h : Heap) : Prop := ∃ ps : Array Value, h.get? P = some { cls := .none, data := .fields ps } ∧ TriplesOk ps.toList
def TabP (P : Addr) : HO := .ext (TabAt P)
end Fr
namespace L3
open PySem PySem.Spec L2

theorem ex4 {α : Sort u1} {β : Sort u2} {γ : Sort u3} {ε : Sort u4} {A B C D : α → β → γ → ε → Prop} {G : Prop} (h : ∃ a b c d, A a b c d ∧ B a b c d ∧ C a b c d ∧ D a b c d) (k : ∀ a b c d, A a b c d → B a b c d → C a b c d → D a b c d → G) : G := by
  obtain ⟨a, b, c, d, h1, h2, h3, h4⟩ := h
  exact k a b c d h1 h2 h3 h4
inductive D where
  | non | bl (b : Bool) | int (i : Int) | str (x : Str) | ty (n : String) | adr (a : Addr)
  | tup (xs : List D) | lst (xs : List D)
  | dT (kvs : List (List Key × D)) | dK (kvs : List (Key × D))
  | obj (C : Addr) (fs : List (Str × D))
  | scr (ns : List Int)
  | exc (C : Addr)
instance : Inhabited D := ⟨.non⟩

theorem m1I {xs : List D} {P : Int → Prop} (h : match xs with
  | [.int j] => P j
  | _ => False) : ∃ j, xs = [.int j] ∧ P j := by
  split at h
  · exact ⟨_, rfl, h⟩
  · exact h.elim
theorem m2I {xs : List D} {P : Int → Int → Prop} (h : match xs with
  | [.int i, .int j] => P i j
  | _ => False) : ∃ i j, xs = [.int i, .int j] ∧ P i j := by
  split at h
  · exact ⟨_, _, rfl, h⟩
  · exact h.elim
mutual
inductive Rp (K : PySem.W.Frag) (F : Hp) : V → D → Prop
  | non : Rp K F .non .non
  | bl (b : Bool) : Rp K F (.bl b) (.bl b)
  | int (i : Int) : Rp K F (.int i) (.int i)
  | str (x : Str) : Rp K F (.str x) (.str x)
  | ty (n : String) : Rp K F (.ty n) (.ty n)
  | adr (a : Addr) : Rp K F (.ref a) (.adr a)
  | tup {a : Addr} {xs : List V} {ds : List D} : SqT K F a xs → Rps K F xs ds → Rp K F (.ref a) (.tup ds)
  | scr {a : Addr} {ns : List Int} : SqL K F a (ns.map V.int) → Rp K F (.ref a) (.scr ns)
  | lst {a : Addr} {xs : List V} {ds : List D} : F a = some (.lst xs) → Rps K F xs ds → Rp K F (.ref a) (.lst ds)
  | dT {a : Addr} {kvs : List (List Key × V)} {dvs : List (List Key × D)} : F a = some (.dT kvs) → kvs.map (·.1) = dvs.map (·.1) → Rps K F (kvs.map (·.2)) (dvs.map (·.2)) → Rp K F (.ref a) (.dT dvs)
  | dK {a : Addr} {kvs : List (Key × V)} {dvs : List (Key × D)} : F a = some (.dK kvs) → kvs.map (·.1) = dvs.map (·.1) → Rps K F (kvs.map (·.2)) (dvs.map (·.2)) → Rp K F (.ref a) (.dK dvs)
  | exc {a C : Addr} : F a = some (Fr.ExcO a C) → Rp K F (.ref a) (.exc C)
  | obj {a C dx : Addr} {fs : List (Str × V)} {dfs : List (Str × D)} : F a = some (.ins C dx fs) → fs.map (·.1) = dfs.map (·.1) → Rps K F (fs.map (·.2)) (dfs.map (·.2)) → Rp K F (.ref a) (.obj C dfs)
inductive Rps (K : PySem.W.Frag) (F : Hp) : List V → List D → Prop
  | nil : Rps K F [] []
  | cons {x : V} {d : D} {xs : List V} {ds : List D} : Rp K F x d → Rps K F xs ds → Rps K F (x :: xs) (d :: ds)
end
section
variable {K : PySem.W.Frag} {F F' : Hp}
mutual
theorem Rp.same (s : Same F F') : ∀ {v : V} {d : D}, Rp K F v d → Rp K F' v d
  | _, _, .non => .non
  | _, _, .bl b => .bl b
  | _, _, .int i => .int i
  | _, _, .str x => .str x
  | _, _, .ty n => .ty n
  | _, _, .adr a => .adr a
  | _, _, .tup h r => .tup (Fr.sqT_same s h) (Rps.same s r)
  | _, _, .lst h r => .lst (s _ _ h) (Rps.same s r)
  | _, _, .scr h => .scr (s.seq h)
  | _, _, .dT h e r => .dT (s _ _ h) e (Rps.same s r)
  | _, _, .dK h e r => .dK (s _ _ h) e (Rps.same s r)
  | _, _, .obj h e r => .obj (s _ _ h) e (Rps.same s r)
  | _, _, .exc h => .exc (s _ _ h)
theorem Rps.same (s : Same F F') : ∀ {vs : List V} {ds : List D}, Rps K F vs ds → Rps K F' vs ds
  | _, _, .nil => .nil
  | _, _, .cons h r => .cons (Rp.same s h) (Rps.same s r)
end
theorem Rp.inv_int {v : V} {i : Int} (h : Rp K F v (.int i)) : v = .int i := by cases h; rfl
theorem Rp.inv_bl {v : V} {b : Bool} (h : Rp K F v (.bl b)) : v = .bl b := by cases h; rfl
theorem Rp.inv_str {v : V} {x : Str} (h : Rp K F v (.str x)) : v = .str x := by cases h; rfl
theorem Rp.inv_non {v : V} (h : Rp K F v .non) : v = .non := by cases h; rfl
theorem Rp.inv_ty {v : V} {n : String} (h : Rp K F v (.ty n)) : v = .ty n := by cases h; rfl
theorem Rp.inv_tup {v : V} {ds : List D} (h : Rp K F v (.tup ds)) : ∃ a xs, v = .ref a ∧ SqT K F a xs ∧ Rps K F xs ds := by
  cases h with
  | tup h r => exact ⟨_, _, rfl, h, r⟩
theorem Rp.inv_lst {v : V} {ds : List D} (h : Rp K F v (.lst ds)) : ∃ a xs, v = .ref a ∧ F a = some (.lst xs) ∧ Rps K F xs ds := by
  cases h with
  | lst h r => exact ⟨_, _, rfl, h, r⟩
theorem Rps.inv_nil {vs : List V} (h : Rps K F vs []) : vs = [] := by cases h; rfl
theorem Rps.inv_cons {vs : List V} {d : D} {ds : List D} (h : Rps K F vs (d :: ds)) : ∃ v us, vs = v :: us ∧ Rp K F v d ∧ Rps K F us ds := by
  cases h with
  | cons h r => exact ⟨_, _, rfl, h, r⟩
theorem Rps.inv1 {vs : List V} {d : D} (h : Rps K F vs [d]) : ∃ v, vs = [v] ∧ Rp K F v d := by
  obtain ⟨v, us, rfl, h1, h2⟩ := h.inv_cons
  exact ⟨v, by rw [h2.inv_nil], h1⟩
theorem Rps.inv2 {vs : List V} {d e : D} (h : Rps K F vs [d, e]) : ∃ v u, vs = [v, u] ∧ Rp K F v d ∧ Rp K F u e := by
  obtain ⟨v, us, rfl, h1, h2⟩ := h.inv_cons
  obtain ⟨u, rfl, h3⟩ := h2.inv1
  exact ⟨v, u, rfl, h1, h3⟩
theorem Rps.len : ∀ {vs : List V} {ds : List D}, Rps K F vs ds → vs.length = ds.length
  | _, _, .nil => rfl
  | _, _, .cons _ r => by simp [Rps.len r]
theorem Rps.append : ∀ {vs us : List V} {ds es : List D}, Rps K F vs ds → Rps K F us es → Rps K F (vs ++ us) (ds ++ es)
  | _, _, _, _, .nil, s => s
  | _, _, _, _, .cons h r, s => .cons h (Rps.append r s)
theorem Rps.one {v : V} {d : D} (h : Rp K F v d) : Rps K F [v] [d] := .cons h .nil
theorem Rps.at : ∀ {vs : List V} {ds : List D} {i : Nat} {d : D}, Rps K F vs ds → ds[i]? = some d → ∃ v, vs[i]? = some v ∧ Rp K F v d
  | _, _, _, _, .nil, e => by simp at e
  | _, _, 0, _, .cons h _, e => by simp at e; subst e; exact ⟨_, rfl, h⟩
  | _, _, i + 1, d, .cons _ r, e => by
    obtain ⟨v, h1, h2⟩ := Rps.at (i := i) (d := d) r (by simpa using e)
    exact ⟨v, by simpa using h1, h2⟩
theorem Rps.at' : ∀ {vs : List V} {ds : List D} {i : Nat} {v : V}, Rps K F vs ds → vs[i]? = some v → ∃ d, ds[i]? = some d ∧ Rp K F v d
  | _, _, _, _, .nil, e => by simp at e
  | _, _, 0, _, .cons h _, e => by simp at e; subst e; exact ⟨_, rfl, h⟩
  | _, _, i + 1, d, .cons _ r, e => by
    obtain ⟨v, h1, h2⟩ := Rps.at' (i := i) (v := d) r (by simpa using e)
    exact ⟨v, by simpa using h1, h2⟩
theorem Rps.set {v : V} {d : D} (h : Rp K F v d) : ∀ {vs : List V} {ds : List D} (i : Nat), Rps K F vs ds → Rps K F (vs.set i v) (ds.set i d)
  | _, _, _, .nil => .nil
  | _, _, 0, .cons _ r => .cons h r
  | _, _, i + 1, .cons q r => .cons q (Rps.set h i r)
theorem Rps.take : ∀ {vs : List V} {ds : List D} (n : Nat), Rps K F vs ds → Rps K F (vs.take n) (ds.take n)
  | _, _, 0, _ => .nil
  | _, _, _ + 1, .nil => .nil
  | _, _, n + 1, .cons r t => .cons r (Rps.take n t)
theorem Rps.drop : ∀ {vs : List V} {ds : List D} (n : Nat), Rps K F vs ds → Rps K F (vs.drop n) (ds.drop n)
  | _, _, 0, r => r
  | _, _, _ + 1, .nil => .nil
  | _, _, n + 1, .cons _ t => Rps.drop n t
theorem Rps.reverse : ∀ {vs : List V} {ds : List D}, Rps K F vs ds → Rps K F vs.reverse ds.reverse
  | _, _, .nil => .nil
  | _, _, .cons h r => by
    rw [List.reverse_cons, List.reverse_cons]
    exact (Rps.reverse r).append (.one h)
theorem Rps.rep {v : V} {d : D} (h : Rp K F v d) : ∀ n : Nat, Rps K F (List.replicate n v) (List.replicate n d)
  | 0 => .nil
  | n + 1 => .cons h (Rps.rep h n)
end

/-- what a def owns -/
inductive Ob where
  | lst (xs : List D) | dT (kvs : List (List Key × D)) | dK (kvs : List (Key × D)) | ins (C : Addr) (fs : List (Str × D)) | pu
/-- what a name stands for -/
inductive Sl where
  | un | d (x : D) | own (o : Ob) | bor (o : Ob)
/-- a value of an expression -/
inductive Rv where
  | d (x : D) | own (o : Ob)
def Ob.frz : Ob → Option D
  | .lst xs => some (.lst xs)
  | .dT kvs => some (.dT kvs)
  | .dK kvs => some (.dK kvs)
  | .ins C fs => some (.obj C fs)
  | .pu => none
def Rv.frz : Rv → Option D
  | .d x => some x
  | .own o => o.frz
def Rv.sl : Rv → Sl
  | .d x => .d x
  | .own o => .own o
def OwnOk (K : PySem.W.Frag) (F H : Hp) (a : Addr) : Ob → Prop
  | .lst xs => ∃ vs, H a = some (.lst vs) ∧ Rps K F vs xs
  | .dT dvs => ∃ kvs : List (List Key × V), H a = some (.dT kvs) ∧ kvs.map (·.1) = dvs.map (·.1) ∧ Rps K F (kvs.map (·.2)) (dvs.map (·.2))
  | .dK dvs => ∃ kvs : List (Key × V), H a = some (.dK kvs) ∧ kvs.map (·.1) = dvs.map (·.1) ∧ Rps K F (kvs.map (·.2)) (dvs.map (·.2))
  | .ins C dfs => ∃ (dx : Addr) (fs : List (Str × V)), H a = some (.ins C dx fs) ∧ fs.map (·.1) = dfs.map (·.1) ∧ Rps K F (fs.map (·.2)) (dfs.map (·.2))
  | .pu => ∃ x y : Int, H a = some (.lst [.int x, .int y]) ∧ 0 ≤ x
theorem OwnOk.there {K : PySem.W.Frag} {F H : Hp} {a : Addr} {o : Ob} (h : OwnOk K F H a o) : ∃ ho, H a = some ho := by
  cases o with
  | lst xs => obtain ⟨vs, e, _⟩ := h; exact ⟨_, e⟩
  | dT kvs => obtain ⟨vs, e, _⟩ := h; exact ⟨_, e⟩
  | dK kvs => obtain ⟨vs, e, _⟩ := h; exact ⟨_, e⟩
  | ins C fs => obtain ⟨dx, vs, e, _⟩ := h; exact ⟨_, e⟩
  | pu => obtain ⟨x, y, e, _⟩ := h; exact ⟨_, e⟩
theorem OwnOk.same {K : PySem.W.Frag} {F F' H H' : Hp} {a : Addr} {o : Ob} (h : OwnOk K F H a o) (s : Same F F') (e : H' a = H a) : OwnOk K F' H' a o := by
  cases o with
  | lst xs => obtain ⟨vs, e1, r⟩ := h; exact ⟨vs, e.trans e1, r.same s⟩
  | dT kvs => obtain ⟨vs, e1, k, r⟩ := h; exact ⟨vs, e.trans e1, k, r.same s⟩
  | dK kvs => obtain ⟨vs, e1, k, r⟩ := h; exact ⟨vs, e.trans e1, k, r.same s⟩
  | ins C fs => obtain ⟨dx, vs, e1, k, r⟩ := h; exact ⟨dx, vs, e.trans e1, k, r.same s⟩
  | pu => obtain ⟨x, y, e1, p⟩ := h; exact ⟨x, y, e.trans e1, p⟩
theorem OwnOk.frz {K : PySem.W.Frag} {F H : Hp} {a : Addr} {o : Ob} {x : D} (h : OwnOk K F H a o) (e : o.frz = some x) (n : F a = none) : ∃ ho, H a = some ho ∧ Rp K (upd F a ho) (.ref a) x := by
  have s : ∀ ho, Same F (upd F a ho) := fun ho => Fr.Same.new n
  cases o with
  | lst xs => obtain ⟨vs, e1, r⟩ := h; cases e; exact ⟨_, e1, .lst upd_same (r.same (s _))⟩
  | dT kvs => obtain ⟨vs, e1, k, r⟩ := h; cases e; exact ⟨_, e1, .dT upd_same k (r.same (s _))⟩
  | dK kvs => obtain ⟨vs, e1, k, r⟩ := h; cases e; exact ⟨_, e1, .dK upd_same k (r.same (s _))⟩
  | ins C fs => obtain ⟨dx, vs, e1, k, r⟩ := h; cases e; exact ⟨_, e1, .obj upd_same k (r.same (s _))⟩
  | pu => cases e
def SlOk (K : PySem.W.Frag) (H0 : Hp) (B : Option Addr) (F H : Hp) (sv : Option (Option V)) : Sl → Prop
  | .un => True
  | .d x => ∃ v, sv = some (some v) ∧ Rp K F v x
  | .own o => ∃ a, sv = some (some (.ref a)) ∧ F a = none ∧ H0 a = none ∧ OwnOk K F H a o
  | .bor o => ∃ a, sv = some (some (.ref a)) ∧ B = some a ∧ F a = none ∧ OwnOk K F H a o
/-- the table of the code of the def whose generator is walked -/
def TabIn (K : PySem.W.Frag) (P : Addr) : Prop := ∃ (f c : Addr) (o oc : Obj) (fd : FuncData) (vs : Array Value), PySem.W.nsIn K mainGlobals "is_number_text" = some (some (.ref f)) ∧ K.lookup f = some o ∧ o.data = .func fd ∧ fd.code = .ref c ∧ K.lookup c = some oc ∧ oc.data = .fields vs ∧ vs[11]? = some (.ref P)
/-- it is known to the heap -/
def Tb (K : PySem.W.Frag) (F : Hp) : Prop := ∀ P, TabIn K P → F P = some (Fr.TabP P)
theorem Tb.same {K : PySem.W.Frag} {F F' : Hp} (h : Tb K F) (s : Same F F') : Tb K F' := fun P t => s _ _ (h P t)
theorem Tb.none {K : PySem.W.Frag} {F : Hp} (h : PySem.W.nsIn K mainGlobals "is_number_text" = some none) : Tb K F := fun P ⟨f, _, _, _, _, _, e, _⟩ => by rw [h] at e; cases e
/-- the state: F: what is data; F0, H0: at the entry; B: what is lent by the caller -/
structure Lk (K : PySem.W.Frag) (F0 H0 : Hp) (B : Option Addr) (σ : St) (δ : List Sl) (F H : Hp) : Prop where
  fh : Same F H
  f0 : Same F0 F
  h0 : ∀ a o, H0 a = some o → B ≠ some a → H a = some o
  ff : ∀ a, H0 a ≠ none → F a = F0 a
  bt : ∀ b, B = some b → H0 b ≠ none ∧ H b ≠ none
  len : δ.length = σ.length
  sl : ∀ (i : Nat) (s : Sl), δ[i]? = some s → SlOk K H0 B F H (σ[i]?) s
  ne : ∀ (i j : Nat) (o o' : Ob), δ[i]? = some (.own o) → δ[j]? = some (.own o') → σ[i]? = σ[j]? → i = j
  nb : ∀ (i j : Nat) (o o' : Ob), δ[i]? = some (.bor o) → δ[j]? = some (.bor o') → i = j
  tb : Tb K F0
def Rok (K : PySem.W.Frag) (H0 F H : Hp) (σ : St) (δ : List Sl) (r : Rv) (v : V) : Prop :=
  match r with
  | .d x => Rp K F v x
  | .own o => ∃ a, v = .ref a ∧ F a = none ∧ H0 a = none ∧ OwnOk K F H a o ∧ ∀ (i : Nat) (o' : Ob), δ[i]? = some (Sl.own o') → σ[i]? ≠ some (some (V.ref a))
section
variable {K : PySem.W.Frag} {F0 H0 F H F' H' : Hp} {B : Option Addr} {σ : St} {δ : List Sl}
theorem Lk.tbF (L : Lk K F0 H0 B σ δ F H) : Tb K F := L.tb.same L.f0
theorem Lk.nn (L : Lk K F0 H0 B σ δ F H) {a : Addr} (h : H0 a ≠ none) : H a ≠ none := by
  by_cases b : B = some a
  · exact (L.bt a b).2
  · cases e : H0 a with
    | none => exact absurd e h
    | some o => rw [L.h0 a o e b]; exact fun z => by cases z
theorem Lk.fr0 (L : Lk K F0 H0 B σ δ F H) {a : Addr} (h : H a = none) : H0 a = none ∧ F a = none := by
  constructor
  · cases e : H0 a with
    | none => rfl
    | some o => exact absurd h (L.nn (by rw [e]; intro z; cases z))
  · exact L.fh.free h
/-- the heap grows -/
theorem Lk.grow (L : Lk K F0 H0 B σ δ F H) (s1 : Same F F') (s2 : Same F' H') (s3 : Same H H') (nf : ∀ a, H a ≠ none → F' a = F a) : Lk K F0 H0 B σ δ F' H' := by
  refine ⟨s2, L.f0.trans s1, fun a o e b => s3 _ _ (L.h0 a o e b), fun a h => (nf a (L.nn h)).trans (L.ff a h), fun b e => ⟨(L.bt b e).1, ?_⟩, L.len, fun i s e => ?_, L.ne, L.nb, L.tb⟩
  · cases q : H b with
    | none => exact absurd q (L.bt b e).2
    | some o => rw [s3 _ _ q]; exact fun z => by cases z
  · have q := L.sl i s e
    cases s with
    | un => trivial
    | d x => obtain ⟨v, e1, r⟩ := q; exact ⟨v, e1, r.same s1⟩
    | own o =>
      obtain ⟨a, e1, f, h, w⟩ := q
      obtain ⟨ho, eh⟩ := w.there
      exact ⟨a, e1, by rw [nf a (by rw [eh]; intro z; cases z)]; exact f, h, w.same s1 (by rw [eh]; exact s3 _ _ eh)⟩
    | bor o =>
      obtain ⟨a, e1, b, f, w⟩ := q
      obtain ⟨ho, eh⟩ := w.there
      exact ⟨a, e1, b, by rw [nf a (by rw [eh]; intro z; cases z)]; exact f, w.same s1 (by rw [eh]; exact s3 _ _ eh)⟩
theorem getS {α : Type} {l : List α} {i j : Nat} {x y : α} (h : (l.set i x)[j]? = some y) : (i = j ∧ y = x ∧ i < l.length) ∨ (i ≠ j ∧ l[j]? = some y) := by
  rw [List.getElem?_set] at h
  by_cases e : i = j
  · rw [if_pos e] at h
    split at h
    · cases h; exact .inl ⟨e, rfl, by assumption⟩
    · cases h
  · rw [if_neg e] at h
    exact .inr ⟨e, h⟩
theorem nb_set {δ : List Sl} {i : Nat} {s : Sl} (h : ∀ (i j : Nat) (o o' : Ob), δ[i]? = some (.bor o) → δ[j]? = some (.bor o') → i = j) (n : ∀ o, s ≠ .bor o) : ∀ (j k : Nat) (o o' : Ob), (δ.set i s)[j]? = some (.bor o) → (δ.set i s)[k]? = some (.bor o') → j = k := by
  intro j k o o' e1 e2
  rcases getS e1 with ⟨_, z, _⟩ | ⟨_, e1⟩
  · exact absurd z.symm (n o)
  · rcases getS e2 with ⟨_, z, _⟩ | ⟨_, e2⟩
    · exact absurd z.symm (n o')
    · exact h j k o o' e1 e2
theorem Lk.set {i : Nat} {v : V} {x : D} (L : Lk K F0 H0 B σ δ F H) (r : Rp K F v x) : Lk K F0 H0 B (σ.set i (some v)) (δ.set i (.d x)) F H := by
  refine ⟨L.fh, L.f0, L.h0, L.ff, L.bt, by simp [L.len], fun j s e => ?_, fun j k o o' e1 e2 e3 => ?_, nb_set L.nb (fun _ z => by cases z), L.tb⟩
  · rcases getS e with ⟨rfl, rfl, lt⟩ | ⟨n, e⟩
    · exact ⟨v, by rw [List.getElem?_set_self (by rw [← L.len]; exact lt)], r⟩
    · have := L.sl j s e
      rwa [List.getElem?_set_ne n]
  · rcases getS e1 with ⟨_, z, _⟩ | ⟨n1, e1⟩
    · cases z
    · rcases getS e2 with ⟨_, z, _⟩ | ⟨n2, e2⟩
      · cases z
      · rw [List.getElem?_set_ne n1, List.getElem?_set_ne n2] at e3
        exact L.ne j k o o' e1 e2 e3
theorem Lk.setR {i : Nat} {v : V} {r : Rv} (L : Lk K F0 H0 B σ δ F H) (k : Rok K H0 F H σ δ r v) : Lk K F0 H0 B (σ.set i (some v)) (δ.set i r.sl) F H := by
  cases r with
  | d x => exact L.set k
  | own o =>
    obtain ⟨a, rfl, f, h, w, ap⟩ := k
    refine ⟨L.fh, L.f0, L.h0, L.ff, L.bt, by simp [L.len], fun j s e => ?_, fun j k o1 o2 e1 e2 e3 => ?_, nb_set L.nb (fun _ z => by cases z), L.tb⟩
    · rcases getS e with ⟨rfl, rfl, lt⟩ | ⟨n, e⟩
      · exact ⟨a, by rw [List.getElem?_set_self (by rw [← L.len]; exact lt)], f, h, w⟩
      · have := L.sl j s e
        rwa [List.getElem?_set_ne n]
    · rcases getS e1 with ⟨rfl, z, lt⟩ | ⟨n1, e1⟩
      · rcases getS e2 with ⟨rfl, z2, _⟩ | ⟨n2, e2⟩
        · rfl
        · rw [List.getElem?_set_self (by rw [← L.len]; exact lt), List.getElem?_set_ne n2] at e3
          exact absurd e3.symm (ap k o2 e2)
      · rcases getS e2 with ⟨rfl, z2, lt⟩ | ⟨n2, e2⟩
        · rw [List.getElem?_set_self (by rw [← L.len]; exact lt), List.getElem?_set_ne n1] at e3
          exact absurd e3 (ap j o1 e1)
        · rw [List.getElem?_set_ne n1, List.getElem?_set_ne n2] at e3
          exact L.ne j k o1 o2 e1 e2 e3
/-- what was owned becomes data -/
theorem Lk.froz {i : Nat} {o : Ob} {x : D} (L : Lk K F0 H0 B σ δ F H) (e : δ[i]? = some (.own o)) (f : o.frz = some x) : ∃ F' v, Lk K F0 H0 B σ (δ.set i (.d x)) F' H ∧ Same F F' ∧ σ[i]? = some (some v) ∧ Rp K F' v x := by
  obtain ⟨a, e1, fn, hn, w⟩ := L.sl i _ e
  obtain ⟨ho, eh, r⟩ := w.frz f fn
  have sf : Same F (upd F a ho) := Fr.Same.new fn
  refine ⟨upd F a ho, .ref a, ⟨fun b u q => ?_, L.f0.trans sf, L.h0, fun b q => ?_, L.bt, by simp [L.len], fun j s ej => ?_, fun j k o1 o2 e1 e2 e3 => ?_, nb_set L.nb (fun _ z => by cases z), L.tb⟩, sf, e1, r⟩
  · by_cases hb : b = a
    · subst hb; rw [upd_same] at q; cases q; exact eh
    · rw [upd_ne hb] at q; exact L.fh _ _ q
  · have : b ≠ a := by rintro rfl; exact q hn
    rw [upd_ne this]; exact L.ff b q
  · rcases getS ej with ⟨rfl, rfl, lt⟩ | ⟨n, ej⟩
    · exact ⟨_, e1, r⟩
    · have q := L.sl j s ej
      cases s with
      | un => trivial
      | d y => obtain ⟨v, e2, r2⟩ := q; exact ⟨v, e2, r2.same sf⟩
      | own o' =>
        obtain ⟨b, e2, f2, h2, w2⟩ := q
        have nb : b ≠ a := by
          rintro rfl
          exact n (L.ne i j o o' e ej (by rw [e1, e2]))
        exact ⟨b, e2, by rw [upd_ne nb]; exact f2, h2, w2.same sf rfl⟩
      | bor o' =>
        obtain ⟨b, e2, b2, f2, w2⟩ := q
        have nb : b ≠ a := by rintro rfl; exact (L.bt b b2).1 hn
        exact ⟨b, e2, b2, by rw [upd_ne nb]; exact f2, w2.same sf rfl⟩
  · rcases getS e1 with ⟨_, z, _⟩ | ⟨n1, e1⟩
    · cases z
    · rcases getS e2 with ⟨_, z, _⟩ | ⟨n2, e2⟩
      · cases z
      · exact L.ne j k o1 o2 e1 e2 e3
/-- what is owned changes -/
theorem Lk.mut {i : Nat} {o o' : Ob} {a : Addr} {ho : HO} (L : Lk K F0 H0 B σ δ F H) (e : δ[i]? = some (.own o)) (ea : σ[i]? = some (some (.ref a))) (w : OwnOk K F (upd H a ho) a o') : Lk K F0 H0 B σ (δ.set i (.own o')) F (upd H a ho) := by
  obtain ⟨a', e1, fn, hn, w0⟩ := L.sl i _ e
  rw [ea] at e1; cases e1
  have up : ∀ b, b ≠ a → upd H a ho b = H b := fun b n => upd_ne n
  refine ⟨fun b u q => ?_, L.f0, fun b u q1 q2 => ?_, L.ff, fun b q => ⟨(L.bt b q).1, ?_⟩, by simp [L.len], fun j s ej => ?_, fun j k o1 o2 e1 e2 e3 => ?_, nb_set L.nb (fun _ z => by cases z), L.tb⟩
  · have : b ≠ a := by rintro rfl; rw [fn] at q; cases q
    rw [up b this]; exact L.fh _ _ q
  · have : b ≠ a := by rintro rfl; rw [hn] at q1; cases q1
    rw [up b this]; exact L.h0 b u q1 q2
  · have : b ≠ a := by rintro rfl; exact (L.bt b q).1 hn
    rw [up b this]; exact (L.bt b q).2
  · rcases getS ej with ⟨rfl, rfl, lt⟩ | ⟨n, ej⟩
    · exact ⟨a, ea, fn, hn, w⟩
    · have q := L.sl j s ej
      cases s with
      | un => trivial
      | d y => exact q
      | own o3 =>
        obtain ⟨b, e2, f2, h2, w2⟩ := q
        have nb : b ≠ a := by
          rintro rfl
          exact n (L.ne i j o o3 e ej (by rw [ea, e2]))
        exact ⟨b, e2, f2, h2, w2.same (Same.refl _) (up b nb)⟩
      | bor o3 =>
        obtain ⟨b, e2, b2, f2, w2⟩ := q
        have nb : b ≠ a := by rintro rfl; exact (L.bt b b2).1 hn
        exact ⟨b, e2, b2, f2, w2.same (Same.refl _) (up b nb)⟩
  · rcases getS e1 with ⟨rfl, z, _⟩ | ⟨n1, e1⟩
    · rcases getS e2 with ⟨rfl, z2, _⟩ | ⟨n2, e2⟩
      · rfl
      · exact L.ne i k o o2 e e2 e3
    · rcases getS e2 with ⟨rfl, z2, _⟩ | ⟨n2, e2⟩
      · exact L.ne j i o1 o e1 e e3
      · exact L.ne j k o1 o2 e1 e2 e3
theorem Lk.mutB {i : Nat} {o o' : Ob} {a : Addr} {ho : HO} (L : Lk K F0 H0 B σ δ F H) (e : δ[i]? = some (.bor o)) (ea : σ[i]? = some (some (.ref a))) (w : OwnOk K F (upd H a ho) a o') :
    Lk K F0 H0 B σ (δ.set i (.bor o')) F (upd H a ho) := by
  obtain ⟨a', e1, hB, fn, w0⟩ := L.sl i _ e
  rw [ea] at e1; cases e1
  have up : ∀ b, b ≠ a → upd H a ho b = H b := fun b n => upd_ne n
  have hn := (L.bt a hB).1
  refine ⟨fun b u q => ?_, L.f0, fun b u q1 q2 => ?_, L.ff, fun b q => ⟨(L.bt b q).1, ?_⟩, by simp [L.len], fun j s ej => ?_, fun j k o1 o2 e1 e2 e3 => ?_, fun j k o1 o2 e1 e2 => ?_, L.tb⟩
  · have : b ≠ a := by rintro rfl; rw [fn] at q; cases q
    rw [up b this]; exact L.fh _ _ q
  · have : b ≠ a := by rintro rfl; exact q2 hB
    rw [up b this]; exact L.h0 b u q1 q2
  · by_cases hb : b = a
    · subst hb; rw [upd_same]; intro z; cases z
    · rw [up b hb]; exact (L.bt b q).2
  · rcases getS ej with ⟨rfl, rfl, lt⟩ | ⟨n, ej⟩
    · exact ⟨a, ea, hB, fn, w⟩
    · have q := L.sl j s ej
      cases s with
      | un => trivial
      | d y => exact q
      | own o3 =>
        obtain ⟨b, e2, f2, h2, w2⟩ := q
        have nb : b ≠ a := by rintro rfl; exact hn h2
        exact ⟨b, e2, f2, h2, w2.same (Same.refl _) (up b nb)⟩
      | bor o3 => exact absurd (L.nb i j o o3 e ej) n
  · rcases getS e1 with ⟨rfl, z, _⟩ | ⟨n1, e1⟩
    · cases z
    · rcases getS e2 with ⟨rfl, z2, _⟩ | ⟨n2, e2⟩
      · cases z2
      · exact L.ne j k o1 o2 e1 e2 e3
  · rcases getS e1 with ⟨rfl, z, _⟩ | ⟨n1, e1⟩
    · rcases getS e2 with ⟨rfl, z2, _⟩ | ⟨n2, e2⟩
      · rfl
      · exact L.nb i k o o2 e e2
    · rcases getS e2 with ⟨rfl, z2, _⟩ | ⟨n2, e2⟩
      · exact L.nb j i o1 o e1 e
      · exact L.nb j k o1 o2 e1 e2
/-- a new object that is owned -/
theorem Lk.newO {p : Addr} {ho : HO} {o : Ob} (L : Lk K F0 H0 B σ δ F H) (hp : H p = none) (w : OwnOk K F (upd H p ho) p o) : Lk K F0 H0 B σ δ F (upd H p ho) ∧ Rok K H0 F (upd H p ho) σ δ (.own o) (.ref p) := by
  have s := Fr.Same.new (o := ho) hp
  refine ⟨L.grow (Same.refl _) (L.fh.trans s) s fun _ _ => rfl, p, rfl, (L.fr0 hp).2, (L.fr0 hp).1, w, fun i o' e z => ?_⟩
  obtain ⟨a, e1, _, _, w'⟩ := L.sl i _ e
  rw [z] at e1; cases e1
  obtain ⟨ho, eh⟩ := w'.there
  rw [hp] at eh; cases eh
/-- a new object that is data -/
theorem Lk.newD {p : Addr} {ho : HO} (L : Lk K F0 H0 B σ δ F H) (hp : H p = none) : Lk K F0 H0 B σ δ (upd F p ho) (upd H p ho) ∧ Same F (upd F p ho) := by
  have s := Fr.Same.new (o := ho) hp
  have sf : Same F (upd F p ho) := Fr.Same.new (L.fr0 hp).2
  refine ⟨L.grow sf (fun b u q => ?_) s fun a h => ?_, sf⟩
  · by_cases hb : b = p
    · subst hb; rw [upd_same] at q ⊢; exact q
    · rw [upd_ne hb] at q ⊢; exact L.fh _ _ q
  · have : a ≠ p := by rintro rfl; exact h hp
    rw [upd_ne this]
/-- an owned temporary becomes data -/
theorem Lk.thaw {r : Rv} {v : V} {x : D} (L : Lk K F0 H0 B σ δ F H) (k : Rok K H0 F H σ δ r v) (e : r.frz = some x) : ∃ F', Lk K F0 H0 B σ δ F' H ∧ Same F F' ∧ Rp K F' v x := by
  cases r with
  | d y => cases e; exact ⟨F, L, Same.refl _, k⟩
  | own o =>
    obtain ⟨a, rfl, fn, hn, w, ap⟩ := k
    obtain ⟨ho, eh, r⟩ := w.frz e fn
    have sf : Same F (upd F a ho) := Fr.Same.new fn
    refine ⟨upd F a ho, ⟨fun b u q => ?_, L.f0.trans sf, L.h0, fun b q => ?_, L.bt, L.len, fun j s ej => ?_, L.ne, L.nb, L.tb⟩, sf, r⟩
    · by_cases hb : b = a
      · subst hb; rw [upd_same] at q; cases q; exact eh
      · rw [upd_ne hb] at q; exact L.fh _ _ q
    · have : b ≠ a := by rintro rfl; exact q hn
      rw [upd_ne this]; exact L.ff b q
    · have q := L.sl j s ej
      cases s with
      | un => trivial
      | d y => obtain ⟨v, e2, r2⟩ := q; exact ⟨v, e2, r2.same sf⟩
      | own o' =>
        obtain ⟨b, e2, f2, h2, w2⟩ := q
        have nb : b ≠ a := by rintro rfl; exact ap j o' ej e2
        exact ⟨b, e2, by rw [upd_ne nb]; exact f2, h2, w2.same sf rfl⟩
      | bor o' =>
        obtain ⟨b, e2, b2, f2, w2⟩ := q
        have nb : b ≠ a := by rintro rfl; exact (L.bt b b2).1 hn
        exact ⟨b, e2, b2, by rw [upd_ne nb]; exact f2, w2.same sf rfl⟩
end
end L3

set_option Elab.async false
set_option linter.all false
set_option maxRecDepth 100000
/-! The judgements over data, and the plain rules. -/
namespace L3
open PySem PySem.Spec L2

abbrev Zk := Addr → List Sl → Prop
abbrev T3E := Zk → List Sl → (Rv → List Sl → Prop) → Prop
abbrev T3D := Zk → List Sl → (D → List Sl → Prop) → Prop
abbrev T3T := Zk → List Sl → (Bool → List Sl → Prop) → Prop
abbrev T3A := Zk → List Sl → (List D → List Sl → Prop) → Prop
structure En where
  nx : List Sl → Prop
  rt : Rv → List Sl → Prop
  bk : List Sl → Prop := fun _ => False
  ct : List Sl → Prop := fun _ => False
abbrev T3S := Zk → En → List Sl → Prop

def ZOk (K : PySem.W.Frag) (E : XK) (F0 H0 : Hp) (B : Option Addr) (Z : Zk) : Prop := ∀ C σ δ F H, Lk K F0 H0 B σ δ F H → Z C δ → E (.ref C) none H
section
variable (K : PySem.W.Frag) (E : XK) (F0 H0 : Hp) (B : Option Addr)
def LE (t : T3E) : TE := fun σ H Q => ∃ δ F Z P, Lk K F0 H0 B σ δ F H ∧ ZOk K E F0 H0 B Z ∧ t Z δ P ∧ ∀ r δ' v F' H', P r δ' → Lk K F0 H0 B σ δ' F' H' → Same F F' → Rok K H0 F' H' σ δ' r v → Q v H'
def LD (t : T3D) : TE := fun σ H Q => ∃ δ F Z P, Lk K F0 H0 B σ δ F H ∧ ZOk K E F0 H0 B Z ∧ t Z δ P ∧ ∀ x δ' v F' H', P x δ' → Lk K F0 H0 B σ δ' F' H' → Same F F' → Rp K F' v x → Q v H'
def LT (t : T3T) : TT := fun σ H Q => ∃ δ F Z P, Lk K F0 H0 B σ δ F H ∧ ZOk K E F0 H0 B Z ∧ t Z δ P ∧ ∀ b δ' F' H', P b δ' → Lk K F0 H0 B σ δ' F' H' → Same F F' → Q b H'
def LA (t : T3A) : TA := fun σ H Q => ∃ δ F Z P, Lk K F0 H0 B σ δ F H ∧ ZOk K E F0 H0 B Z ∧ t Z δ P ∧ ∀ xs δ' vs F' H', P xs δ' → Lk K F0 H0 B σ δ' F' H' → Same F F' → Rps K F' vs xs → Q vs H'
structure EnOk (Fb : Hp) (En : En) (Dn : Ends) : Prop where
  nx : ∀ σ δ F H, En.nx δ → Lk K F0 H0 B σ δ F H → Same Fb F → Dn.nx σ H
  rt : ∀ r v σ δ F H, En.rt r δ → Lk K F0 H0 B σ δ F H → Same Fb F → Rok K H0 F H σ δ r v → Dn.rt v H
  bk : ∀ σ δ F H, En.bk δ → Lk K F0 H0 B σ δ F H → Same Fb F → Dn.bk σ H
  ct : ∀ σ δ F H, En.ct δ → Lk K F0 H0 B σ δ F H → Same Fb F → Dn.ct σ H
theorem EnOk.up {K : PySem.W.Frag} {F0 H0 Fb Fb' : Hp} {B : Option Addr} {En : En} {Dn : Ends} (h : EnOk K F0 H0 B Fb En Dn) (s : Same Fb Fb') : EnOk K F0 H0 B Fb' En Dn :=
  ⟨fun σ δ F H p L s' => h.nx σ δ F H p L (s.trans s'), fun r v σ δ F H p L s' k => h.rt r v σ δ F H p L (s.trans s') k, fun σ δ F H p L s' => h.bk σ δ F H p L (s.trans s'), fun σ δ F H p L s' => h.ct σ δ F H p L (s.trans s')⟩
def LS (t : T3S) : TS := fun Dn σ H => ∃ δ F Z En, Lk K F0 H0 B σ δ F H ∧ ZOk K E F0 H0 B Z ∧ t Z En δ ∧ EnOk K F0 H0 B F En Dn
end
structure E3 (X : Cx) (E : XK) (e : Expr) (t : T3E) : Prop where
  h : ∀ F0 H0 B, PE X e (LE X.K E F0 H0 B t)
structure D3 (X : Cx) (E : XK) (e : Expr) (t : T3D) : Prop where
  h : ∀ F0 H0 B, PE X e (LD X.K E F0 H0 B t)
structure C3 (X : Cx) (E : XK) (e : Expr) (t : T3T) : Prop where
  h : ∀ F0 H0 B, PT X e (LT X.K E F0 H0 B t)
structure W3 (X : Cx) (E : XK) (e : Expr) (t : T3T) : Prop where
  h : ∀ F0 H0 B, PW X e (LT X.K E F0 H0 B t)
structure A3 (X : Cx) (E : XK) (es : List Expr) (t : T3A) : Prop where
  h : ∀ F0 H0 B, PA X es (LA X.K E F0 H0 B t)
structure S3 (X : Cx) (E : XK) (st : Stmt) (t : T3S) : Prop where
  h : ∀ F0 H0 B, PS X st (LS X.K E F0 H0 B t)
structure B3 (X : Cx) (E : XK) (sts : List Stmt) (t : T3S) : Prop where
  h : ∀ F0 H0 B, PSs X sts (LS X.K E F0 H0 B t)
theorem pe_imp {X : Cx} {e : Expr} {t t' : TE} (h : PE X e t) (i : ∀ σ H Q, t' σ H Q → t σ H Q) : PE X e t' := fun pins s σ H Q I w => h pins s σ H Q I (i _ _ _ w)
theorem pt_imp {X : Cx} {e : Expr} {t t' : TT} (h : PT X e t) (i : ∀ σ H Q, t' σ H Q → t σ H Q) : PT X e t' := fun pins s σ H Q I w => h pins s σ H Q I (i _ _ _ w)
theorem pw_imp {X : Cx} {e : Expr} {t t' : TT} (h : PW X e t) (i : ∀ σ H Q, t' σ H Q → t σ H Q) : PW X e t' := fun wh pins s σ H Q I w => h wh pins s σ H Q I (i _ _ _ w)
theorem pa_imp {X : Cx} {e : List Expr} {t t' : TA} (h : PA X e t) (i : ∀ σ H Q, t' σ H Q → t σ H Q) : PA X e t' := fun pos pins s σ H Q I w => h pos pins s σ H Q I (i _ _ _ w)
theorem ps_imp {X : Cx} {e : Stmt} {t t' : TS} (h : PS X e t) (i : ∀ D σ H, t' D σ H → t D σ H) : PS X e t' := fun pins s σ H Q I w => h pins s σ H Q I (i _ _ _ w)
theorem pss_imp {X : Cx} {e : List Stmt} {t t' : TS} (h : PSs X e t) (i : ∀ D σ H, t' D σ H → t D σ H) : PSs X e t' := fun pins s σ H Q I w => h pins s σ H Q I (i _ _ _ w)

section
variable {X : Cx} {E : XK} {e a b c : Expr} {pos : Pos}

/-! ### data and owned values -/
def rv (t : T3D) : T3E := fun Z δ Q => t Z δ fun x δ' => Q (.d x) δ'
def fz (t : T3E) : T3D := fun Z δ Q => t Z δ fun r δ' => match r.frz with
  | some x => Q x δ'
  | none => False
theorem D3.toE {t : T3D} (h : D3 X E e t) : E3 X E e (rv t) := ⟨fun F0 H0 B => pe_imp (h.h F0 H0 B) fun σ H Q hh => ex4 hh fun δ F Z P L z w q =>
  ⟨δ, F, Z, _, L, z, w, fun x δ' v F' H' p L' s r => q (.d x) δ' v F' H' p L' s r⟩⟩
theorem E3.toD {t : T3E} (h : E3 X E e t) : D3 X E e (fz t) := ⟨fun F0 H0 B => pe_imp (h.h F0 H0 B) fun σ H Q hh => ex4 hh fun δ F Z P L z w q =>
  ⟨δ, F, Z, _, L, z, w, fun r δ' v F' H' p L' s k => by
    cases e : r.frz with
    | none => rw [e] at p; exact p.elim
    | some x =>
      rw [e] at p
      obtain ⟨F2, L2, s2, r2⟩ := L'.thaw k e
      exact q x δ' v F2 H' p L2 (s.trans s2) r2⟩⟩

/-! ### names, constants -/
def tN (i : Nat) : T3D := fun _ δ Q => match δ[i]? with
  | some (.d x) => Q x δ
  | some (.own o) => (match o.frz with
    | some x => Q x (δ.set i (.d x))
    | none => False)
  | _ => False
theorem d_name {i : Nat} {x : Str} (hN : X.N[i]? = some x) (hv : Vis X.env.scope x) (hd : (x == ("__debug__" : Str)) = false) (hcd : (x == ("__classdict__" : Str)) = false) : D3 X E (.Name x pos) (tN i) := ⟨fun F0 H0 B =>
  pe_imp (pe_var hN hv hd hcd) fun σ H Q hh => ex4 hh fun δ F Z P L z w q => by
    unfold tN at w
    cases e : δ[i]? with
    | none => rw [e] at w; exact w.elim
    | some s =>
      rw [e] at w
      cases s with
      | un => exact w.elim
      | bor o => exact w.elim
      | d x =>
        obtain ⟨v, e1, r⟩ := L.sl i _ e
        exact ⟨v, e1, q x δ v F H w L (Same.refl _) r⟩
      | own o =>
        dsimp only at w
        cases e2 : o.frz with
        | none => rw [e2] at w; exact w.elim
        | some y =>
          rw [e2] at w
          obtain ⟨F', v, L', s, e1, r⟩ := L.froz e e2
          exact ⟨v, e1, q y _ v F' H w L' s r⟩⟩
theorem dv (i : Nat) {x : Str} (hN : X.N[i]? = some x := by rfl) (hv : Vis X.env.scope x := by first | exact Or.inl rfl | exact Or.inr (Or.inl rfl) | exact Or.inr (Or.inr rfl)) (hd : (x == ("__debug__" : Str)) = false := by decide)
    (hcd : (x == ("__classdict__" : Str)) = false := by decide) : D3 X E (.Name x pos) (tN i) := d_name hN hv hd hcd
/-- a name handed on as it is (owned or data); the name stands for nothing behind it -/
def tM (i : Nat) : T3E := fun _ δ Q => match δ[i]? with
  | some (.d x) => Q (.d x) δ
  | some (.own o) => Q (.own o) (δ.set i .un)
  | _ => False
theorem Lk.out {K : PySem.W.Frag} {F0 H0 F H : Hp} {B : Option Addr} {σ : St} {δ : List Sl} {i : Nat} (L : Lk K F0 H0 B σ δ F H) : Lk K F0 H0 B σ (δ.set i .un) F H := by
  refine ⟨L.fh, L.f0, L.h0, L.ff, L.bt, by simp [L.len], fun j s e => ?_, fun j k o o' e1 e2 e3 => ?_, nb_set L.nb (fun _ z => by cases z), L.tb⟩
  · rcases getS e with ⟨rfl, rfl, lt⟩ | ⟨n, e⟩
    · trivial
    · exact L.sl j s e
  · rcases getS e1 with ⟨_, z, _⟩ | ⟨n1, e1⟩
    · cases z
    · rcases getS e2 with ⟨_, z, _⟩ | ⟨n2, e2⟩
      · cases z
      · exact L.ne j k o o' e1 e2 e3
theorem e_move (i : Nat) {x : Str} (hN : X.N[i]? = some x := by rfl) (hv : Vis X.env.scope x := by first | exact Or.inl rfl | exact Or.inr (Or.inl rfl) | exact Or.inr (Or.inr rfl)) (hd : (x == ("__debug__" : Str)) = false := by decide)
    (hcd : (x == ("__classdict__" : Str)) = false := by decide) : E3 X E (.Name x pos) (tM i) := ⟨fun F0 H0 B =>
  pe_imp (pe_var hN hv hd hcd) fun σ H Q hh => ex4 hh fun δ F Z P L z w q => by
    unfold tM at w
    cases e : δ[i]? with
    | none => rw [e] at w; exact w.elim
    | some s =>
      rw [e] at w
      cases s with
      | un => exact w.elim
      | bor o => exact w.elim
      | d x =>
        obtain ⟨v, e1, r⟩ := L.sl i _ e
        exact ⟨v, e1, q (.d x) δ v F H w L (Same.refl _) r⟩
      | own o =>
        obtain ⟨a, e1, fn, hn, ow⟩ := L.sl i _ e
        refine ⟨.ref a, e1, q (.own o) _ _ F H w L.out (Same.refl _) ⟨a, rfl, fn, hn, ow, fun j o' ej z => ?_⟩⟩
        rcases getS ej with ⟨_, z', _⟩ | ⟨n, ej⟩
        · cases z'
        · exact n (L.ne i j o o' e ej (by rw [e1, z]))⟩
def tK (x : D) : T3D := fun _ δ Q => Q x δ
theorem d_const {v : V} {x : D} (h : PE X e (tC v)) (r : ∀ F, Rp X.K F v x) : D3 X E e (tK x) := ⟨fun F0 H0 B => pe_imp h fun σ H Q hh => ex4 hh fun δ F Z P L z w q => q x δ v F H w L (Same.refl _) (r F)⟩
theorem d_int {i j} : D3 X E (.Constant (.int i) j pos) (tK (.int i)) := d_const pe_int fun _ => .int i
theorem d_bl {b j} : D3 X E (.Constant (.bool b) j pos) (tK (.bl b)) := d_const pe_bl fun _ => .bl b
theorem d_str {x j} : D3 X E (.Constant (.str x) j pos) (tK (.str x)) := d_const pe_str fun _ => .str x
theorem d_glob {x : Str} {u : Value} {v : V} {y : D} (hg : Gl X x) (hm : X.mg x = some u) (r : RelV v u) (p : ∀ F, Rp X.K F v y) (hd : (x == ("__debug__" : Str)) = false := by decide) : D3 X E (.Name x pos) (tK y) := d_const (pe_glob hg hm r hd) p

/-! ### operators -/
def R3 (K : PySem.W.Frag) (r : R2) (r3 : D → D → (D → Prop) → Prop) : Prop := ∀ F H x y v u (Q : VK) (P : D → Prop), Same F H → Rp K F v x → Rp K F u y → r3 x y P → (∀ z w, P z → Rp K F w z → Q w H) → r v u H Q
def tO (r3 : D → D → (D → Prop) → Prop) (a b : T3D) : T3D := fun Z δ Q => a Z δ fun x δ1 => b Z δ1 fun y δ2 => r3 x y fun z => Q z δ2
theorem lo_op {K : PySem.W.Frag} {F0 H0 : Hp} {B : Option Addr} {ta tb : T3D} {r : R2} {r3 : D → D → (D → Prop) → Prop} (rel : R3 K r r3) {σ : St} {H : Hp} {Q : VK} (h : LD K E F0 H0 B (tO r3 ta tb) σ H Q) : tOp r (LD K E F0 H0 B ta) (LD K E F0 H0 B tb) σ H Q := by
  obtain ⟨δ, F, Z, P, L, z, w, q⟩ := h
  refine ⟨δ, F, Z, _, L, z, w, fun x δ1 v F1 H1 p1 L1 s1 r1 => ⟨δ1, F1, Z, _, L1, z, p1, fun y δ2 u F2 H2 p2 L2 s2 r2 => ?_⟩⟩
  exact rel F2 H2 x y v u Q _ L2.fh (r1.same s2) r2 p2 fun zz ww pz rz => q zz δ2 ww F2 H2 pz L2 (s1.trans s2) rz
theorem d_op {op : Operator} {r : R2} {r3 : D → D → (D → Prop) → Prop} {ta tb : T3D} (ho : OpR X (binaryOp op) r) (rel : R3 X.K r r3) (ha : D3 X E a ta) (hb : D3 X E b tb) : D3 X E (.BinOp a op b pos) (tO r3 ta tb) :=
  ⟨fun F0 H0 B => pe_imp (pe_op ho (ha.h F0 H0 B) (hb.h F0 H0 B)) fun _ _ _ h => lo_op rel h⟩
theorem d_cmp {op : CmpOp} {r : R2} {r3 : D → D → (D → Prop) → Prop} {ta tb : T3D} (ho : OpR X (compareOp op) r) (rel : R3 X.K r r3) (ha : D3 X E a ta) (hb : D3 X E b tb) (hm : behindInMarks op b = false) : D3 X E (.Compare a [op] [b] pos) (tO r3 ta tb) :=
  ⟨fun F0 H0 B => pe_imp (pe_cmpR ho (ha.h F0 H0 B) (hb.h F0 H0 B) hm) fun _ _ _ h => lo_op rel h⟩
theorem d_ix {r : R2} {r3 : D → D → (D → Prop) → Prop} {ta tb : T3D} (ho : IxR X r) (rel : R3 X.K r r3) (ha : D3 X E a ta) (hb : D3 X E b tb) (hs : PlainIx b) : D3 X E (.Subscript a b pos) (tO r3 ta tb) :=
  ⟨fun F0 H0 B => pe_imp (pe_ix ho (ha.h F0 H0 B) (hb.h F0 H0 B) hs) fun _ _ _ h => lo_op rel h⟩
/-- a value as a test -/
def tB3 (t : T3D) : T3T := fun Z δ Q => t Z δ fun x δ' => match x with
  | .bl c => Q c δ'
  | _ => False
theorem bl_inv {x : D} {P : Bool → Prop} (h : match x with
  | .bl c => P c
  | _ => False) : ∃ c, x = .bl c ∧ P c := by
  cases x with
  | bl c => exact ⟨c, rfl, h⟩
  | _ => exact h.elim
theorem c_cmp {op : CmpOp} {r : R2} {r3 : D → D → (D → Prop) → Prop} {ta tb : T3D} (ho : OpR X (compareOp op) r) (rel : R3 X.K r r3) (ha : D3 X E a ta) (hb : D3 X E b tb) (hm : behindInMarks op b = false) : C3 X E (.Compare a [op] [b] pos) (tB3 (tO r3 ta tb)) :=
  ⟨fun F0 H0 B => pt_imp (pt_cmpR ho (ha.h F0 H0 B) (hb.h F0 H0 B) hm) fun σ H Q hh => ex4 hh fun δ F Z P L z w q => lo_op rel ⟨δ, F, Z, _, L, z, w, fun x δ' v F' H' p L' s r => by
    obtain ⟨c, rfl, k⟩ := bl_inv p
    exact ⟨c, r.inv_bl, q _ δ' F' H' k L' s⟩⟩⟩
theorem c_val {t : T3D} (h : D3 X E e t) (he : ∀ whole, isTrue e X.env whole = (do let v ← whole; standAt e.pos; holding [v] (truthy v)) := by intro _; rfl) : C3 X E e (tB3 t) :=
  ⟨fun F0 H0 B => pt_imp (pt_val (h.h F0 H0 B) he) fun σ H Q hh => ex4 hh fun δ F Z P L z w q => ⟨δ, F, Z, _, L, z, w, fun x δ' v F' H' p L' s r => by
    obtain ⟨c, rfl, k⟩ := bl_inv p
    exact ⟨c, r.inv_bl, q _ δ' F' H' k L' s⟩⟩⟩
/-- a branch -/
def Br : Bool → Prop → Prop → Prop
  | true, A, _ => A
  | false, _, B => B
theorem br {b : Bool} {A B : Prop} (h1 : b = true → A) (h2 : b = false → B) : Br b A B := by
  cases b with
  | true => exact h1 rfl
  | false => exact h2 rfl
theorem brd {p : Prop} [Decidable p] {A B : Prop} (h1 : p → A) (h2 : ¬ p → B) : Br (decide p) A B := br (fun h => h1 (of_decide_eq_true h)) fun h => h2 (of_decide_eq_false h)
theorem brn {p : Prop} [Decidable p] {A B : Prop} (h1 : ¬ p → A) (h2 : p → B) : Br (!decide p) A B := br (fun h => h1 (by simpa using h)) fun h => h2 (by simpa using h)
def tNot3 (t : T3T) : T3T := fun Z δ Q => t Z δ fun c δ' => Q (!c) δ'
theorem c_not {t : T3T} (h : C3 X E a t) : C3 X E (.UnaryOp .Not a pos) (tNot3 t) :=
  ⟨fun F0 H0 B => pt_imp (pt_not (h.h F0 H0 B)) fun σ H Q hh => ex4 hh fun δ F Z P L z w q => ⟨δ, F, Z, _, L, z, w, fun b δ' F' H' p L' s => q _ δ' F' H' p L' s⟩⟩
def tAnd3 (t u : T3T) : T3T := fun Z δ Q => t Z δ fun c δ' => Br c (u Z δ' Q) (Q false δ')
def tOr3 (t u : T3T) : T3T := fun Z δ Q => t Z δ fun c δ' => Br c (Q true δ') (u Z δ' Q)
theorem w_and1 {t : T3T} (h : C3 X E a t) : W3 X E (.BoolOp .And [a] pos) t := ⟨fun F0 H0 B => pw_and1 (h.h F0 H0 B)⟩
theorem w_or1 {t : T3T} (h : C3 X E a t) : W3 X E (.BoolOp .Or [a] pos) t := ⟨fun F0 H0 B => pw_or1 (h.h F0 H0 B)⟩
theorem w_and {t u : T3T} {rest : List Expr} (h : C3 X E a t) (k : W3 X E (.BoolOp .And (b :: rest) pos) u) : W3 X E (.BoolOp .And (a :: b :: rest) pos) (tAnd3 t u) :=
  ⟨fun F0 H0 B => pw_imp (pw_and (h.h F0 H0 B) (k.h F0 H0 B)) fun σ H Q hh => ex4 hh fun δ F Z P L z w q => ⟨δ, F, Z, _, L, z, w, fun c δ' F' H' p L' s => by
    cases c with
    | true =>
      rw [if_pos rfl]
      exact ⟨δ', F', Z, P, L', z, p, fun c2 δ2 F2 H2 p2 L2 s2 => q c2 δ2 F2 H2 p2 L2 (s.trans s2)⟩
    | false =>
      rw [if_neg Bool.false_ne_true]
      exact q _ δ' F' H' p L' s⟩⟩
theorem w_or {t u : T3T} {rest : List Expr} (h : C3 X E a t) (k : W3 X E (.BoolOp .Or (b :: rest) pos) u) : W3 X E (.BoolOp .Or (a :: b :: rest) pos) (tOr3 t u) :=
  ⟨fun F0 H0 B => pw_imp (pw_or (h.h F0 H0 B) (k.h F0 H0 B)) fun σ H Q hh => ex4 hh fun δ F Z P L z w q => ⟨δ, F, Z, _, L, z, w, fun c δ' F' H' p L' s => by
    cases c with
    | true =>
      rw [if_pos rfl]
      exact q _ δ' F' H' p L' s
    | false =>
      rw [if_neg Bool.false_ne_true]
      exact ⟨δ', F', Z, P, L', z, p, fun c2 δ2 F2 H2 p2 L2 s2 => q c2 δ2 F2 H2 p2 L2 (s.trans s2)⟩⟩⟩
theorem W3.toC {t : T3T} (h : W3 X E e t) : C3 X E e t := ⟨fun F0 H0 B => (h.h F0 H0 B).pt⟩
/-! and, or, not as values (of truths) -/
def tAndD (t u : T3D) : T3D := fun Z δ Q => t Z δ fun x δ' => match x with
  | .bl c => Br c (u Z δ' Q) (Q (.bl false) δ')
  | _ => False
def tNotD (t : T3D) : T3D := fun Z δ Q => t Z δ fun x δ' => match x with
  | .bl c => Q (.bl (!c)) δ'
  | _ => False
theorem d_one {op} {t : T3D} (h : D3 X E a t) : D3 X E (.BoolOp op [a] pos) t := ⟨fun F0 H0 B => pe_one (h.h F0 H0 B)⟩
theorem d_and {t u : T3D} {rest : List Expr} (h : D3 X E a t) (k : D3 X E (.BoolOp .And (b :: rest) pos) u) : D3 X E (.BoolOp .And (a :: b :: rest) pos) (tAndD t u) :=
  ⟨fun F0 H0 B => pe_imp (pe_and (h.h F0 H0 B) (k.h F0 H0 B)) fun σ H Q hh => ex4 hh fun δ F Z P L z w q => ⟨δ, F, Z, _, L, z, w, fun x δ' v F' H' p L' s r => by
    cases x with
    | bl c =>
      obtain rfl := r.inv_bl
      refine ⟨c, rfl, ?_⟩
      cases c with
      | true =>
        rw [if_pos rfl]
        exact ⟨δ', F', Z, P, L', z, p, fun c2 δ2 v2 F2 H2 p2 L2 s2 r2 => q c2 δ2 v2 F2 H2 p2 L2 (s.trans s2) r2⟩
      | false =>
        rw [if_neg Bool.false_ne_true]
        exact q _ δ' _ F' H' p L' s (.bl false)
    | _ => exact p.elim⟩⟩
theorem d_not {t : T3D} (h : D3 X E a t) : D3 X E (.UnaryOp .Not a pos) (tNotD t) :=
  ⟨fun F0 H0 B => pe_imp (pe_not (h.h F0 H0 B)) fun σ H Q hh => ex4 hh fun δ F Z P L z w q => ⟨δ, F, Z, _, L, z, w, fun x δ' v F' H' p L' s r => by
    cases x with
    | bl c =>
      obtain rfl := r.inv_bl
      exact ⟨c, rfl, q _ δ' _ F' H' p L' s (.bl _)⟩
    | _ => exact p.elim⟩⟩
/-- unary minus and its kin -/
def tU (r3 : D → (D → Prop) → Prop) (a : T3D) : T3D := fun Z δ Q => a Z δ fun x δ1 => r3 x fun z => Q z δ1
def i1 (g : Int → D) : D → (D → Prop) → Prop := fun x P => match x with
  | .int i => P (g i)
  | _ => False
theorem d_neg {t : T3D} (h : D3 X E a t) : D3 X E (.UnaryOp .USub a pos) (tU (i1 fun i => .int (-i)) t) :=
  ⟨fun F0 H0 B => pe_imp (pe_un un_neg (h.h F0 H0 B)) fun σ H Q hh => ex4 hh fun δ F Z P L z w q => ⟨δ, F, Z, _, L, z, w, fun x δ' v F' H' p L' s r => by
    cases x with
    | int i => exact ⟨i, r.inv_int, q _ δ' _ F' H' p L' s (.int _)⟩
    | _ => exact p.elim⟩⟩

/-! ### rows of ints -/
def i2 (g : Int → Int → D) : D → D → (D → Prop) → Prop := fun x y P => match x, y with
  | .int i, .int j => P (g i j)
  | _, _ => False
def i2c (C : Int → Int → Prop) (g : Int → Int → D) : D → D → (D → Prop) → Prop := fun x y P => match x, y with
  | .int i, .int j => C i j ∧ P (g i j)
  | _, _ => False
theorem i2_inv {g : Int → Int → D} {x y : D} {P : D → Prop} (h : i2 g x y P) : ∃ i j, x = .int i ∧ y = .int j ∧ P (g i j) := by
  cases x with
  | int i =>
    cases y with
    | int j => exact ⟨i, j, rfl, rfl, h⟩
    | _ => exact h.elim
  | _ => exact h.elim
theorem i2c_inv {C : Int → Int → Prop} {g : Int → Int → D} {x y : D} {P : D → Prop} (h : i2c C g x y P) : ∃ i j, x = .int i ∧ y = .int j ∧ C i j ∧ P (g i j) := by
  cases x with
  | int i =>
    cases y with
    | int j => exact ⟨i, j, rfl, rfl, h⟩
    | _ => exact h.elim
  | _ => exact h.elim
theorem r3_i2 {K : PySem.W.Frag} {g : Int → Int → V} {g3 : Int → Int → D} (hg : ∀ F i j, Rp K F (g i j) (g3 i j)) : R3 K (rI0 g) (i2 g3) := by
  intro F H x y v u Q P fh rx ry h q
  obtain ⟨i, j, rfl, rfl, p⟩ := i2_inv h
  exact ⟨i, j, rx.inv_int, ry.inv_int, q _ _ p (hg _ _ _)⟩
theorem r3_i2c {K : PySem.W.Frag} {C C3 : Int → Int → Prop} {g : Int → Int → V} {g3 : Int → Int → D} (hC : ∀ i j, C3 i j → C i j) (hg : ∀ F i j, Rp K F (g i j) (g3 i j)) : R3 K (rI C g) (i2c C3 g3) := by
  intro F H x y v u Q P fh rx ry h q
  obtain ⟨i, j, rfl, rfl, c, p⟩ := i2c_inv h
  exact ⟨i, j, rx.inv_int, ry.inv_int, hC _ _ c, q _ _ p (hg _ _ _)⟩
theorem r_add {K : PySem.W.Frag} : R3 K (rI0 fun i j => .int (i + j)) (i2 fun i j => .int (i + j)) := r3_i2 fun _ _ _ => .int _
theorem r_sub {K : PySem.W.Frag} : R3 K (rI0 fun i j => .int (i - j)) (i2 fun i j => .int (i - j)) := r3_i2 fun _ _ _ => .int _
/-- a number of at most 2 ^ 16 bits -/
def Fit (i : Int) : Prop := i.natAbs < 2 ^ 65536
def FitM (i j : Int) : Prop := Fit i ∧ Fit j
theorem fit_w {i j : Int} (h : FitM i j) : Fr.CW i j := ⟨65536, h.1, h.2, by decide⟩
theorem r_mul {K : PySem.W.Frag} : R3 K (rI Fr.CW fun i j => .int (i * j)) (i2c FitM fun i j => .int (i * j)) := r3_i2c (fun _ _ h => fit_w h) fun _ _ _ => .int _
def DivM (_ j : Int) : Prop := 0 < j ∧ j < 2 ^ 250
theorem r_fdiv {K : PySem.W.Frag} : R3 K (rI (fun _ j => 0 < j ∧ j < 2 ^ 250) fun i j => .int (i / j)) (i2c DivM fun i j => .int (i / j)) := r3_i2c (fun _ _ h => h) fun _ _ _ => .int _
def ModM (_ j : Int) : Prop := 0 < j
theorem r_mod {K : PySem.W.Frag} : R3 K (rI (fun _ j => 0 < j) fun i j => .int (i % j)) (i2c ModM fun i j => .int (i % j)) := r3_i2c (fun _ _ h => h) fun _ _ _ => .int _
def ModZ (_ j : Int) : Prop := j ≠ 0
theorem r_modN {K : PySem.W.Frag} : R3 K (rI (fun _ j => j ≠ 0) fun i j => .int (i.fmod j)) (i2c ModZ fun i j => .int (i.fmod j)) := r3_i2c (fun _ _ h => h) fun _ _ _ => .int _
def DivZ (_ j : Int) : Prop := j ≠ 0 ∧ j.natAbs < 2 ^ 250
theorem r_fdivZ {K : PySem.W.Frag} : R3 K (rI (fun _ j => j ≠ 0 ∧ j.natAbs < 2 ^ 250) fun i j => .int (i.fdiv j)) (i2c DivZ fun i j => .int (i.fdiv j)) := r3_i2c (fun _ _ h => h) fun _ _ _ => .int _
theorem r_pow {K : PySem.W.Frag} : R3 K (rI CPow fun i j => .int (i ^ j.toNat)) (i2c CPow fun i j => .int (i ^ j.toNat)) := r3_i2c (fun _ _ h => h) fun _ _ _ => .int _
theorem r_lt {K : PySem.W.Frag} : R3 K (rI0 fun i j => .bl (decide (i < j))) (i2 fun i j => .bl (decide (i < j))) := r3_i2 fun _ _ _ => .bl _
theorem r_le {K : PySem.W.Frag} : R3 K (rI0 fun i j => .bl (decide (i ≤ j))) (i2 fun i j => .bl (decide (i ≤ j))) := r3_i2 fun _ _ _ => .bl _
theorem r_gt {K : PySem.W.Frag} : R3 K (rI0 fun i j => .bl (decide (j < i))) (i2 fun i j => .bl (decide (j < i))) := r3_i2 fun _ _ _ => .bl _
def i2eq : D → D → (D → Prop) → Prop := i2 fun i j => .bl (decide (i = j))
def i2ne : D → D → (D → Prop) → Prop := i2 fun i j => .bl (!decide (i = j))
theorem dec_int (i j : Int) : decide (V.int i = V.int j) = decide (i = j) := by
  by_cases h : i = j
  · rw [h]; simp
  · rw [decide_eq_false h, decide_eq_false fun z => h (by injection z)]
theorem r_eq {K : PySem.W.Frag} : R3 K rEq i2eq := by
  intro F H x y v u Q P fh rx ry h q
  obtain ⟨i, j, rfl, rfl, p⟩ := i2_inv h
  obtain rfl := rx.inv_int
  obtain rfl := ry.inv_int
  exact ⟨rfl, by rw [dec_int]; exact q _ _ p (.bl _)⟩
theorem r_ne {K : PySem.W.Frag} : R3 K rNe i2ne := by
  intro F H x y v u Q P fh rx ry h q
  obtain ⟨i, j, rfl, rfl, p⟩ := i2_inv h
  obtain rfl := rx.inv_int
  obtain rfl := ry.inv_int
  exact ⟨rfl, by rw [dec_int]; exact q _ _ p (.bl _)⟩
/-- a op b op c -/
def tCh (r r' : D → D → (D → Prop) → Prop) (a b c : T3D) : T3D := fun Z δ Q => a Z δ fun x δ1 => b Z δ1 fun y δ2 => r x y fun z => match z with
  | .bl k => Br k (c Z δ2 fun w δ3 => r' y w fun z' => Q z' δ3) (Q (.bl false) δ2)
  | _ => False
theorem lo_ch {K : PySem.W.Frag} {F0 H0 : Hp} {B : Option Addr} {ta tb tc : T3D} {r r' : R2} {r3 r3' : D → D → (D → Prop) → Prop} (rel : R3 K r r3) (rel' : R3 K r' r3') {σ : St} {H : Hp} {Q : VK} (h : LD K E F0 H0 B (tCh r3 r3' ta tb tc) σ H Q) :
    tChain r r' (LD K E F0 H0 B ta) (LD K E F0 H0 B tb) (LD K E F0 H0 B tc) σ H Q := by
  obtain ⟨δ, F, Z, P, L, z, w, q⟩ := h
  refine ⟨δ, F, Z, _, L, z, w, fun x δ1 v F1 H1 p1 L1 s1 r1 => ⟨δ1, F1, Z, _, L1, z, p1, fun y δ2 u F2 H2 p2 L2 s2 r2 => ?_⟩⟩
  refine rel F2 H2 x y v u _ _ L2.fh (r1.same s2) r2 p2 fun zz ww pz rz => ?_
  cases zz with
  | bl k =>
    obtain rfl := rz.inv_bl
    refine ⟨k, rfl, ?_⟩
    cases k with
    | true =>
      rw [if_pos rfl]
      refine ⟨δ2, F2, Z, _, L2, z, pz, fun y3 δ3 u3 F3 H3 p3 L3 s3 r3 => ?_⟩
      exact rel' F3 H3 y y3 u u3 Q _ L3.fh (r2.same s3) r3 p3 fun zz ww pz rz => q zz δ3 ww F3 H3 pz L3 ((s1.trans s2).trans s3) rz
    | false =>
      rw [if_neg Bool.false_ne_true]
      exact q _ δ2 _ F2 H2 pz L2 (s1.trans s2) (.bl false)
  | _ => exact pz.elim
theorem d_chain {op op' : CmpOp} {r r' : R2} {r3 r3' : D → D → (D → Prop) → Prop} {ta tb tc : T3D} (ho : OpR X (compareOp op) r) (ho' : OpR X (compareOp op') r') (rel : R3 X.K r r3) (rel' : R3 X.K r' r3') (ha : D3 X E a ta) (hb : D3 X E b tb) (hc : D3 X E c tc)
    (hm : lastMarks [op, op'] [b, c] = false := by with_unfolding_all rfl) : D3 X E (.Compare a [op, op'] [b, c] pos) (tCh r3 r3' ta tb tc) :=
  ⟨fun F0 H0 B => pe_imp (pe_chain ho ho' (ha.h F0 H0 B) (hb.h F0 H0 B) (hc.h F0 H0 B) hm) fun _ _ _ h => lo_ch rel rel' h⟩
end
end L3

set_option Elab.async false
set_option linter.all false
set_option maxRecDepth 100000
namespace L3
open PySem PySem.Spec L2
section
variable {X : Cx} {E : XK} {e a b c o : Expr} {es : List Expr} {pos : Pos}

/-! ### argument lists, displays -/
def tA0 : T3A := fun _ δ Q => Q [] δ
def tAc (t : T3D) (u : T3A) : T3A := fun Z δ Q => t Z δ fun x δ1 => u Z δ1 fun xs δ2 => Q (x :: xs) δ2
theorem a_nil : A3 X E [] tA0 := ⟨fun F0 H0 B => pa_imp pa_nil fun σ H Q hh => ex4 hh fun δ F Z P L z w q => q [] δ [] F H w L (Same.refl _) .nil⟩
theorem a_cons {t : T3D} {u : T3A} (h : D3 X E e t) (r : A3 X E es u) (hs : starEach (e :: es) X.env = (false, eval e X.env) :: starEach es X.env := by rfl) : A3 X E (e :: es) (tAc t u) :=
  ⟨fun F0 H0 B => pa_imp (pa_cons (h.h F0 H0 B) (r.h F0 H0 B) hs) fun σ H Q hh => ex4 hh fun δ F Z P L z w q => ⟨δ, F, Z, _, L, z, w, fun x δ1 v F1 H1 p1 L1 s1 r1 =>
    ⟨δ1, F1, Z, _, L1, z, p1, fun xs δ2 vs F2 H2 p2 L2 s2 r2 => q _ δ2 _ F2 H2 p2 L2 (s1.trans s2) (.cons (r1.same s2) r2)⟩⟩⟩
/-- a length that is no matter -/
def Few (n : Nat) (P : Prop) : Prop := match Nat.ble n 1000000 with
  | true => P
  | false => False
theorem few {n : Nat} {P : Prop} (h : Few n P) : n ≤ 1000000 ∧ P := by
  unfold Few at h
  cases e : Nat.ble n 1000000 with
  | true => rw [e] at h; exact ⟨Nat.le_of_ble_eq_true e, h⟩
  | false => rw [e] at h; exact h.elim
theorem line_big {n : Nat} (h : n ≤ 1000000) : n < sizeLine := Nat.lt_of_le_of_lt h (by decide)
def tTu (t : T3A) : T3D := fun Z δ Q => t Z δ fun xs δ' => Few xs.length (Q (.tup xs) δ')
theorem d_tup {t : T3A} {x1} (h : A3 X E es t) : D3 X E (.Tuple es x1 pos) (tTu t) :=
  ⟨fun F0 H0 B => pe_imp (pe_tup (h.h F0 H0 B)) fun σ H Q hh => ex4 hh fun δ F Z P L z w q => ⟨δ, F, Z, _, L, z, w, fun xs δ' vs F' H' p L' s r => by
    obtain ⟨n, p⟩ := few p
    refine ⟨by rw [r.len]; exact Nat.le_of_lt (line_big n), fun a ha => ?_⟩
    obtain ⟨L2, s2⟩ := L'.newD (ho := .tup vs) ha
    exact q _ δ' _ _ _ p L2 (s.trans s2) (.tup (SqT.of upd_same) (r.same s2))⟩⟩
def tLs (t : T3A) : T3E := fun Z δ Q => t Z δ fun xs δ' => Few xs.length (Q (.own (.lst xs)) δ')
theorem e_lst {t : T3A} (h : A3 X E es t) : E3 X E (.List es pos) (tLs t) :=
  ⟨fun F0 H0 B => pe_imp (pe_lst (h.h F0 H0 B)) fun σ H Q hh => ex4 hh fun δ F Z P L z w q => ⟨δ, F, Z, _, L, z, w, fun xs δ' vs F' H' p L' s r => by
    obtain ⟨n, p⟩ := few p
    refine ⟨by rw [r.len]; exact Nat.le_of_lt (line_big n), fun a ha => ?_⟩
    obtain ⟨L2, k2⟩ := L'.newO (ho := .lst vs) ha (o := .lst xs) ⟨vs, upd_same, r⟩
    exact q _ δ' _ _ _ p L2 s k2⟩⟩

/-! ### items -/
def ixL : D → D → (D → Prop) → Prop := fun x y P => match x, y with
  | .lst xs, .int i => ∃ v, atI xs i = some v ∧ P v
  | _, _ => False
def ixT : D → D → (D → Prop) → Prop := fun x y P => match x, y with
  | .tup xs, .int i => ∃ v, atI xs i = some v ∧ P v
  | _, _ => False
theorem at_rp {K : PySem.W.Frag} {F : Hp} {vs : List V} {xs : List D} {i : Int} {x : D} (r : Rps K F vs xs) (h : atI xs i = some x) : ∃ v, atI vs i = some v ∧ Rp K F v x := by
  unfold atI at h ⊢
  rw [r.len]
  cases e : ixN xs.length i with
  | none => rw [e] at h; cases h
  | some j =>
    rw [e] at h
    exact r.at h
theorem ixL_inv {x y : D} {P : D → Prop} (h : ixL x y P) : ∃ xs i, x = .lst xs ∧ y = .int i ∧ ∃ v, atI xs i = some v ∧ P v := by
  cases x with
  | lst xs =>
    cases y with
    | int i => exact ⟨xs, i, rfl, rfl, h⟩
    | _ => exact h.elim
  | _ => exact h.elim
theorem ixT_inv {x y : D} {P : D → Prop} (h : ixT x y P) : ∃ xs i, x = .tup xs ∧ y = .int i ∧ ∃ v, atI xs i = some v ∧ P v := by
  cases x with
  | tup xs =>
    cases y with
    | int i => exact ⟨xs, i, rfl, rfl, h⟩
    | _ => exact h.elim
  | _ => exact h.elim
theorem r_ixL {K : PySem.W.Frag} : R3 K (rIxL K) ixL := by
  intro F H x y v u Q P fh rx ry h q
  obtain ⟨xs, i, rfl, rfl, z, hz, p⟩ := ixL_inv h
  obtain ⟨a, vs, rfl, hs, rs⟩ := rx.inv_lst
  obtain rfl := ry.inv_int
  obtain ⟨w, hw, rw'⟩ := at_rp rs hz
  exact ⟨_, _, _, w, rfl, rfl, SqL.of (fh _ _ hs), hw, q z w p rw'⟩
theorem r_ixT {K : PySem.W.Frag} : R3 K (rIxT K) ixT := by
  intro F H x y v u Q P fh rx ry h q
  obtain ⟨xs, i, rfl, rfl, z, hz, p⟩ := ixT_inv h
  obtain ⟨a, vs, rfl, hs, rs⟩ := rx.inv_tup
  obtain rfl := ry.inv_int
  obtain ⟨w, hw, rw'⟩ := at_rp rs hz
  exact ⟨_, _, _, w, rfl, rfl, Fr.sqT_same fh hs, hw, q z w p rw'⟩
theorem d_ixL {ta tb : T3D} (ha : D3 X E a ta) (hb : D3 X E b tb) (hs : PlainIx b := by exact fun _ _ => rfl) : D3 X E (.Subscript a b pos) (tO ixL ta tb) := d_ix ix_list r_ixL ha hb hs
theorem d_ixT {ta tb : T3D} (ha : D3 X E a ta) (hb : D3 X E b tb) (hs : PlainIx b := by exact fun _ _ => rfl) : D3 X E (.Subscript a b pos) (tO ixT ta tb) := d_ix ix_tup r_ixT ha hb hs
/-- the list that a name stands for, owned or not -/
def Sl.list : Sl → Option (List D)
  | .d (.lst xs) => some xs
  | .own (.lst xs) => some xs
  | .bor (.lst xs) => some xs
  | _ => none
theorem Lk.list {K : PySem.W.Frag} {F0 H0 F H : Hp} {B : Option Addr} {σ : St} {δ : List Sl} {i : Nat} {s : Sl} {xs : List D} (L : Lk K F0 H0 B σ δ F H) (e : δ[i]? = some s) (l : s.list = some xs) : ∃ a vs, σ[i]? = some (some (.ref a)) ∧ SqL K H a vs ∧ Rps K F vs xs := by
  have q := L.sl i s e
  cases s with
  | un => cases l
  | d x =>
    cases x with
    | lst ys =>
      cases l
      obtain ⟨v, e1, r⟩ := q
      cases r with
      | lst hs rs => exact ⟨_, _, e1, SqL.of (L.fh _ _ hs), rs⟩
    | _ => cases l
  | own o =>
    cases o with
    | lst ys =>
      cases l
      obtain ⟨a, e1, _, _, vs, hh, rs⟩ := q
      exact ⟨a, vs, e1, SqL.of hh, rs⟩
    | _ => cases l
  | bor o =>
    cases o with
    | lst ys =>
      cases l
      obtain ⟨a, e1, _, _, vs, hh, rs⟩ := q
      exact ⟨a, vs, e1, SqL.of hh, rs⟩
    | _ => cases l
def gl (δ : List Sl) (i : Nat) : Option (List D) := match δ[i]? with
  | some s => s.list
  | none => none
theorem Lk.gl {K : PySem.W.Frag} {F0 H0 F H : Hp} {B : Option Addr} {σ : St} {δ : List Sl} {i : Nat} {xs : List D} (L : Lk K F0 H0 B σ δ F H) (l : gl δ i = some xs) : ∃ a vs, σ[i]? = some (some (.ref a)) ∧ SqL K H a vs ∧ Rps K F vs xs := by
  unfold L3.gl at l
  cases e : δ[i]? with
  | none => rw [e] at l; cases l
  | some s => rw [e] at l; exact L.list e l
def tIxN (i : Nat) (t : T3D) : T3D := fun Z δ Q => match gl δ i with
  | some _ => t Z δ fun y δ2 => match gl δ2 i, y with
    | some xs, .int k => ∃ v, atI xs k = some v ∧ Q v δ2
    | _, _ => False
  | none => False
theorem d_ixN (i : Nat) {x : Str} {p : Pos} {t : T3D} (hb : D3 X E b t) (hN : X.N[i]? = some x := by rfl) (hv : Vis X.env.scope x := by first | exact Or.inl rfl | exact Or.inr (Or.inl rfl) | exact Or.inr (Or.inr rfl)) (hd : (x == ("__debug__" : Str)) = false := by decide)
    (hcd : (x == ("__classdict__" : Str)) = false := by decide) (hs : PlainIx b := by exact fun _ _ => rfl) : D3 X E (.Subscript (.Name x p) b pos) (tIxN i t) :=
  ⟨fun F0 H0 B => pe_imp (pe_ix ix_list (pe_var (pos := p) hN hv hd hcd) (hb.h F0 H0 B) hs) fun σ H Q hh => ex4 hh fun δ F Z P L z w q => by
    unfold tIxN at w
    cases e0 : L3.gl δ i with
    | none => rw [e0] at w; exact w.elim
    | some xs0 =>
      rw [e0] at w
      obtain ⟨a0, vs0, e1, _, _⟩ := L.gl e0
      refine ⟨.ref a0, e1, δ, F, Z, _, L, z, w, fun y δ2 u F2 H2 p2 L2 s2 r2 => ?_⟩
      cases e : L3.gl δ2 i with
      | none => rw [e] at p2; exact p2.elim
      | some xs =>
        rw [e] at p2
        obtain ⟨a, vs, e2, sq, rs⟩ := L2.gl e
        rw [e1] at e2
        cases e2
        cases r2 with
        | int k =>
          obtain ⟨v, hv3, pv3⟩ := p2
          obtain ⟨w', hw, rw'⟩ := at_rp rs hv3
          exact ⟨_, vs, k, w', rfl, rfl, sq, hw, q v δ2 w' F2 H2 pv3 L2 s2 rw'⟩
        | _ => exact p2.elim⟩
/-! ### built-in functions of data -/
def CR3 (K : PySem.W.Frag) (r : List V → Hp → VK → Prop) (r3 : List D → (D → Prop) → Prop) : Prop := ∀ F H xs vs (Q : VK) (P : D → Prop), Same F H → Rps K F vs xs → r3 xs P → (∀ z w, P z → Rp K F w z → Q w H) → r vs H Q
def tCB3 (r3 : List D → (D → Prop) → Prop) (t : T3A) : T3D := fun Z δ Q => t Z δ fun xs δ' => r3 xs fun z => Q z δ'
theorem lo_cb {K : PySem.W.Frag} {F0 H0 : Hp} {B : Option Addr} {t : T3A} {r : List V → Hp → VK → Prop} {r3 : List D → (D → Prop) → Prop} (rel : CR3 K r r3) {σ : St} {H : Hp} {Q : VK} (h : LD K E F0 H0 B (tCB3 r3 t) σ H Q) : tCB r (LA K E F0 H0 B t) σ H Q := by
  obtain ⟨δ, F, Z, P, L, z, w, q⟩ := h
  exact ⟨δ, F, Z, _, L, z, w, fun xs δ' vs F' H' p L' s rs => rel F' H' xs vs Q _ L'.fh rs p fun zz ww pz rz => q zz δ' ww F' H' pz L' s rz⟩
theorem d_callB {x : Str} {p : Pos} {id : String} {r : List V → Hp → VK → Prop} {r3 : List D → (D → Prop) → Prop} {t : T3A} (hc : CallR X (.builtin id) r) (rel : CR3 X.K r r3) (hg : Gl X x) (hm : X.mg x = none) (hv : bootBuiltins x = some (.builtin id)) (ha : A3 X E (e :: es) t) (hn : x ≠ "__name__" := by decide) (hdb : (x == ("__debug__" : Str)) = false := by decide)
    (he : starEach (e :: es) X.env = (false, eval e X.env) :: starEach es X.env := by rfl) (hpl : (backTo pos (starEach es X.env)).any (·.1) = false := by rfl) : D3 X E (.Call (.Name x p) (e :: es) [] pos) (tCB3 r3 t) :=
  ⟨fun F0 H0 B => pe_imp (pe_callB hc hg hm hv (ha.h F0 H0 B) hn hdb he hpl) fun _ _ _ h => lo_cb rel h⟩
def rAbs : List D → (D → Prop) → Prop := fun xs P => match xs with
  | [.int i] => P (.int (if i < 0 then -i else i))
  | _ => False
theorem rAbs_inv {xs : List D} {P : D → Prop} (h : rAbs xs P) : ∃ i, xs = [.int i] ∧ P (.int (if i < 0 then -i else i)) := by
  unfold rAbs at h
  split at h
  · exact ⟨_, rfl, h⟩
  · exact h.elim
theorem cr_abs {K : PySem.W.Frag} : CR3 K (fun xs H Q => ∃ i, xs = [.int i] ∧ Q (.int (if i < 0 then -i else i)) H) rAbs := by
  intro F H xs vs Q P fh rs h q
  obtain ⟨i, rfl, p⟩ := rAbs_inv h
  obtain ⟨v, rfl, r⟩ := rs.inv1
  exact ⟨i, by rw [r.inv_int], q _ _ p (.int _)⟩
def rTwo (g : Int → Int → Int) : List D → (D → Prop) → Prop := fun xs P => match xs with
  | [.int i, .int j] => P (.int (g i j))
  | _ => False
theorem rTwo_inv {g : Int → Int → Int} {xs : List D} {P : D → Prop} (h : rTwo g xs P) : ∃ i j, xs = [.int i, .int j] ∧ P (.int (g i j)) := by
  unfold rTwo at h
  split at h
  · exact ⟨_, _, rfl, h⟩
  · exact h.elim
theorem cr_two {K : PySem.W.Frag} {g : Int → Int → Int} : CR3 K (fun xs H Q => ∃ i j, xs = [.int i, .int j] ∧ Q (.int (g i j)) H) (rTwo g) := by
  intro F H xs vs Q P fh rs h q
  obtain ⟨i, j, rfl, p⟩ := rTwo_inv h
  obtain ⟨v, u, rfl, r1, r2⟩ := rs.inv2
  exact ⟨i, j, by rw [r1.inv_int, r2.inv_int], q _ _ p (.int _)⟩
def rLen : List D → (D → Prop) → Prop := fun xs P => match xs with
  | [.lst ys] => P (.int ys.length)
  | [.tup ys] => P (.int ys.length)
  | [.scr ys] => P (.int ys.length)
  | _ => False
theorem cr_len {K : PySem.W.Frag} : CR3 K (fun xs H Q => ∃ p ys, xs = [.ref p] ∧ (SqL K H p ys ∨ SqT K H p ys) ∧ Q (.int ys.length) H) rLen := by
  intro F H xs vs Q P fh rs h q
  cases rs with
  | nil => exact h.elim
  | cons r rs =>
    cases rs with
    | cons r2 rs => cases r <;> exact h.elim
    | nil =>
      cases r with
      | lst hs rr => exact ⟨_, _, rfl, .inl (SqL.of (fh _ _ hs)), q _ _ h (by rw [rr.len]; exact .int _)⟩
      | tup hs rr => exact ⟨_, _, rfl, .inr (Fr.sqT_same fh hs), q _ _ h (by rw [rr.len]; exact .int _)⟩
      | scr hs => exact ⟨_, _, rfl, .inl (fh.seq hs), q _ _ h (by rw [List.length_map]; exact .int _)⟩
      | _ => exact h.elim
/-- len of a name's list -/
def tLenN (i : Nat) : T3D := fun Z δ Q => match gl δ i with
  | some xs => Q (.int xs.length) δ
  | none => False
theorem d_lenN (i : Nat) {x : Str} {p p2 : Pos} (hg : Gl X "len") (hm : X.mg "len" = none) (hN : X.N[i]? = some x := by rfl) (hv : Vis X.env.scope x := by first | exact Or.inl rfl | exact Or.inr (Or.inl rfl) | exact Or.inr (Or.inr rfl)) (hd : (x == ("__debug__" : Str)) = false := by decide)
    (hcd : (x == ("__classdict__" : Str)) = false := by decide) : D3 X E (.Call (.Name "len" p2) [.Name x p] [] pos) (tLenN i) :=
  ⟨fun F0 H0 B => pe_imp (pe_callB call_len_seq hg hm PySem.boot_len (pa_cons (pe_var (pos := p) hN hv hd hcd) pa_nil)) fun σ H Q hh => ex4 hh fun δ F Z P L z w q => by
    unfold tLenN at w
    cases e0 : L3.gl δ i with
    | none => rw [e0] at w; exact w.elim
    | some xs =>
      rw [e0] at w
      obtain ⟨a, vs, e1, sq, rs⟩ := L.gl e0
      exact ⟨.ref a, e1, a, vs, rfl, .inl sq, q _ δ _ F H w L (Same.refl _) (by rw [rs.len]; exact .int _)⟩⟩
end
end L3

set_option Elab.async false
set_option linter.all false
set_option maxRecDepth 100000
/-! Statements over data. -/
namespace L3
open PySem PySem.Spec L2
section
variable {X : Cx} {E : XK} {e a b c o : Expr} {es : List Expr} {pos : Pos} {st : Stmt} {rest : List Stmt}

def tNx : T3S := fun _ En δ => En.nx δ
def tSq (t u : T3S) : T3S := fun Z En δ => t Z { En with nx := fun δ' => u Z En δ' } δ
theorem b_nil : B3 X E [] tNx := ⟨fun F0 H0 B => pss_imp pss_nil fun Dn σ H hh => ex4 hh fun δ F Z En L z w ok => ok.nx σ δ F H w L (Same.refl _)⟩
theorem b_one {t : T3S} (h : S3 X E st t) : B3 X E [st] t := ⟨fun F0 H0 B => pss_one (h.h F0 H0 B)⟩
theorem b_cons {t u : T3S} (h : S3 X E st t) (k : B3 X E rest u) : B3 X E (st :: rest) (tSq t u) :=
  ⟨fun F0 H0 B => pss_imp (pss_cons (h.h F0 H0 B) (k.h F0 H0 B)) fun Dn σ H hh => ex4 hh fun δ F Z En L z w ok =>
    ⟨δ, F, Z, _, L, z, w, fun σ' δ' F' H' p L' s => ⟨δ', F', Z, En, L', z, p, ok.up s⟩, ok.rt, ok.bk, ok.ct⟩⟩
def tSt (i : Nat) (t : T3E) : T3S := fun Z En δ => t Z δ fun r δ' => En.nx (δ'.set i r.sl)
theorem s_set (i : Nat) {x : Str} {pos' : Pos} {t : T3E} (hN : X.N.Nodup) (hi : X.N[i]? = some x) (hx : Loc X.env.scope x) (he : E3 X E e t) (hs : swapsWith e (some (.Name x pos')) pos.line X.env = pure false := by rfl) (hf : X.fn x = true ∨ X.env.scope.names.lookup x = some .local := by first | exact .inl rfl | exact .inr rfl | assumption) :
    S3 X E (.Assign [.Name x pos'] e pos) (tSt i t) :=
  ⟨fun F0 H0 B => ps_imp (ps_set hN hi hx (he.h F0 H0 B) hs hf) fun Dn σ H hh => ex4 hh fun δ F Z En L z w ok => ⟨δ, F, Z, _, L, z, w, fun r δ' v F' H' p L' s k => ok.nx _ _ F' H' p (L'.setR k) s⟩⟩
def tRt (t : T3E) : T3S := fun Z En δ => t Z δ fun r δ' => En.rt r δ'
theorem s_ret {t : T3E} (he : E3 X E e t) : S3 X E (.Return (some e) pos) (tRt t) :=
  ⟨fun F0 H0 B => ps_imp (ps_ret (he.h F0 H0 B)) fun Dn σ H hh => ex4 hh fun δ F Z En L z w ok => ⟨δ, F, Z, _, L, z, w, fun r δ' v F' H' p L' s k => ok.rt r v σ δ' F' H' p L' s k⟩⟩
def tIf3 (c : T3T) (t u : T3S) : T3S := fun Z En δ => c Z δ fun k δ' => Br k (t Z En δ') (u Z En δ')
theorem s_if {A' B' : List Stmt} {tc : T3T} {t u : T3S} (hc : C3 X E c tc) (ha : B3 X E A' t) (hb : B3 X E B' u) : S3 X E (.If c A' B' pos) (tIf3 tc t u) :=
  ⟨fun F0 H0 B => ps_imp (ps_if (hc.h F0 H0 B) (ha.h F0 H0 B) (hb.h F0 H0 B)) fun Dn σ H hh => ex4 hh fun δ F Z En L z w ok => ⟨δ, F, Z, _, L, z, w, fun k δ' F' H' p L' s => by
    cases k with
    | true => rw [if_pos rfl]; exact ⟨δ', F', Z, En, L', z, p, ok.up s⟩
    | false => rw [if_neg Bool.false_ne_true]; exact ⟨δ', F', Z, En, L', z, p, ok.up s⟩⟩⟩
/-- while: P the word with its measure -/
def tWh (c : T3T) (tb : T3S) : T3S := fun Z En δ => ∃ P : Nat → List Sl → Prop, (∃ m, P m δ) ∧ ∀ m δ, P m δ →
  c Z δ fun k δ' => Br k (tb Z { En with nx := fun δ2 => ∃ m', m' < m ∧ P m' δ2, ct := fun δ2 => ∃ m', m' < m ∧ P m' δ2, bk := En.nx } δ') (En.nx δ')
theorem s_while {body : List Stmt} {tc : T3T} {tb : T3S} (hp : PassesOwn (model X.prog X.w) X.A X.env X.xe) (hc : C3 X E c tc) (hb : B3 X E body tb) : S3 X E (.While c body [] pos) (tWh tc tb) :=
  ⟨fun F0 H0 B => ps_imp (ps_while hp (hc.h F0 H0 B) (hb.h F0 H0 B)) fun Dn σ H hh => ex4 hh fun δ F Z En L z w ok => by
    obtain ⟨P, ⟨m0, p0⟩, turn⟩ := w
    refine ⟨fun m σ H => ∃ δ F1, Lk X.K F0 H0 B σ δ F1 H ∧ Same F F1 ∧ P m δ, ⟨m0, δ, F, L, Same.refl _, p0⟩, ?_⟩
    rintro m σ1 H1 ⟨δ1, F1, L1, s1, p1⟩
    refine ⟨δ1, F1, Z, _, L1, z, turn m δ1 p1, fun k δ2 F2 H2 p2 L2 s2 => ?_⟩
    cases k with
    | true =>
      rw [if_pos rfl]
      refine ⟨fun σ' H' => ∃ δ' F' m', m' < m ∧ Lk X.K F0 H0 B σ' δ' F' H' ∧ Same F F' ∧ P m' δ', ?_, δ2, F2, Z, _, L2, z, p2, ?_⟩
      · rintro σ' H' ⟨δ', F', m', hm, L', s', p'⟩
        exact ⟨m', hm, δ', F', L', s', p'⟩
      · exact ⟨fun σ' δ' F' H' ⟨m', hm, p'⟩ L' s' => ⟨δ', F', m', hm, L', (s1.trans s2).trans s', p'⟩, (ok.up (s1.trans s2)).rt, (ok.up (s1.trans s2)).nx, fun σ' δ' F' H' ⟨m', hm, p'⟩ L' s' => ⟨δ', F', m', hm, L', (s1.trans s2).trans s', p'⟩⟩
    | false =>
      rw [if_neg Bool.false_ne_true]
      exact ok.nx _ _ _ _ p2 L2 (s1.trans s2)⟩

/-! ### targets -/
abbrev T3G := D → List Sl → (List Sl → Prop) → Prop
abbrev T3Gs := List D → List Sl → (List Sl → Prop) → Prop
def LG (K : PySem.W.Frag) (F0 H0 : Hp) (B : Option Addr) (g : T3G) : TG := fun v σ H Q => ∃ δ F x P, Lk K F0 H0 B σ δ F H ∧ Rp K F v x ∧ g x δ P ∧ ∀ σ' δ' F' H', P δ' → Lk K F0 H0 B σ' δ' F' H' → Same F F' → Q σ' H'
def LGs (K : PySem.W.Frag) (F0 H0 : Hp) (B : Option Addr) (g : T3Gs) : TGs := fun vs σ H Q => ∃ δ F xs P, Lk K F0 H0 B σ δ F H ∧ Rps K F vs xs ∧ g xs δ P ∧ ∀ σ' δ' F' H', P δ' → Lk K F0 H0 B σ' δ' F' H' → Same F F' → Q σ' H'
structure G3 (X : Cx) (tg : Expr) (g : T3G) : Prop where
  h : ∀ F0 H0 B, PG X tg (LG X.K F0 H0 B g)
structure Gs3 (X : Cx) (tgs : List Expr) (g : T3Gs) : Prop where
  h : ∀ F0 H0 B, PGs X tgs (LGs X.K F0 H0 B g)
theorem pg_imp {tg : Expr} {t t' : TG} (h : PG X tg t) (i : ∀ v σ H Q, t' v σ H Q → t v σ H Q) : PG X tg t' := fun pins s σ H v u Q I r w => h pins s σ H v u Q I r (i _ _ _ _ w)
theorem pgs_imp {tg : List Expr} {t t' : TGs} (h : PGs X tg t) (i : ∀ v σ H Q, t' v σ H Q → t v σ H Q) : PGs X tg t' := fun pins s σ H v u Q I r w => h pins s σ H v u Q I r (i _ _ _ _ w)
def gNm (i : Nat) : T3G := fun x δ Q => Q (δ.set i (.d x))
theorem g_name (i : Nat) {x : Str} (hN : X.N.Nodup) (hi : X.N[i]? = some x) (hx : Loc X.env.scope x) (hf : X.fn x = true ∨ X.env.scope.names.lookup x = some .local := by first | exact .inl rfl | exact .inr rfl | assumption) : G3 X (.Name x pos) (gNm i) :=
  ⟨fun F0 H0 B => pg_imp (pg_name hN hi hx hf) fun v σ H Q hh => ex4 hh fun δ F x P L r w q => q _ _ F H w (L.set r) (Same.refl _)⟩
def gNil3 : T3Gs := fun xs δ Q => match xs with
  | [] => Q δ
  | _ => False
def gCons3 (g : T3G) (gs : T3Gs) : T3Gs := fun xs δ Q => match xs with
  | x :: r => g x δ fun δ' => gs r δ' Q
  | [] => False
theorem gs_nil : Gs3 X [] gNil3 := ⟨fun F0 H0 B => pgs_imp pgs_nil fun vs σ H Q hh => ex4 hh fun δ F xs P L r w q => by
  cases r with
  | nil => exact ⟨rfl, q σ δ F H w L (Same.refl _)⟩
  | cons _ _ => exact w.elim⟩
theorem gs_cons {g : T3G} {gs : T3Gs} (h1 : G3 X e g) (h2 : Gs3 X es gs) (hs : (assignEach (e :: es) X.env).map (·.2) = assign e X.env :: (assignEach es X.env).map (·.2) := by rfl) : Gs3 X (e :: es) (gCons3 g gs) :=
  ⟨fun F0 H0 B => pgs_imp (pgs_cons (h1.h F0 H0 B) (h2.h F0 H0 B) hs) fun vs σ H Q hh => ex4 hh fun δ F xs P L r w q => by
    cases r with
    | nil => exact w.elim
    | cons r1 r2 => exact ⟨_, _, rfl, δ, F, _, _, L, r1, w, fun σ1 δ1 F1 H1 p1 L1 s1 => ⟨δ1, F1, _, _, L1, r2.same s1, p1, fun σ2 δ2 F2 H2 p2 L2 s2 => q σ2 δ2 F2 H2 p2 L2 (s1.trans s2)⟩⟩⟩
def gTu (n : Nat) (gs : T3Gs) : T3G := fun x δ Q => match x with
  | .tup xs => (match Nat.beq xs.length n with
    | true => gs xs δ Q
    | false => False)
  | _ => False
theorem g_tup {k : Nat} {gs : T3Gs} {n : Nat} (hc : X.calm = true) (h : Gs3 X es gs) (hn : (assignEach es X.env).length = n := by rfl) (hst : (assignEach es X.env).findIdx? (·.1) = none := by rfl) : G3 X (.Tuple es k pos) (gTu n gs) :=
  ⟨fun F0 H0 B => pg_imp (pg_tup hc (h.h F0 H0 B) hn hst) fun v σ H Q hh => ex4 hh fun δ F x P L r w q => by
    cases r with
    | tup hs rs =>
      unfold gTu at w
      dsimp only at w
      cases e : Nat.beq _ n with
      | false => rw [e] at w; exact w.elim
      | true =>
        rw [e] at w
        exact ⟨_, _, rfl, Fr.sqT_same L.fh hs, by rw [rs.len]; exact Nat.eq_of_beq_eq_true e, δ, F, _, P, L, rs, w, q⟩
    | _ => exact w.elim⟩
def tAs (t : T3D) (g : T3G) : T3S := fun Z En δ => t Z δ fun x δ' => g x δ' En.nx
theorem s_asg {tg : Expr} {t : T3D} {g : T3G} (he : D3 X E e t) (hg : G3 X tg g) (hs : swapsWithSole [tg] e pos.line X.env = pure false := by rfl) (hw : swappedStores [tg] e X.env = pure none := by rfl)
    (h1 : (assignEach [tg] X.env).map (·.2) = [assign tg X.env] := by rfl) : S3 X E (.Assign [tg] e pos) (tAs t g) :=
  ⟨fun F0 H0 B => ps_imp (ps_asg (he.h F0 H0 B) (hg.h F0 H0 B) hs hw h1) fun Dn σ H hh => ex4 hh fun δ F Z En L z w ok => ⟨δ, F, Z, _, L, z, w, fun x δ' v F' H' p L' s r =>
    ⟨δ', F', x, _, L', r, p, fun σ2 δ2 F2 H2 p2 L2 s2 => ok.nx σ2 δ2 F2 H2 p2 L2 (s.trans s2)⟩⟩⟩
def tPr (i j : Nat) (t : T3A) : T3S := fun Z En δ => t Z δ fun xs δ' => match xs with
  | [x, y] => En.nx ((δ'.set i (.d x)).set j (.d y))
  | _ => False
theorem s_par (i j : Nat) {x y : Str} {t : T3A} {px py pt : Pos} {kt k2 pt2} (hc : X.calm = true) (hN : X.N.Nodup) (hi : X.N[i]? = some x) (hj : X.N[j]? = some y) (hij : i ≠ j)
    (hx : X.env.scope.names.lookup x = some .local) (hy : X.env.scope.names.lookup y = some .local) (ha : A3 X E [a, b] t)
    (hw : swappedStores [.Tuple [.Name x px, .Name y py] kt pt] (.Tuple [a, b] k2 pt2) X.env = pure (some [x, y]) := by rfl)
    (hs : swapsWithSole [.Tuple [.Name x px, .Name y py] kt pt] (.Tuple [a, b] k2 pt2) pos.line X.env = pure false := by rfl) :
    S3 X E (.Assign [.Tuple [.Name x px, .Name y py] kt pt] (.Tuple [a, b] k2 pt2) pos) (tPr i j t) :=
  ⟨fun F0 H0 B => ps_imp (ps_par hc hN hi hj hij hx hy (ha.h F0 H0 B) hw hs) fun Dn σ H hh => ex4 hh fun δ F Z En L z w ok => ⟨δ, F, Z, _, L, z, w, fun xs δ' vs F' H' p L' s r => by
    cases r with
    | nil => exact p.elim
    | cons r1 r =>
      cases r with
      | nil => exact p.elim
      | cons r2 r =>
        cases r with
        | cons _ _ => exact p.elim
        | nil => exact ⟨_, _, rfl, ok.nx _ _ F' H' p ((L'.set r1).set r2) s⟩⟩⟩
/-! ### x += e of ints -/
/-! ### for -/
abbrev T3I := Zk → List Sl → (List D → List Sl → Prop) → Prop
structure ItOk (K : PySem.W.Frag) (F1 : Hp) (J : It) (xs : List D) : Prop where
  go : ∀ i F H, Same F1 F → Same F H → i < xs.length → J.go i H
  yld : ∀ i F H x H', Same F1 F → Same F H → i < xs.length → J.yld i H x H' → ∃ F' d, Same F F' ∧ Same F' H' ∧ Same H H' ∧ (∀ a, H a ≠ none → F' a = F a) ∧ xs[i]? = some d ∧ Rp K F' x d
  stop : ∀ F H, Same F1 F → Same F H → J.stop xs.length H
def LI (K : PySem.W.Frag) (E : XK) (F0 H0 : Hp) (B : Option Addr) (t : T3I) : TI := fun σ H R => ∃ δ F Z P, Lk K F0 H0 B σ δ F H ∧ ZOk K E F0 H0 B Z ∧ t Z δ P ∧ ∀ xs δ' F' H' J, P xs δ' → Lk K F0 H0 B σ δ' F' H' → Same F F' → ItOk K F' J xs → R J H'
structure I3 (X : Cx) (E : XK) (tg iter : Expr) (t : T3I) : Prop where
  h : ∀ F0 H0 B, PI X tg iter (LI X.K E F0 H0 B t)
theorem pi_imp {tg iter : Expr} {t t' : TI} (h : PI X tg iter t) (i : ∀ σ H R, t' σ H R → t σ H R) : PI X tg iter t' := fun pins s σ H R I w => h pins s σ H R I (i _ _ _ w)
def forL (g : T3G) (tb : T3S) (Z : Zk) (En : En) : List D → List Sl → Prop
  | [], δ => En.nx δ
  | x :: xs, δ => g x δ fun δ1 => tb Z { nx := fun δ2 => forL g tb Z En xs δ2, ct := fun δ2 => forL g tb Z En xs δ2, bk := En.nx, rt := En.rt } δ1
def tFr (ti : T3I) (g : T3G) (tb : T3S) : T3S := fun Z En δ => ti Z δ fun xs δ' => forL g tb Z En xs δ'
theorem s_for {tg iter : Expr} {body : List Stmt} {ti : T3I} {g : T3G} {tb : T3S} (hp : PassesOwn (model X.prog X.w) X.A X.env X.xe) (hc : X.calm = true) (hi : I3 X E tg iter ti) (hg : G3 X tg g) (hb : B3 X E body tb)
    (hs : ∀ x, foldedSetIterable iter X.env x = pure x := by intro _; rfl) : S3 X E (.For tg iter body [] pos) (tFr ti g tb) :=
  ⟨fun F0 H0 B => ps_imp (ps_for hp hc (hi.h F0 H0 B) (hg.h F0 H0 B) (hb.h F0 H0 B) hs) fun Dn σ H hh => ex4 hh fun δ F Z En L z w ok => by
    refine ⟨δ, F, Z, _, L, z, w, fun xs δ1 F1 H1 J p1 L1 s1 it => ?_⟩
    refine ⟨fun i m σ H => m = xs.length - i ∧ i ≤ xs.length ∧ ∃ δ F, Lk X.K F0 H0 B σ δ F H ∧ Same F1 F ∧ forL g tb Z En (xs.drop i) δ, ⟨xs.length, by simp, Nat.zero_le _, δ1, F1, L1, Same.refl _, p1⟩, ?_⟩
    rintro i m σ2 H2 ⟨rfl, hi2, δ2, F2, L2, s2, p2⟩
    by_cases lt : i < xs.length
    · refine .inr ⟨it.go i F2 H2 s2 L2.fh lt, fun σ' H' => ∃ δ' F', Lk X.K F0 H0 B σ' δ' F' H' ∧ Same F1 F' ∧ forL g tb Z En (xs.drop (i + 1)) δ', ?_, fun x H3 y => ?_⟩
      · rintro σ' H' ⟨δ', F', L', s', p'⟩
        exact ⟨xs.length - (i + 1), by omega, rfl, lt, δ', F', L', s', p'⟩
      · obtain ⟨F3, d, a1, a2, a3, a4, a5, a6⟩ := it.yld i F2 H2 x H3 s2 L2.fh lt y
        have L3 := L2.grow a1 a2 a3 a4
        have ed : xs.drop i = d :: xs.drop (i + 1) := by
          rw [List.drop_eq_getElem_cons lt]
          rw [(List.getElem?_eq_some_iff.mp a5).2]
        rw [ed] at p2
        refine ⟨δ2, F3, d, _, L3, a6, p2, fun σ4 δ4 F4 H4 p4 L4 s4 => ⟨δ4, F4, Z, _, L4, z, p4, ?_⟩⟩
        have sf : Same F F4 := s1.trans (s2.trans (a1.trans s4))
        have s14 : Same F1 F4 := s2.trans (a1.trans s4)
        exact ⟨fun σ5 δ5 F5 H5 p5 L5 s5 => ⟨δ5, F5, L5, s14.trans s5, p5⟩, (ok.up sf).rt, (ok.up sf).nx, fun σ5 δ5 F5 H5 p5 L5 s5 => ⟨δ5, F5, L5, s14.trans s5, p5⟩⟩
    · have e : i = xs.length := by omega
      subst e
      rw [List.drop_length] at p2
      exact .inl ⟨it.stop F2 H2 s2 L2.fh, ok.nx _ _ _ _ p2 L2 (s1.trans s2)⟩⟩
/-! what is walked -/
def tIL (t : T3D) : T3I := fun Z δ Q => t Z δ fun x δ' => match x with
  | .lst xs => Q xs δ'
  | _ => False
theorem i_list {tg : Expr} {t : T3D} (h : D3 X E e t) : I3 X E tg e (tIL t) :=
  ⟨fun F0 H0 B => pi_imp (pi_list (h.h F0 H0 B)) fun σ H R hh => ex4 hh fun δ F Z P L z w q => ⟨δ, F, Z, _, L, z, w, fun x δ' v F' H' p L' s r => by
    cases x with
    | lst xs =>
      obtain ⟨a, us, rfl, hs, rs⟩ := r.inv_lst
      have hs' : ∀ {H2 : Hp}, Same F' H2 → SqL X.K H2 _ _ := fun s2 => SqL.of (s2 _ _ hs)
      refine ⟨_, rfl, ⟨_, hs' L'.fh⟩, q _ δ' F' H' _ p L' s ⟨fun i F2 H2 a1 a2 lt => ?_, fun i F2 H2 y H3 a1 a2 lt yy => ?_, fun F2 H2 a1 a2 => ⟨_, hs' (a1.trans a2), by rw [rs.len]; exact Nat.le_refl _⟩⟩⟩
      · obtain ⟨v, hv, _⟩ := rs.at (List.getElem?_eq_getElem lt)
        exact ⟨_, v, hs' (a1.trans a2), hv⟩
      · obtain ⟨rfl, y2⟩ := yy
        have hv := y2 _ (hs' (a1.trans a2))
        obtain ⟨d, e1, r1⟩ := rs.at' hv
        exact ⟨F2, d, Same.refl _, a2, Same.refl _, fun _ _ => rfl, e1, r1.same a1⟩
    | _ => exact p.elim⟩⟩
/-- lo, lo + 1, .. -/
def rngD (lo : Int) (n : Nat) : List D := (List.range n).map fun k : Nat => D.int (lo + (k : Int))
theorem rngD_len (lo : Int) (n : Nat) : (rngD lo n).length = n := by simp [rngD]
theorem rngD_at {lo : Int} {n i : Nat} (h : i < n) : (rngD lo n)[i]? = some (.int (lo + (i : Int))) := by simp [rngD, h]
theorem it_range {K : PySem.W.Frag} {F : Hp} {lo : Int} {n : Nat} : ItOk K F (Itr lo n) (rngD lo n) :=
  ⟨fun i F2 H2 _ _ lt => by rw [rngD_len] at lt; exact lt, fun i F2 H2 y H3 a1 a2 lt yy => by
    rw [rngD_len] at lt
    obtain ⟨rfl, rfl⟩ := yy
    exact ⟨F2, _, Same.refl _, a2, Same.refl _, fun _ _ => rfl, rngD_at lt, .int _⟩, fun F2 H2 _ _ => by rw [rngD_len]; exact Nat.le_refl _⟩
/-- a number that a range takes -/
def InR (i : Int) : Prop := -(2 ^ 62) ≤ i ∧ i < 2 ^ 62
def tIR1 (t : T3A) : T3I := fun Z δ Q => t Z δ fun xs δ' => match xs with
  | [.int j] => InR j ∧ Q (rngD 0 j.toNat) δ'
  | _ => False
def tIR2 (t : T3A) : T3I := fun Z δ Q => t Z δ fun xs δ' => match xs with
  | [.int i, .int j] => (InR i ∧ InR j) ∧ Q (rngD i (j - i).toNat) δ'
  | _ => False
theorem i_range1 {tg : Expr} {t : T3A} {p : Pos} (hg : Gl X "range") (hm : X.mg "range" = none) (ha : A3 X E [a] t) (hs : starEach [a] X.env = [(false, eval a X.env)] := by rfl) : I3 X E tg (.Call (.Name "range" p) [a] [] pos) (tIR1 t) :=
  ⟨fun F0 H0 B => pi_imp (pi_range1 hg hm (ha.h F0 H0 B) hs) fun σ H R hh => ex4 hh fun δ F Z P L z w q => ⟨δ, F, Z, _, L, z, w, fun xs δ' vs F' H' p L' s r => by
    obtain ⟨j, rfl, k⟩ := m1I p
    obtain ⟨v, rfl, r0⟩ := r.inv1
    exact ⟨j, by rw [r0.inv_int], k.1.1, k.1.2, q _ δ' F' H' _ k.2 L' s it_range⟩⟩⟩
theorem i_range2 {tg : Expr} {t : T3A} {p : Pos} (hg : Gl X "range") (hm : X.mg "range" = none) (ha : A3 X E [a, b] t) (hs : starEach [a, b] X.env = [(false, eval a X.env), (false, eval b X.env)] := by rfl) (hs2 : starEach [b] X.env = [(false, eval b X.env)] := by rfl) : I3 X E tg (.Call (.Name "range" p) [a, b] [] pos) (tIR2 t) :=
  ⟨fun F0 H0 B => pi_imp (pi_range2 hg hm (ha.h F0 H0 B) hs hs2) fun σ H R hh => ex4 hh fun δ F Z P L z w q => ⟨δ, F, Z, _, L, z, w, fun xs δ' vs F' H' p L' s r => by
    obtain ⟨i, j, rfl, k⟩ := m2I p
    obtain ⟨v, u, rfl, r1, r2⟩ := r.inv2
    exact ⟨i, j, by rw [r1.inv_int, r2.inv_int], ⟨k.1.1.1, k.1.1.2, k.1.2.1, k.1.2.2⟩, q _ δ' F' H' _ k.2 L' s it_range⟩⟩⟩
end
end L3

set_option Elab.async false
set_option linter.all false
set_option maxRecDepth 100000
/-! What a def owns is changed; new lists. -/
namespace L3
open PySem PySem.Spec L2
section
variable {K : PySem.W.Frag} {F0 H0 F H F' H' : Hp} {B : Option Addr} {σ : St} {δ : List Sl}
/-- the object that a name owns or was lent -/
def Sl.ob : Sl → Option Ob
  | .own o => some o
  | .bor o => some o
  | _ => none
def Sl.put (s : Sl) (o : Ob) : Sl := match s with
  | .own _ => .own o
  | .bor _ => .bor o
  | x => x
theorem Lk.ob {i : Nat} {s : Sl} {o : Ob} (L : Lk K F0 H0 B σ δ F H) (e : δ[i]? = some s) (h : s.ob = some o) : ∃ a, σ[i]? = some (some (.ref a)) ∧ F a = none ∧ OwnOk K F H a o := by
  have q := L.sl i s e
  cases s with
  | own o' => cases h; obtain ⟨a, e1, f, _, w⟩ := q; exact ⟨a, e1, f, w⟩
  | bor o' => cases h; obtain ⟨a, e1, _, f, w⟩ := q; exact ⟨a, e1, f, w⟩
  | un => cases h
  | d x => cases h
theorem Lk.mutS {i : Nat} {s : Sl} {o o' : Ob} {a : Addr} {ho : HO} (L : Lk K F0 H0 B σ δ F H) (e : δ[i]? = some s) (h : s.ob = some o) (ea : σ[i]? = some (some (.ref a))) (w : OwnOk K F (upd H a ho) a o') :
    Lk K F0 H0 B σ (δ.set i (s.put o')) F (upd H a ho) := by
  cases s with
  | own o1 => exact L.mut e ea w
  | bor o1 => exact L.mutB e ea w
  | un => cases h
  | d x => cases h
def go (δ : List Sl) (i : Nat) : Option Ob := match δ[i]? with
  | some s => s.ob
  | none => none
def upS (f : Sl → Sl) : List Sl → Nat → List Sl
  | [], _ => []
  | s :: l, 0 => f s :: l
  | s :: l, n + 1 => s :: upS f l n
def pt (δ : List Sl) (i : Nat) (o : Ob) : List Sl := upS (fun s => s.put o) δ i
def upM (f : Sl → Sl) (δ : List Sl) (i : Nat) : List Sl := match δ[i]? with
  | some s => δ.set i (f s)
  | none => δ
theorem upS_eq (f : Sl → Sl) : ∀ (δ : List Sl) (i : Nat), upS f δ i = upM f δ i
  | [], _ => rfl
  | s :: l, 0 => rfl
  | s :: l, n + 1 => by
    show s :: upS f l n = _
    rw [upS_eq f l n]
    unfold upM
    rw [List.getElem?_cons_succ]
    cases l[n]? <;> rfl
theorem pt_eq (δ : List Sl) (i : Nat) (o : Ob) : pt δ i o = match δ[i]? with
  | some s => δ.set i (s.put o)
  | none => δ := upS_eq _ δ i
theorem Lk.go {i : Nat} {o : Ob} (L : Lk K F0 H0 B σ δ F H) (e : go δ i = some o) : ∃ a, σ[i]? = some (some (.ref a)) ∧ F a = none ∧ OwnOk K F H a o ∧
    ∀ o' ho, OwnOk K F (upd H a ho) a o' → Lk K F0 H0 B σ (pt δ i o') F (upd H a ho) := by
  unfold L3.go at e
  cases q : δ[i]? with
  | none => rw [q] at e; cases e
  | some s =>
    rw [q] at e
    obtain ⟨a, e1, f, w⟩ := L.ob q e
    refine ⟨a, e1, f, w, fun o' ho w' => ?_⟩
    rw [pt_eq]
    rw [q]
    exact L.mutS q e e1 w'
end
section
variable {X : Cx} {E : XK} {e a b c o : Expr} {es : List Expr} {pos : Pos}
/-- xs.append(e) -/
def tAp (i : Nat) (t : T3D) : T3S := fun Z En δ => match go δ i with
  | some (.lst _) => t Z δ fun x δ' => (match go δ' i with
    | some (.lst xs) => xs.length ≤ 1000000 ∧ En.nx (pt δ' i (.lst (xs ++ [x])))
    | _ => False)
  | _ => False
theorem s_append (i : Nat) {x : Str} {p apos cpos : Pos} {t : T3D} (he : D3 X E e t) (hN : X.N[i]? = some x := by rfl) (hv : Vis X.env.scope x := by first | exact Or.inl rfl | exact Or.inr (Or.inl rfl) | exact Or.inr (Or.inr rfl))
    (hd : (x == ("__debug__" : Str)) = false := by decide) (hcd : (x == ("__classdict__" : Str)) = false := by decide) (hs : starEach [e] X.env = (false, eval e X.env) :: starEach [] X.env := by rfl)
    (hsw : swapsWith (.Call (.Attribute (.Name x p) "append" apos) [e] [] cpos) none pos.line X.env = pure false := by rfl)
    (hfew : ((backTo cpos (starEach [e] X.env)).all (fun x => !x.1) && (backToKw cpos (keywordEach [] X.env)).all (fun x => x.1.isSome)
      && decide ([e].length + ([] : List Keyword).length + (if ([] : List Keyword).isEmpty then 0 else 1) < 30)) = true := by rfl) (hline : (apos.endLine == cpos.line) = true := by rfl) :
    S3 X E (.Expr (.Call (.Attribute (.Name x p) "append" apos) [e] [] cpos) pos) (tAp i t) :=
  ⟨fun F0 H0 B => ps_imp (ps_expr (pe_bm PySem.F.plainAttrs_list PySem.F.slot_list_append PySem.F.type_list_append mt_append (pe_var (pos := p) hN hv hd hcd) (pa_cons (he.h F0 H0 B) pa_nil hs) rfl hfew hline hs rfl) hsw) fun Dn σ H hh => ex4 hh fun δ F Z En L z w ok => by
    unfold tAp at w
    cases e0 : L3.go δ i with
    | none => rw [e0] at w; exact w.elim
    | some ob =>
      rw [e0] at w
      cases ob with
      | lst xs0 =>
        obtain ⟨a, e1, f1, ⟨vs0, h1, r1⟩, _⟩ := L.go e0
        refine ⟨_, e1, .inl ⟨rfl, _, SqL.of h1⟩, δ, F, Z, _, L, z, w, fun y δ' v F' H' p' L' s r => ?_⟩
        cases e2 : L3.go δ' i with
        | none => rw [e2] at p'; exact p'.elim
        | some ob2 =>
          rw [e2] at p'
          cases ob2 with
          | lst xs =>
            obtain ⟨a', e3, f3, ⟨vs, h3, r3⟩, up⟩ := L'.go e2
            rw [e1] at e3
            cases e3
            refine ⟨_, _, _, rfl, rfl, h3, by rw [r3.len]; exact line_big p'.1, ?_⟩
            exact ok.nx _ _ F' _ p'.2 (up _ _ ⟨_, upd_same, r3.append (.one r)⟩) s
          | _ => exact p'.elim
      | _ => exact w.elim⟩
/-! ### new lists -/
/-- an operation that makes a new list -/
def N2 (K : PySem.W.Frag) (r : R2) (r3 : D → D → (List D → Prop) → Prop) : Prop := ∀ F H x y v u (Q : VK) (P : List D → Prop), Same F H → Rp K F v x → Rp K F u y → r3 x y P →
  (∀ ys vs p, P ys → Rps K F vs ys → H p = none → Q (.ref p) (upd H p (.lst vs))) → r v u H Q
def tON (r3 : D → D → (List D → Prop) → Prop) (a b : T3D) : T3E := fun Z δ Q => a Z δ fun x δ1 => b Z δ1 fun y δ2 => r3 x y fun ys => Q (.own (.lst ys)) δ2
theorem e_opN {op : Operator} {r : R2} {r3 : D → D → (List D → Prop) → Prop} {ta tb : T3D} (ho : OpR X (binaryOp op) r) (rel : N2 X.K r r3) (ha : D3 X E a ta) (hb : D3 X E b tb) : E3 X E (.BinOp a op b pos) (tON r3 ta tb) :=
  ⟨fun F0 H0 B => pe_imp (pe_op ho (ha.h F0 H0 B) (hb.h F0 H0 B)) fun σ H Q hh => ex4 hh fun δ F Z P L z w q => ⟨δ, F, Z, _, L, z, w, fun x δ1 v F1 H1 p1 L1 s1 r1 => ⟨δ1, F1, Z, _, L1, z, p1, fun y δ2 u F2 H2 p2 L2 s2 r2 => by
    refine rel F2 H2 x y v u Q _ L2.fh (r1.same s2) r2 p2 fun ys vs p py rs hp => ?_
    obtain ⟨L3, k3⟩ := L2.newO (ho := .lst vs) hp (o := .lst ys) ⟨vs, upd_same, rs⟩
    exact q _ δ2 _ _ _ py L3 (s1.trans s2) k3⟩⟩⟩
def nCat : D → D → (List D → Prop) → Prop := fun x y P => match x, y with
  | .lst xs, .lst ys => xs.length + ys.length ≤ 1000000 ∧ P (xs ++ ys)
  | _, _ => False
theorem n_cat {K : PySem.W.Frag} : N2 K rCat nCat := by
  intro F H x y v u Q P fh rx ry h q
  cases rx with
  | lst hx rx =>
    cases ry with
    | lst hy ry => exact ⟨_, _, _, _, rfl, rfl, fh _ _ hx, fh _ _ hy, by rw [rx.len, ry.len]; exact Nat.le_of_lt (line_big h.1), fun p hp => q _ _ p h.2 (rx.append ry) hp⟩
    | _ => exact h.elim
  | _ => exact h.elim
theorem Rps.repl {K : PySem.W.Frag} {F : Hp} {vs : List V} {xs : List D} (r : Rps K F vs xs) : ∀ n : Nat, Rps K F (List.replicate n vs).flatten (List.replicate n xs).flatten
  | 0 => .nil
  | n + 1 => r.append (Rps.repl r n)
/-- xs[lo:hi] -/
abbrev T3O := Zk → List Sl → (Option Int → List Sl → Prop) → Prop
def LO (K : PySem.W.Frag) (E : XK) (F0 H0 : Hp) (B : Option Addr) (t : T3O) : TO := fun σ H Q => ∃ δ F Z P, Lk K F0 H0 B σ δ F H ∧ ZOk K E F0 H0 B Z ∧ t Z δ P ∧ ∀ b δ' F' H', P b δ' → Lk K F0 H0 B σ δ' F' H' → Same F F' → Q b H'
structure O3 (X : Cx) (E : XK) (e : Option Expr) (t : T3O) : Prop where
  h : ∀ F0 H0 B, PO X e (LO X.K E F0 H0 B t)
end
end L3

set_option Elab.async false
set_option linter.all false
set_option maxRecDepth 100000
/-! Defs and calls over data. -/
namespace L3
open PySem PySem.Spec L2
/-- a def's promise over data: the slots of its parameters; what comes back and what the lent object is then; what is raised -/
abbrev Sp3 := List Sl → (Rv → Option Ob → Prop) → (Addr → Option Ob → Prop) → Prop
def borOf : List Sl → Option Ob
  | [] => none
  | .bor o :: _ => some o
  | _ :: l => borOf l
structure Fin (K : PySem.W.Frag) (F0 H0 : Hp) (B : Option Addr) (F H : Hp) (ob : Option Ob) : Prop where
  fh : Same F H
  f0 : Same F0 F
  h0 : ∀ a o, H0 a = some o → B ≠ some a → H a = some o
  ff : ∀ a, H0 a ≠ none → F a = F0 a
  bt : ∀ b, B = some b → H b ≠ none
  ob : ∀ o, ob = some o → ∃ a, B = some a ∧ F a = none ∧ OwnOk K F H a o
def Rk (K : PySem.W.Frag) (H0 F H : Hp) (r : Rv) (v : V) : Prop :=
  match r with
  | .d x => Rp K F v x
  | .own o => ∃ a, v = .ref a ∧ F a = none ∧ H0 a = none ∧ OwnOk K F H a o
def lsp (K : PySem.W.Frag) (sp : Sp3) : Sp := fun vs H Q E => ∃ F B δ P Zx, Lk K F H B (vs.map some) δ F H ∧ sp δ P Zx ∧ (∀ r ob v F' H', P r ob → Fin K F H B F' H' ob → Rk K H F' H' r v → Q v H') ∧ (∀ C ob F' H', Zx C ob → Fin K F H B F' H' ob → E (.ref C) none H')
theorem borOf_some : ∀ {δ : List Sl} {o : Ob}, borOf δ = some o → ∃ i : Nat, δ[i]? = some (.bor o)
  | [], _, h => by cases h
  | .bor o :: _, _, h => by cases h; exact ⟨0, rfl⟩
  | .un :: l, _, h => by obtain ⟨i, e⟩ := borOf_some (δ := l) h; exact ⟨i + 1, by simpa using e⟩
  | .d _ :: l, _, h => by obtain ⟨i, e⟩ := borOf_some (δ := l) h; exact ⟨i + 1, by simpa using e⟩
  | .own _ :: l, _, h => by obtain ⟨i, e⟩ := borOf_some (δ := l) h; exact ⟨i + 1, by simpa using e⟩
theorem Lk.fin {K : PySem.W.Frag} {F0 H0 F H : Hp} {B : Option Addr} {σ : St} {δ : List Sl} (L : Lk K F0 H0 B σ δ F H) : Fin K F0 H0 B F H (borOf δ) :=
  ⟨L.fh, L.f0, L.h0, L.ff, fun b e => (L.bt b e).2, fun o e => by
    obtain ⟨i, ei⟩ := borOf_some e
    obtain ⟨a, _, hB, f, w⟩ := L.sl i _ ei
    exact ⟨a, hB, f, w⟩⟩
theorem Rok.rk {K : PySem.W.Frag} {H0 F H : Hp} {σ : St} {δ : List Sl} {r : Rv} {v : V} (k : Rok K H0 F H σ δ r v) : Rk K H0 F H r v := by
  cases r with
  | d x => exact k
  | own o => obtain ⟨a, e, f, h, w, _⟩ := k; exact ⟨a, e, f, h, w⟩
theorem Lk.entry {K : PySem.W.Frag} {F H : Hp} {B : Option Addr} {vs : List V} {δ : List Sl} {N : List Str} (L : Lk K F H B (vs.map some) δ F H) : Lk K F H B (L2.start N vs) (δ ++ List.replicate (N.length - vs.length) .un) F H := by
  have len : δ.length = vs.length := by rw [L.len, List.length_map]
  have at' : ∀ (i : Nat) (s : Sl), (δ ++ List.replicate (N.length - vs.length) .un)[i]? = some s → s = .un ∨ (δ[i]? = some s ∧ (L2.start N vs)[i]? = (vs.map some)[i]?) := fun i s e => by
    by_cases h : i < δ.length
    · rw [List.getElem?_append_left h] at e
      refine .inr ⟨e, ?_⟩
      unfold L2.start
      rw [List.getElem?_append_left (by rw [List.length_map]; omega)]
    · rw [List.getElem?_append_right (by omega), List.getElem?_replicate] at e
      split at e
      · cases e; exact .inl rfl
      · cases e
  refine ⟨L.fh, L.f0, L.h0, L.ff, L.bt, by unfold L2.start; simp [len], fun i s e => ?_, fun i j o o' e1 e2 e3 => ?_, fun i j o o' e1 e2 => ?_, L.tb⟩
  · rcases at' i s e with rfl | ⟨e1, e2⟩
    · trivial
    · rw [e2]; exact L.sl i s e1
  · rcases at' i _ e1 with z | ⟨a1, a2⟩
    · cases z
    · rcases at' j _ e2 with z | ⟨b1, b2⟩
      · cases z
      · rw [a2, b2] at e3; exact L.ne i j o o' a1 b1 e3
  · rcases at' i _ e1 with z | ⟨a1, a2⟩
    · cases z
    · rcases at' j _ e2 with z | ⟨b1, b2⟩
      · cases z
      · exact L.nb i j o o' a1 b1
/-- THE RULE for a def -/
theorem ok3 {P : Program} {w : World} {K : PySem.W.Frag} {mg : Str → Option Value} {base : Heap} {x qual : Str} {st : Stmt} {f : Addr} {fd : FuncData} {N ps : List Str} {k : Nat} {sp : Sp3} (F : Fun K x qual st f fd) (S : FnScope N ps (defScope st))
    (len : ∀ δ Q Z, sp δ Q Z → δ.length = ps.length)
    (hbody : ∀ (cdv : Value) (A : Around) (outer : List Env) (s : Shared) (H : Hp) (E : XK), Room k (A.deeper (PyProof.Rows.envOfC qual (defScope st) s.heap.objs.size f cdv)) →
      ∃ t, B3 (cxOf (Fr.CX1 P w) P w K mg base N qual (defScope st) f cdv A outer s H E) E (defBody st) t ∧
        ∀ δ Q Z, sp δ Q Z → t (fun C δ' => Z C (borOf δ')) { nx := fun δ' => Q (.d .non) (borOf δ'), rt := fun r δ' => Q r (borOf δ') } (δ ++ List.replicate (N.length - ps.length) .un)) :
    FnOk P w K mg base (Fr.CX1 P w) (k + 1) f fd ps (lsp K sp) := by
  have len2 : ∀ vs H Q E, lsp K sp vs H Q E → vs.length = ps.length := fun vs H Q E ⟨F, B, δ, P', Zx, L, h, _⟩ => by
    have := L.len
    rw [List.length_map] at this
    rw [← this]
    exact len δ _ _ h
  refine Fr.ok1 F S len2 fun cdv A outer s H vs Q E hr h => ?_
  have hl := len2 vs H Q E h
  obtain ⟨t, hb, run⟩ := hbody cdv A outer s H E hr
  obtain ⟨F', B, δ, P', Zx, L, h, q, qe⟩ := h
  refine ⟨_, hb.h F' H B, _, F', (fun C δ' => Zx C (borOf δ')), { nx := fun δ' => P' (.d .non) (borOf δ'), rt := fun r δ' => P' r (borOf δ') }, L.entry (N := N), ?_, ?_⟩
  · exact fun C σ' δ' F2 H2 L2 z => qe C _ F2 H2 z L2.fin
  · refine ⟨by rw [hl]; exact run δ P' Zx h, ⟨fun σ' δ' F2 H2 p L2 _ => q _ _ _ F2 H2 p L2.fin Rp.non, fun r v σ' δ' F2 H2 p L2 _ k => q _ _ _ F2 H2 p L2.fin k.rk, fun _ _ _ _ z => z.elim, fun _ _ _ _ z => z.elim⟩⟩

/-- the slots of a call's arguments that are data -/
theorem Lk.args {K : PySem.W.Frag} {F H : Hp} (tb : Tb K F) (fh : Same F H) {vs : List V} {xs : List D} (r : Rps K F vs xs) : Lk K F H none (vs.map some) (xs.map Sl.d) F H := by
  refine ⟨fh, Same.refl _, fun _ _ e _ => e, fun _ _ => rfl, fun _ e => (by cases e), by simp [r.len], fun i s e => ?_, fun i j o o' e1 _ _ => ?_, fun i j o o' e1 _ => ?_, tb⟩
  · rw [List.getElem?_map] at e
    cases q : xs[i]? with
    | none => rw [q] at e; cases e
    | some x =>
      rw [q] at e
      cases e
      obtain ⟨v, hv, rv⟩ := r.at q
      exact ⟨v, by rw [List.getElem?_map, hv]; rfl, rv⟩
  · rw [List.getElem?_map] at e1
    cases q : xs[i]? with
    | none => rw [q] at e1; cases e1
    | some x => rw [q] at e1; cases e1
  · rw [List.getElem?_map] at e1
    cases q : xs[i]? with
    | none => rw [q] at e1; cases e1
    | some x => rw [q] at e1; cases e1
/-- behind a call that was lent nothing -/
theorem Lk.after {K : PySem.W.Frag} {F0 H0 F H F2 H2 : Hp} {B : Option Addr} {σ : St} {δ : List Sl} {ob : Option Ob} (L : Lk K F0 H0 B σ δ F H) (f : Fin K F H none F2 H2 ob) : Lk K F0 H0 B σ δ F2 H2 :=
  L.grow f.f0 f.fh (fun a o e => f.h0 a o e fun z => by cases z) f.ff
theorem Lk.rok {K : PySem.W.Frag} {F0 H0 F H F2 H2 : Hp} {B : Option Addr} {σ : St} {δ : List Sl} {r : Rv} {v : V} (L : Lk K F0 H0 B σ δ F H) (k : Rk K H F2 H2 r v) : Rok K H0 F2 H2 σ δ r v := by
  cases r with
  | d x => exact k
  | own o =>
    obtain ⟨a, e, f, h, w⟩ := k
    refine ⟨a, e, f, (L.fr0 h).1, w, fun i o' ei z => ?_⟩
    obtain ⟨a', e1, _, _, w'⟩ := L.sl i _ ei
    rw [z] at e1
    cases e1
    obtain ⟨ho, eh⟩ := w'.there
    rw [h] at eh
    cases eh
section
variable {X : Cx} {E : XK} {e a b c o : Expr} {es : List Expr} {pos p : Pos}
/-- a def of the text, over data -/
abbrev Own3 (P : Program) (w : World) (K : PySem.W.Frag) (mg : Str → Option Value) (base : Heap) (k : Nat) (x : Str) (ps : List Str) (sp : Sp3) : Prop := Fr.Own1 P w K mg base k x ps (lsp K sp)
def tCl (sp : Sp3) (t : T3A) : T3E := fun Z δ Q => t Z δ fun xs δ' => sp (xs.map Sl.d) (fun r _ => Q r δ') (fun C _ => Z C δ')
theorem e_call {x : Str} {k : Nat} {ps : List Str} {sp : Sp3} {t : T3A} (O : Own3 X.prog X.w X.K X.mg X.base k x ps sp) (hx : Passes (Fr.CX1 X.prog X.w) X E) (hr : Room k X.A) (hg : Gl X x) (ha : A3 X E (e :: es) t) (hdb : (x == ("__debug__" : Str)) = false := by decide)
    (he : starEach (e :: es) X.env = (false, eval e X.env) :: starEach es X.env := by rfl) (hpl : (backTo pos (starEach es X.env)).any (·.1) = false := by rfl) : E3 X E (.Call (.Name x p) (e :: es) [] pos) (tCl sp t) :=
  ⟨fun F0 H0 B => by
    obtain ⟨f, fd, FF, hm, hk, hb⟩ := O
    refine pe_imp (pe_call (E := E) FF hr hg hm hk hb .nil hx (ha.h F0 H0 B) hdb he hpl) fun σ H Q hh => ex4 hh fun δ F Z P L z w q => ⟨δ, F, Z, _, L, z, w, fun xs δ' vs F' H' p L' s r => ?_⟩
    show lsp X.K sp (vs ++ []) H' Q E
    rw [List.append_nil]
    exact ⟨F', none, _, _, _, Lk.args L'.tbF L'.fh r, p, fun rr ob v F2 H2 p2 f2 k2 => q rr δ' v F2 H2 p2 (L'.after f2) (s.trans f2.f0) (L'.rok k2), fun C ob F2 H2 z2 f2 => z C σ δ' F2 H2 (L'.after f2) z2⟩⟩
/-- the first argument is lent -/
theorem Lk.argsB {K : PySem.W.Frag} {F H : Hp} {a : Addr} {ob : Ob} (tb : Tb K F) (fh : Same F H) (f : F a = none) (w : OwnOk K F H a ob) {vs : List V} {xs : List D} (r : Rps K F vs xs) : Lk K F H (some a) ((V.ref a :: vs).map some) (.bor ob :: xs.map Sl.d) F H := by
  have L := Lk.args (K := K) tb fh r
  obtain ⟨ho, eh⟩ := w.there
  refine ⟨fh, Same.refl _, fun _ _ e _ => e, fun _ _ => rfl, fun b e => ?_, by simp [r.len], fun i s e => ?_, fun i j o o' e1 e2 e3 => ?_, fun i j o o' e1 e2 => ?_, tb⟩
  · cases e
    rw [eh]
    exact ⟨(fun z => by cases z), (fun z => by cases z)⟩
  · cases i with
    | zero => cases e; exact ⟨a, rfl, rfl, f, w⟩
    | succ i =>
      have q := L.sl i s (by simpa using e)
      have es : ((V.ref a :: vs).map some)[i + 1]? = (vs.map some)[i]? := by simp
      rw [es]
      cases s with
      | un => trivial
      | d x => exact q
      | own o =>
        rw [List.getElem?_cons_succ, List.getElem?_map] at e
        cases q : xs[i]? with
        | none => rw [q] at e; cases e
        | some x => rw [q] at e; cases e
      | bor o =>
        rw [List.getElem?_cons_succ, List.getElem?_map] at e
        cases q : xs[i]? with
        | none => rw [q] at e; cases e
        | some x => rw [q] at e; cases e
  · cases i with
    | zero => cases e1
    | succ i =>
      rw [List.getElem?_cons_succ, List.getElem?_map] at e1
      cases q : xs[i]? with
      | none => rw [q] at e1; cases e1
      | some x => rw [q] at e1; cases e1
  · cases i with
    | zero =>
      cases j with
      | zero => rfl
      | succ j =>
        rw [List.getElem?_cons_succ, List.getElem?_map] at e2
        cases q : xs[j]? with
        | none => rw [q] at e2; cases e2
        | some x => rw [q] at e2; cases e2
    | succ i =>
      rw [List.getElem?_cons_succ, List.getElem?_map] at e1
      cases q : xs[i]? with
      | none => rw [q] at e1; cases e1
      | some x => rw [q] at e1; cases e1
/-- behind a call that was lent what the name i stands for -/
theorem Lk.afterB {K : PySem.W.Frag} {F0 H0 F H F2 H2 : Hp} {B : Option Addr} {σ : St} {δ : List Sl} {i : Nat} {o o' : Ob} {a : Addr} (L : Lk K F0 H0 B σ δ F H) (e : L3.go δ i = some o) (ea : σ[i]? = some (some (.ref a))) (f : Fin K F H (some a) F2 H2 (some o')) : Lk K F0 H0 B σ (pt δ i o') F2 H2 := by
  obtain ⟨a', e', fn, w⟩ := f.ob o' rfl
  cases e'
  have hh : ∀ b u, H b = some u → b ≠ a → H2 b = some u := fun b u q n => f.h0 b u q fun z => n (by cases z; rfl)
  unfold L3.go at e
  cases q : δ[i]? with
  | none => rw [q] at e; cases e
  | some s =>
    rw [q] at e
    rw [pt_eq, q]
    obtain ⟨a', e1, f1, w1⟩ := L.ob q e
    rw [ea] at e1
    cases e1
    have h0a : ∀ b u, H0 b = some u → B ≠ some b → b ≠ a → H2 b = some u := fun b u e b' n => hh b u (L.h0 b u e b') n
    have slots : ∀ (j : Nat) (t : Sl), i ≠ j → δ[j]? = some t → SlOk K H0 B F2 H2 (σ[j]?) t := fun j t n ej => by
      have z := L.sl j t ej
      cases t with
      | un => trivial
      | d y => obtain ⟨v, e2, r2⟩ := z; exact ⟨v, e2, r2.same f.f0⟩
      | own o3 =>
        obtain ⟨b, e2, f2, h2, w2⟩ := z
        obtain ⟨ho, eh⟩ := w2.there
        have nb : b ≠ a := by
          rintro rfl
          cases s with
          | own o1 => exact n (L.ne i j o1 o3 q ej (by rw [ea, e2]))
          | bor o1 =>
            obtain ⟨a3, e3, hB, _⟩ := L.sl i _ q
            rw [ea] at e3
            cases e3
            exact (L.bt _ hB).1 h2
          | un => cases e
          | d x => cases e
        exact ⟨b, e2, by rw [f.ff b (by rw [eh]; intro z; cases z)]; exact f2, h2, w2.same f.f0 (by rw [eh]; exact hh b ho eh nb)⟩
      | bor o3 =>
        obtain ⟨b, e2, b2, f2, w2⟩ := z
        obtain ⟨ho, eh⟩ := w2.there
        have nb : b ≠ a := by
          rintro rfl
          cases s with
          | own o1 =>
            obtain ⟨a3, e3, _, hn, _⟩ := L.sl i _ q
            rw [ea] at e3
            cases e3
            exact (L.bt _ b2).1 hn
          | bor o1 => exact n (L.nb i j o1 o3 q ej)
          | un => cases e
          | d x => cases e
        exact ⟨b, e2, b2, by rw [f.ff b (by rw [eh]; intro z; cases z)]; exact f2, w2.same f.f0 (by rw [eh]; exact hh b ho eh nb)⟩
    have nn : ∀ b, H b ≠ none → H2 b ≠ none := fun b hb => by
      by_cases z : b = a
      · subst z; exact f.bt b rfl
      · cases eb : H b with
        | none => exact absurd eb hb
        | some u => rw [hh b u eb z]; intro z; cases z
    refine ⟨f.fh, L.f0.trans f.f0, fun b u eb b' => ?_, fun b h => (f.ff b (L.nn h)).trans (L.ff b h), fun b e => ⟨(L.bt b e).1, nn b (L.bt b e).2⟩, by simp [L.len], fun j t ej => ?_, fun j k o1 o2 e1 e2 e3 => ?_, fun j k o1 o2 e1 e2 => ?_, L.tb⟩
    · by_cases z : b = a
      · subst z
        cases s with
        | own o1 =>
          obtain ⟨a3, e3, _, hn, _⟩ := L.sl i _ q
          rw [ea] at e3
          cases e3
          rw [hn] at eb
          cases eb
        | bor o1 =>
          obtain ⟨a3, e3, hB, _⟩ := L.sl i _ q
          rw [ea] at e3
          cases e3
          exact absurd hB b'
        | un => cases e
        | d x => cases e
      · exact h0a b u eb b' z
    · rcases getS ej with ⟨rfl, rfl, lt⟩ | ⟨n, ej⟩
      · cases s with
        | own o1 =>
          obtain ⟨a3, e3, _, hn, _⟩ := L.sl i _ q
          rw [ea] at e3
          cases e3
          exact ⟨a, ea, fn, hn, w⟩
        | bor o1 =>
          obtain ⟨a3, e3, hB, _⟩ := L.sl i _ q
          rw [ea] at e3
          cases e3
          exact ⟨a, ea, hB, fn, w⟩
        | un => cases e
        | d x => cases e
      · exact slots j t n ej
    · cases s with
      | own o3 =>
        rcases getS e1 with ⟨rfl, z, _⟩ | ⟨n1, e1⟩
        · rcases getS e2 with ⟨rfl, z2, _⟩ | ⟨n2, e2⟩
          · rfl
          · exact L.ne i k o3 o2 q e2 e3
        · rcases getS e2 with ⟨rfl, z2, _⟩ | ⟨n2, e2⟩
          · exact L.ne j i o1 o3 e1 q e3
          · exact L.ne j k o1 o2 e1 e2 e3
      | bor o3 =>
        rcases getS e1 with ⟨rfl, z, _⟩ | ⟨n1, e1⟩
        · cases z
        · rcases getS e2 with ⟨rfl, z2, _⟩ | ⟨n2, e2⟩
          · cases z2
          · exact L.ne j k o1 o2 e1 e2 e3
      | un => cases e
      | d x => cases e
    · cases s with
      | own o3 =>
        rcases getS e1 with ⟨rfl, z, _⟩ | ⟨n1, e1⟩
        · cases z
        · rcases getS e2 with ⟨rfl, z2, _⟩ | ⟨n2, e2⟩
          · cases z2
          · exact L.nb j k o1 o2 e1 e2
      | bor o3 =>
        rcases getS e1 with ⟨rfl, z, _⟩ | ⟨n1, e1⟩
        · rcases getS e2 with ⟨rfl, z2, _⟩ | ⟨n2, e2⟩
          · rfl
          · exact L.nb i k o3 o2 q e2
        · rcases getS e2 with ⟨rfl, z2, _⟩ | ⟨n2, e2⟩
          · exact L.nb j i o1 o3 e1 q
          · exact L.nb j k o1 o2 e1 e2
      | un => cases e
      | d x => cases e
end
end L3

set_option Elab.async false
set_option linter.all false
namespace Fr
open PySem L2
section
variable {es : List Expr} {env : Env}
theorem star_tup {a b c} : starEach (.Tuple a b c :: es) env = (false, eval (.Tuple a b c) env) :: starEach es env := by rfl
theorem star_name {a b} : starEach (.Name a b :: es) env = (false, eval (.Name a b) env) :: starEach es env := by rfl
theorem star_const {a b c} : starEach (.Constant a b c :: es) env = (false, eval (.Constant a b c) env) :: starEach es env := by rfl
theorem star_bin {a b c d} : starEach (.BinOp a b c d :: es) env = (false, eval (.BinOp a b c d) env) :: starEach es env := by rfl
theorem star_un {a b c} : starEach (.UnaryOp a b c :: es) env = (false, eval (.UnaryOp a b c) env) :: starEach es env := by rfl
theorem star_call {a b c d} : starEach (.Call a b c d :: es) env = (false, eval (.Call a b c d) env) :: starEach es env := by rfl
end
end Fr
namespace Fr
open PySem L2
/-! the same rules behind a fence: what stands in them is not looked through -/
structure WE (X : Cx) (e : Expr) (t : TE) : Prop where
  h : PE X e t
structure WA (X : Cx) (es : List Expr) (t : TA) : Prop where
  h : PA X es t
structure WS (X : Cx) (st : Stmt) (t : TS) : Prop where
  h : PS X st t
structure WSs (X : Cx) (sts : List Stmt) (t : TS) : Prop where
  h : PSs X sts t
section
variable {X : Cx} {e : Expr} {es : List Expr} {te : TE} {t : TA} {pos : Pos} {st : Stmt} {sts : List Stmt} {ts ts' : TS}
end
end Fr
namespace Fr
open PySem L2
section
variable {X : Cx} {e a b : Expr} {te ta tb : TE} {pos pos' : Pos} {sts : List Stmt} {i : Nat} {x : Str}
end
end Fr

set_option Elab.async false
set_option linter.all false
set_option maxRecDepth 100000
namespace L3
open PySem PySem.Spec L2
section
variable {X : Cx} {E : XK} {e a b c o : Expr} {es : List Expr} {pos p : Pos}
/-- f(name, ..), the name's object lent -/
def tClB (sp : Sp3) (i : Nat) (t : T3A) : T3E := fun Z δ Q => match go δ i with
  | some _ => t Z δ fun xs δ' => (match go δ' i with
    | some ob => sp (.bor ob :: xs.map Sl.d) (fun r ob' => match ob' with
        | some o' => Q r (pt δ' i o')
        | none => False) (fun C ob' => match ob' with
        | some o' => Z C (pt δ' i o')
        | none => False)
    | none => False)
  | none => False
theorem Lk.rokB {K : PySem.W.Frag} {F0 H0 F H F2 H2 : Hp} {B : Option Addr} {σ : St} {δ : List Sl} {i : Nat} {o' : Ob} {r : Rv} {v : V} (L : Lk K F0 H0 B σ δ F H) (k : Rk K H F2 H2 r v) : Rok K H0 F2 H2 σ (pt δ i o') r v := by
  cases r with
  | d x => exact k
  | own ob =>
    obtain ⟨a, e, f, h, w⟩ := k
    refine ⟨a, e, f, (L.fr0 h).1, w, fun j o2 ej z => ?_⟩
    have key : ∃ o3, δ[j]? = some (.own o3) := by
      rw [pt_eq] at ej
      cases q : δ[i]? with
      | none => rw [q] at ej; exact ⟨o2, ej⟩
      | some s =>
        rw [q] at ej
        rcases getS ej with ⟨rfl, z2, _⟩ | ⟨_, ej⟩
        · cases s with
          | own o4 => exact ⟨o4, q⟩
          | bor o4 => cases z2
          | un => cases z2
          | d x => cases z2
        · exact ⟨o2, ej⟩
    obtain ⟨o3, e3⟩ := key
    obtain ⟨a', e1, _, _, w'⟩ := L.sl j _ e3
    rw [z] at e1
    cases e1
    obtain ⟨ho, eh⟩ := w'.there
    rw [h] at eh
    cases eh
theorem lo_lent {K : PySem.W.Frag} {F0 H0 : Hp} {B : Option Addr} {sp : Sp3} {i : Nat} {t : T3A} {σ : St} {H : Hp} {Q : VK} (h : LE K E F0 H0 B (tClB sp i t) σ H Q) : tCons (tVar i) (LA K E F0 H0 B t) σ H fun vs H1 => lsp K sp (vs ++ []) H1 Q E := by
  obtain ⟨δ, F, Z, P, L, z, w, q⟩ := h
  unfold tClB at w
  cases e0 : L3.go δ i with
  | none => rw [e0] at w; exact w.elim
  | some ob0 =>
    rw [e0] at w
    obtain ⟨a, e1, _, _, _⟩ := L.go e0
    refine ⟨_, e1, δ, F, Z, _, L, z, w, fun xs δ' vs F' H' p' L' s r => ?_⟩
    show lsp K sp ((V.ref a :: vs) ++ []) H' Q E
    rw [List.append_nil]
    cases e2 : L3.go δ' i with
    | none => rw [e2] at p'; exact p'.elim
    | some ob =>
      rw [e2] at p'
      obtain ⟨a', e3, f3, w3, _⟩ := L'.go e2
      rw [e1] at e3
      cases e3
      refine ⟨F', some a, _, _, _, Lk.argsB L'.tbF L'.fh f3 w3 r, p', fun rr ob' v F2 H2 p2 f2 k2 => ?_, fun C ob' F2 H2 z2 f2 => ?_⟩
      · cases ob' with
        | none => exact p2.elim
        | some o' => exact q rr _ v F2 H2 p2 (L'.afterB e2 e1 f2) (s.trans f2.f0) (L'.rokB k2)
      · cases ob' with
        | none => exact z2.elim
        | some o' => exact z C σ _ F2 H2 (L'.afterB e2 e1 f2) z2
theorem e_callB (i : Nat) {x y : Str} {k : Nat} {ps : List Str} {sp : Sp3} {t : T3A} {p1 : Pos} (O : Own3 X.prog X.w X.K X.mg X.base k x ps sp) (hx : Passes (Fr.CX1 X.prog X.w) X E) (hr : Room k X.A) (hg : Gl X x) (ha : A3 X E es t)
    (hN : X.N[i]? = some y := by rfl) (hv : Vis X.env.scope y := by first | exact Or.inl rfl | exact Or.inr (Or.inl rfl) | exact Or.inr (Or.inr rfl)) (hd : (y == ("__debug__" : Str)) = false := by decide) (hcd : (y == ("__classdict__" : Str)) = false := by decide)
    (hdb : (x == ("__debug__" : Str)) = false := by decide) (hpl : (backTo pos (starEach es X.env)).any (·.1) = false := by rfl) : E3 X E (.Call (.Name x p) (.Name y p1 :: es) [] pos) (tClB sp i t) :=
  ⟨fun F0 H0 B => by
    obtain ⟨f, fd, FF, hm, hk, hb⟩ := O
    exact pe_imp (pe_call (E := E) FF hr hg hm hk hb .nil hx (pa_cons (pe_var hN hv hd hcd) (ha.h F0 H0 B) Fr.star_name) hdb Fr.star_name hpl) fun σ H Q h => lo_lent h⟩

/-! ### attributes -/
theorem look_rp {K : PySem.W.Frag} {F : Hp} {f : Str} : ∀ {fs : List (Str × V)} {dfs : List (Str × D)} {x : D}, fs.map (·.1) = dfs.map (·.1) → Rps K F (fs.map (·.2)) (dfs.map (·.2)) → dfs.lookup f = some x → ∃ v, fs.lookup f = some v ∧ Rp K F v x
  | [], [], _, _, _, h => by cases h
  | [], _ :: _, _, e, _, _ => by cases e
  | _ :: _, [], _, e, _, _ => by cases e
  | (n, v) :: fs, (m, d) :: dfs, x, e, r, h => by
    obtain ⟨e1, e2⟩ := List.cons.inj e
    have e1 : n = m := e1
    subst e1
    cases r with
    | cons r1 r2 =>
      rw [List.lookup_cons] at h ⊢
      cases q : (f == n) with
      | true => rw [q] at h; cases h; exact ⟨v, rfl, r1⟩
      | false =>
        rw [q] at h
        exact look_rp e2 r2 h
theorem look_none {f : Str} : ∀ {fs : List (Str × V)} {dfs : List (Str × D)}, fs.map (·.1) = dfs.map (·.1) → dfs.lookup f = none → fs.lookup f = none
  | [], _, _, _ => rfl
  | _ :: _, [], e, _ => by cases e
  | (n, v) :: fs, (m, d) :: dfs, e, h => by
    obtain ⟨e1, e2⟩ := List.cons.inj e
    have e1 : n = m := e1
    subst e1
    rw [List.lookup_cons] at h ⊢
    cases q : (f == n) with
    | true => rw [q] at h; cases h
    | false =>
      rw [q] at h
      exact look_none e2 h
/-- the fields that a name's object has -/
def Sl.flds : Sl → Option (Addr × List (Str × D))
  | .d (.obj C fs) => some (C, fs)
  | .own (.ins C fs) => some (C, fs)
  | .bor (.ins C fs) => some (C, fs)
  | _ => none
theorem Lk.flds {K : PySem.W.Frag} {F0 H0 F H : Hp} {B : Option Addr} {σ : St} {δ : List Sl} {i : Nat} {s : Sl} {C : Addr} {fs : List (Str × D)} (L : Lk K F0 H0 B σ δ F H) (e : δ[i]? = some s) (l : s.flds = some (C, fs)) :
    ∃ a dx vs, σ[i]? = some (some (.ref a)) ∧ H a = some (.ins C dx vs) ∧ vs.map (·.1) = fs.map (·.1) ∧ Rps K F (vs.map (·.2)) (fs.map (·.2)) := by
  have q := L.sl i s e
  cases s with
  | un => cases l
  | d x =>
    cases x with
    | obj C' gs =>
      cases l
      obtain ⟨v, e1, r⟩ := q
      cases r with
      | obj hs ek rs => exact ⟨_, _, _, e1, L.fh _ _ hs, ek, rs⟩
    | _ => cases l
  | own o =>
    cases o with
    | ins C' gs =>
      cases l
      obtain ⟨a, e1, _, _, dx, vs, hh, ek, rs⟩ := q
      exact ⟨a, dx, vs, e1, hh, ek, rs⟩
    | _ => cases l
  | bor o =>
    cases o with
    | ins C' gs =>
      cases l
      obtain ⟨a, e1, _, _, dx, vs, hh, ek, rs⟩ := q
      exact ⟨a, dx, vs, e1, hh, ek, rs⟩
    | _ => cases l
def gf (δ : List Sl) (i : Nat) : Option (Addr × List (Str × D)) := match δ[i]? with
  | some s => s.flds
  | none => none
def tFdN (C : Addr) (f : Str) (i : Nat) : T3D := fun Z δ Q => match gf δ i with
  | some (C', fs) => C' = C ∧ ∃ v, fs.lookup f = some v ∧ Q v δ
  | none => False
theorem d_fldN (i : Nat) {C : Addr} {f x : Str} (c : Cls X.K C) (n : NoAttr X.K C f) (hN : X.N[i]? = some x := by rfl) (hv : Vis X.env.scope x := by first | exact Or.inl rfl | exact Or.inr (Or.inl rfl) | exact Or.inr (Or.inr rfl)) (hd : (x == ("__debug__" : Str)) = false := by decide)
    (hcd : (x == ("__classdict__" : Str)) = false := by decide) (hb : attributeBase (.Name x p) f X.env (eval (.Name x p) X.env) = eval (.Name x p) X.env := by rfl) : D3 X E (.Attribute (.Name x p) f pos) (tFdN C f i) :=
  ⟨fun F0 H0 B => pe_imp (pe_fld (pe_var hN hv hd hcd) hb) fun σ H Q hh => ex4 hh fun δ F Z P L z w q => by
    unfold tFdN at w
    cases e0 : L3.gf δ i with
    | none => rw [e0] at w; exact w.elim
    | some cf =>
      obtain ⟨C', fs⟩ := cf
      rw [e0] at w
      obtain ⟨rfl, y, hy, py⟩ := w
      unfold gf at e0
      cases q0 : δ[i]? with
      | none => rw [q0] at e0; cases e0
      | some s =>
        rw [q0] at e0
        obtain ⟨a, dx, vs, e1, hh, ek, rs⟩ := L.flds q0 e0
        obtain ⟨u, hu, ru⟩ := look_rp ek rs hy
        exact ⟨_, e1, a, _, dx, vs, u, rfl, hh, c, n, hu, q y δ u F H py L (Same.refl _) ru⟩⟩
/-- name.f = e -/
def putD (f : Str) (x : D) : List (Str × D) → List (Str × D)
  | [] => [(f, x)]
  | (g, y) :: fs => if g = f then (g, x) :: fs else (g, y) :: putD f x fs
theorem put_rp {K : PySem.W.Frag} {F : Hp} {f : Str} {v : V} {x : D} (r : Rp K F v x) : ∀ {fs : List (Str × V)} {dfs : List (Str × D)}, fs.map (·.1) = dfs.map (·.1) → Rps K F (fs.map (·.2)) (dfs.map (·.2)) →
    (putF f v fs).map (·.1) = (putD f x dfs).map (·.1) ∧ Rps K F ((putF f v fs).map (·.2)) ((putD f x dfs).map (·.2))
  | [], [], _, _ => ⟨rfl, .one r⟩
  | [], _ :: _, e, _ => by cases e
  | _ :: _, [], e, _ => by cases e
  | (n, u) :: fs, (m, d) :: dfs, e, rr => by
    obtain ⟨e1, e2⟩ := List.cons.inj e
    have e1 : n = m := e1
    subst e1
    cases rr with
    | cons r1 r2 =>
      unfold putF putD
      by_cases q : n = f
      · rw [if_pos q, if_pos q]
        exact ⟨by simp [e2], .cons r r2⟩
      · rw [if_neg q, if_neg q]
        obtain ⟨k1, k2⟩ := put_rp r e2 r2
        exact ⟨by simp [k1], .cons r1 k2⟩
def tFs (C : Addr) (f : Str) (i : Nat) (t : T3D) : T3S := fun Z En δ => t Z δ fun x δ' => match go δ' i with
  | some (.ins C' fs) => C' = C ∧ fs.length < 100 ∧ En.nx (pt δ' i (.ins C' (putD f x fs)))
  | _ => False
theorem s_fld (i : Nat) {C : Addr} {f x : Str} {t : T3D} {pos' : Pos} (c : Cls X.K C) (n : NoAttr X.K C f) (h : D3 X E e t) (hN : X.N[i]? = some x := by rfl) (hv : Vis X.env.scope x := by first | exact Or.inl rfl | exact Or.inr (Or.inl rfl) | exact Or.inr (Or.inr rfl)) (hd : (x == ("__debug__" : Str)) = false := by decide)
    (hcd : (x == ("__classdict__" : Str)) = false := by decide) (hs : swapsWith e (some (.Attribute (.Name x p) f pos')) pos.line X.env = pure false := by rfl) : S3 X E (.Assign [.Attribute (.Name x p) f pos'] e pos) (tFs C f i t) :=
  ⟨fun F0 H0 B => ps_imp (ps_fld (pe_var hN hv hd hcd) (h.h F0 H0 B) hs) fun Dn σ H hh => ex4 hh fun δ F Z En L z w ok => ⟨δ, F, Z, _, L, z, w, fun y δ' v F' H' p' L' s r => by
    cases e0 : L3.go δ' i with
    | none => rw [e0] at p'; exact p'.elim
    | some ob =>
      rw [e0] at p'
      cases ob with
      | ins C' fs =>
        obtain ⟨rfl, hl, p'⟩ := p'
        obtain ⟨a, e1, f1, ⟨dx, vs, hh, ek, rs⟩, up⟩ := L'.go e0
        obtain ⟨k1, k2⟩ := put_rp (f := f) r ek rs
        have lv : vs.length = fs.length := by have := congrArg List.length ek; simpa using this
        exact ⟨_, e1, a, _, dx, vs, rfl, hh, c, n, by omega, ok.nx _ _ F' _ p' (up _ _ ⟨dx, _, upd_same, k1, k2⟩) s⟩
      | _ => exact p'.elim⟩⟩
/-! ### methods of data, instances made -/
/-- o.m(..), o data -/
def tMt (C : Addr) (m : Str) (sp : Sp3) (ta : T3D) (t : T3A) : T3E := fun Z δ Q => ta Z δ fun x δ1 => match x with
  | .obj C' fs => (C' = C ∧ fs.lookup m = none) ∧ t Z δ1 fun xs δ2 => sp (.d (.obj C' fs) :: xs.map Sl.d) (fun r _ => Q r δ2) (fun D _ => Z D δ2)
  | _ => False
theorem lo_meth {K : PySem.W.Frag} {F0 H0 : Hp} {B : Option Addr} {C : Addr} {m : Str} {sp : Sp3} {ta : T3D} {t : T3A} {σ : St} {H : Hp} {Q : VK} (h : LE K E F0 H0 B (tMt C m sp ta t) σ H Q) :
    tMeth C m (lsp K sp) [] E (LD K E F0 H0 B ta) (LA K E F0 H0 B t) σ H Q := by
  obtain ⟨δ, F, Z, P, L, z, w, q⟩ := h
  refine ⟨δ, F, Z, _, L, z, w, fun x δ1 v F1 H1 p1 L1 s1 r1 => ?_⟩
  cases r1 with
  | obj hs ek rs =>
    obtain ⟨⟨rfl, l⟩, p1⟩ := p1
    refine ⟨_, _, _, rfl, L1.fh _ _ hs, look_none ek l, δ1, F1, Z, _, L1, z, p1, fun xs δ2 vs F2 H2 p2 L2 s2 r2 => ?_⟩
    have r0 : Rp K F2 (V.ref _) (D.obj _ _) := Rp.same s2 (.obj hs ek rs)
    show lsp K sp (V.ref _ :: (vs ++ [])) H2 Q E
    rw [List.append_nil]
    exact ⟨F2, none, _, _, _, Lk.args L2.tbF L2.fh (.cons r0 r2), p2, fun rr ob v F3 H3 p3 f3 k3 => q rr δ2 v F3 H3 p3 (L2.after f3) ((s1.trans s2).trans f3.f0) (L2.rok k3), fun D ob F3 H3 z3 f3 => z D σ δ2 F3 H3 (L2.after f3) z3⟩
  | _ => exact p1.elim
/-- a method of a class of the text -/
structure MtOk (P : Program) (w : World) (K : PySem.W.Frag) (mg : Str → Option Value) (base : Heap) (k : Nat) (C : Addr) (m : Str) (ps : List Str) (sp : Sp3) : Prop where
  cl : Cls K C
  ex : ∃ (f : Addr) (fd : FuncData), FnOk P w K mg base (Fr.CX1 P w) k f fd ps (lsp K sp) ∧ Meth K C m f ∧ Binds K fd ps []
theorem e_meth {C : Addr} {m : Str} {k : Nat} {ps : List Str} {sp : Sp3} {ta : T3D} {t : T3A} {apos : Pos} {pl : Sem Bool} (O : MtOk X.prog X.w X.K X.mg X.base k C m ps sp) (hx : Passes (Fr.CX1 X.prog X.w) X E) (hr : Room k X.A) (ho : D3 X E o ta) (ha : A3 X E (e :: es) t)
    (hst : starEach (e :: es) X.env = (false, eval e X.env) :: starEach es X.env := by rfl) (hpl : (backTo pos (starEach es X.env)).any (·.1) = false := by rfl)
    (ht : eval (.Call (.Attribute o m apos) (e :: es) [] pos) X.env = (do
      let ov ← eval o X.env
      standAt apos.atName
      let (f, first) ← holding [ov] (getMethod ov m pl)
      callWith pos f first (backTo pos (starEach (e :: es) X.env)) (backToKw pos (keywordEach [] X.env))) := by rfl) : E3 X E (.Call (.Attribute o m apos) (e :: es) [] pos) (tMt C m sp ta t) :=
  ⟨fun F0 H0 B => by
    obtain ⟨f, fd, FF, hm, hb⟩ := O.ex
    exact pe_imp (pe_meth (ho.h F0 H0 B) O.cl hm FF hr hb .nil hx (ha.h F0 H0 B) hst hpl ht) fun σ H Q h => lo_meth h⟩
theorem e_meth0 {C : Addr} {m : Str} {k : Nat} {ps : List Str} {sp : Sp3} {ta : T3D} {apos : Pos} {pl : Sem Bool} (O : MtOk X.prog X.w X.K X.mg X.base k C m ps sp) (hx : Passes (Fr.CX1 X.prog X.w) X E) (hr : Room k X.A) (ho : D3 X E o ta)
    (ht : eval (.Call (.Attribute o m apos) [] [] pos) X.env = (do
      let ov ← eval o X.env
      standAt apos.atName
      let (f, first) ← holding [ov] (getMethod ov m pl)
      callWith pos f first (backTo pos (starEach [] X.env)) (backToKw pos (keywordEach [] X.env))) := by rfl) : E3 X E (.Call (.Attribute o m apos) [] [] pos) (tMt C m sp ta tA0) :=
  ⟨fun F0 H0 B => by
    obtain ⟨f, fd, FF, hm, hb⟩ := O.ex
    refine pe_imp (pe_meth0 (ho.h F0 H0 B) O.cl hm FF hr hb .nil hx ht) fun σ H Q h => ?_
    obtain ⟨δ, F, Z, P, L, z, w, q⟩ := lo_meth h
    refine ⟨δ, F, Z, P, L, z, w, fun x δ1 v F1 H1 p1 L1 s1 r1 => ?_⟩
    obtain ⟨a, dx, fs, h1, h2, h3, δ2, F2, Z2, P2, L2, z2, w2, q2⟩ := q x δ1 v F1 H1 p1 L1 s1 r1
    exact ⟨a, dx, fs, h1, h2, h3, q2 [] δ2 [] F2 _ w2 L2 (Same.refl _) .nil⟩⟩
/-- C(..) -/
def tMk (C : Addr) (sp : Sp3) (t : T3A) : T3E := fun Z δ Q => t Z δ fun xs δ' => sp (.bor (.ins C []) :: xs.map Sl.d) (fun r ob => match r, ob with
  | .d .non, some o => Q (.own o) δ'
  | _, _ => False) (fun D _ => Z D δ')
structure MkOk (P : Program) (w : World) (K : PySem.W.Frag) (mg : Str → Option Value) (base : Heap) (k : Nat) (x : Str) (C : Addr) (ps : List Str) (sp : Sp3) : Prop where
  ex : ∃ (f : Addr) (fd : FuncData), FnOk P w K mg base (Fr.CX1 P w) k f fd ps (lsp K sp) ∧ Mk K C f ∧ Binds K fd ps []
  m : mg x = some (.ref C)
theorem e_make {C : Addr} {x : Str} {k : Nat} {ps : List Str} {sp : Sp3} {t : T3A} (O : MkOk X.prog X.w X.K X.mg X.base k x C ps sp) (hx : Passes (Fr.CX1 X.prog X.w) X E) (hr : Room (k + 1) X.A) (hg : Gl X x) (ha : A3 X E (e :: es) t) (hdb : (x == ("__debug__" : Str)) = false := by decide)
    (he : starEach (e :: es) X.env = (false, eval e X.env) :: starEach es X.env := by rfl) (hpl : (backTo pos (starEach es X.env)).any (·.1) = false := by rfl) : E3 X E (.Call (.Name x p) (e :: es) [] pos) (tMk C sp t) :=
  ⟨fun F0 H0 B => by
    obtain ⟨f, fd, FF, hm, hb⟩ := O.ex
    refine pe_imp (pe_make hm FF hr hg O.m hb .nil hx (ha.h F0 H0 B) hdb he hpl) fun σ H Q hh => ex4 hh fun δ F Z P L z w q => ⟨δ, F, Z, _, L, z, w, fun xs δ' vs F' H' p' L' s r => ?_⟩
    intro y dy n1 n2 ne
    have sd : Same H' (upd H' dy (.own y)) := Fr.Same.new n2
    have n1' : upd H' dy (.own y) y = none := by rw [upd_ne (Ne.symm ne)]; exact n1
    have sy : Same (upd H' dy (.own y)) (upd (upd H' dy (.own y)) y (.ins C dy [])) := Fr.Same.new n1'
    have sh := sd.trans sy
    generalize hH2 : upd (upd H' dy (.own y)) y (.ins C dy []) = H2 at sh
    have hy : H2 y = some (.ins C dy []) := by rw [← hH2]; exact upd_same
    have fy : F' y = none := (L'.fr0 n1).2
    show lsp X.K sp (V.ref y :: (vs ++ [])) H2 _ E
    rw [List.append_nil]
    have LA2 : Lk X.K F' H2 (some y) ((V.ref y :: vs).map some) (.bor (.ins C []) :: xs.map Sl.d) F' H2 := Lk.argsB (ob := .ins C []) L'.tbF (L'.fh.trans sh) fy ⟨dy, [], hy, rfl, .nil⟩ r
    have L2 : Lk X.K F0 H0 B σ δ' F' H2 := L'.grow (Same.refl _) (L'.fh.trans sh) sh fun _ _ => rfl
    have grow : ∀ {F3 H3 : Hp} {ob : Option Ob}, Fin X.K F' H2 (some y) F3 H3 ob → Lk X.K F0 H0 B σ δ' F3 H3 := fun {F3 H3 ob} f3 => by
      refine L'.grow f3.f0 f3.fh (fun b u eb => ?_) fun b hb => f3.ff b fun z => ?_
      · exact f3.h0 b u (sh _ _ eb) fun z => by cases z; rw [n1] at eb; cases eb
      · cases eb : H' b with
        | none => exact hb eb
        | some u => rw [sh _ _ eb] at z; cases z
    refine ⟨F', some y, _, _, _, LA2, p', fun rr ob v F3 H3 p3 f3 k3 => ?_, fun D ob F3 H3 z3 f3 => z D σ δ' F3 H3 (grow f3) z3⟩
    cases rr with
    | own o => exact p3.elim
    | d x0 =>
      cases x0 with
      | non =>
        cases ob with
        | none => exact p3.elim
        | some ob =>
          cases k3
          refine ⟨rfl, ?_⟩
          obtain ⟨a, ea, fa, wa⟩ := f3.ob ob rfl
          cases ea
          refine q _ δ' _ F3 H3 p3 (grow f3) (s.trans f3.f0) ⟨y, rfl, fa, (L'.fr0 n1).1, wa, fun i o' ei zz => ?_⟩
          obtain ⟨a', e1, _, _, w'⟩ := L'.sl i _ ei
          rw [zz] at e1
          cases e1
          obtain ⟨ho, eh⟩ := w'.there
          rw [n1] at eh
          cases eh
      | _ => exact p3.elim⟩
end
end L3

set_option Elab.async false
set_option linter.all false
set_option maxRecDepth 100000
/-! A list comprehension with one name, whose element also reads names of the def around it. -/
namespace Fr
open PySem PySem.Spec L2
open PyProof.Rows hiding St
def clOf (cells : List (Str × Addr)) : List (Str × NameKind) → List (Str × Addr) → List (Str × Addr)
  | [], cs => cs
  | (n, k) :: r, cs => if k == .free then (match cells.lookup n with
    | some c => clOf cells r ((n, c) :: cs)
    | none => clOf cells r cs) else clOf cells r cs
theorem clOf_mem {cells : List (Str × Addr)} : ∀ (ns : List (Str × NameKind)) (cs : List (Str × Addr)), (∀ p ∈ cs, cells.lookup p.1 = some p.2) → ∀ p ∈ clOf cells ns cs, cells.lookup p.1 = some p.2
  | [], cs, h => h
  | (n, k) :: r, cs, h => by
    unfold clOf
    split
    · split
      · rename_i c e
        exact clOf_mem r _ fun p hp => by
          rcases List.mem_cons.mp hp with rfl | hp
          · exact e
          · exact h p hp
      · exact clOf_mem r _ h
    · exact clOf_mem r _ h
theorem clOf_sub {cells : List (Str × Addr)} : ∀ (ns : List (Str × NameKind)) (cs : List (Str × Addr)), ∀ p ∈ cs, p ∈ clOf cells ns cs
  | [], cs, p, hp => hp
  | (n, k) :: r, cs, p, hp => by
    unfold clOf
    split
    · split
      · exact clOf_sub r _ p (List.mem_cons_of_mem _ hp)
      · exact clOf_sub r _ p hp
    · exact clOf_sub r _ p hp
theorem clOf_has {cells : List (Str × Addr)} : ∀ (ns : List (Str × NameKind)) (cs : List (Str × Addr)) (y : Str) (c : Addr), (y, NameKind.free) ∈ ns → cells.lookup y = some c → (y, c) ∈ clOf cells ns cs
  | (n, k) :: r, cs, y, c, hm, e => by
    unfold clOf
    rcases List.mem_cons.mp hm with h | h
    · cases h
      rw [if_pos (show (NameKind.free == NameKind.free) = true from rfl), e]
      exact clOf_sub r _ _ List.mem_cons_self
    · split
      · split
        · exact clOf_has r _ y c h e
        · exact clOf_has r _ y c h e
      · exact clOf_has r _ y c h e
theorem closure_is {scope : Scope} {env : Env} (h : ∀ y ∈ scope.names, y.2 = .free → ∃ c, env.cells.lookup y.1 = some c) : closureFor scope env = pure (clOf env.cells scope.names []) := by
  unfold closureFor
  generalize ([] : List (Str × Addr)) = cs
  revert h cs
  generalize scope.names = ns
  induction ns with
  | nil => intro h cs; rfl
  | cons x r ih =>
    intro h cs
    obtain ⟨n, k⟩ := x
    have ih' := ih fun y hy => h y (List.mem_cons_of_mem _ hy)
    unfold clOf
    by_cases hk : (k == NameKind.free) = true
    · obtain ⟨c, e⟩ := h (n, k) List.mem_cons_self (by simpa using hk)
      have e' : env.cells.lookup n = some c := e
      rw [if_pos hk, e']
      show _ = pure (clOf env.cells r ((n, c) :: cs))
      rw [← ih' ((n, c) :: cs)]
      simp only [List.forIn_cons, hk, if_true, cellOf, e']
      rfl
    · rw [if_neg hk]
      rw [← ih' cs]
      simp only [List.forIn_cons, hk]
      rfl
/-- the context of the block: its own name, the names that it reads around it -/
def cxCF (X : Cx) (scope : Scope) (x : Str) (fr : List (Str × Nat)) (s₀ : Shared) (H₀ : Hp) (fp : List Addr) (pn : List (Addr × Obj)) : Cx where
  prog := X.prog
  w := X.w
  K := X.K
  mg := X.mg
  base := X.base
  A := X.A
  N := x :: fr.map (·.1)
  s₀ := s₀
  H₀ := H₀
  env := compEnvC scope (clOf X.env.cells scope.names []) s₀.heap.objs.size X.env
  outer := X.stack
  stack := X.stack
  ex := fp
  fn := fun _ => false
  calm := X.calm
  pn := pn
  xe := fun _ _ => False
def stF (fr : List (Str × Nat)) (σ : St) : List (Option V) := fr.map fun q => (σ[q.2]?).join
/-- the names around the block are kept in cells -/
structure FrOk (X : Cx) (scope : Scope) (x : Str) (fr : List (Str × Nat)) : Prop where
  kind : scope.kind = .function
  names : ∀ y ∈ scope.names, y.2 = .local → scope.names.lookup y.1 = some .local
  own : scope.names.lookup x = some .local
  nocell : ∀ y ∈ scope.names, y.2 ≠ .cell
  frees : ∀ y ∈ scope.names, y.2 = .free → X.env.scope.names.lookup y.1 = some .cell
  at_ : ∀ q ∈ fr, X.N[q.2]? = some q.1 ∧ (q.1, NameKind.free) ∈ scope.names ∧ (relabel scope X.env).names.lookup q.1 = some .cell
  nd : (x :: fr.map (·.1)).Nodup
section
variable {X : Cx} {pins : List (Addr × Obj)} {σ : St} {H : Hp} {s : Shared} {scope : Scope} {x : Str} {fp : List Addr} {fr : List (Str × Nat)}
theorem cl_look {cells : List (Str × Addr)} {ns : List (Str × NameKind)} {y : Str} {c : Addr} (e : (clOf cells ns []).lookup y = some c) : cells.lookup y = some c :=
  clOf_mem ns [] (fun p hp => by cases hp) (y, c) (PySem.mem_of_lookup e)
theorem look_mem {β : Type} : ∀ {l : List (Str × β)} {y : Str} {c : β}, (y, c) ∈ l → ∃ c', l.lookup y = some c'
  | (n, k) :: r, y, c, h => by
    by_cases e : (y == n) = true
    · exact ⟨k, by simp [List.lookup_cons, e]⟩
    · rcases List.mem_cons.mp h with h | h
      · cases h
        exact absurd (by simp) e
      · obtain ⟨c', q⟩ := look_mem h
        exact ⟨c', by simp [List.lookup_cons, e, q]⟩
theorem relabel_kind {env : Env} : ∀ {ns : List (Str × NameKind)} {y : Str} {k : NameKind}, (ns.map fun (n, k) => if (k == NameKind.free && env.scope.kind == .function && env.kindOf n == some .cell) then (n, NameKind.cell) else (n, k)).lookup y = some k → (k = .cell ∨ k = .free) → (∀ z ∈ ns, z.2 ≠ .cell) → (y, NameKind.free) ∈ ns
  | (n, k0) :: r, y, k, h, hk, hc => by
    simp only [List.map_cons] at h
    by_cases e : (y == n) = true
    · have en : y = n := by simpa using e
      subst en
      by_cases c : (k0 == NameKind.free && env.scope.kind == .function && env.kindOf y == some .cell) = true
      · have : k0 = .free := by
          simp only [Bool.and_eq_true, beq_iff_eq] at c
          exact c.1.1
        rw [this]
        exact List.mem_cons_self
      · rw [if_neg c] at h
        simp only [List.lookup_cons, e] at h
        cases h
        rcases hk with rfl | rfl
        · exact absurd rfl (hc _ List.mem_cons_self)
        · exact List.mem_cons_self
    · have h' : (r.map fun (n, k) => if (k == NameKind.free && env.scope.kind == .function && env.kindOf n == some .cell) then (n, NameKind.cell) else (n, k)).lookup y = some k := by
        split at h
        · simpa [List.lookup_cons, e] using h
        · simpa [List.lookup_cons, e] using h
      exact List.mem_cons_of_mem _ (relabel_kind h' hk fun z hz => hc z (List.mem_cons_of_mem _ hz))
end
section
variable {X : Cx}
end
end Fr

set_option Elab.async false
set_option linter.all false
set_option maxRecDepth 100000
/-! Comprehensions over a range; when a block's names are as they should be. -/
namespace Fr
open PySem PySem.Spec L2
open PyProof.Rows hiding St
theorem lookup_relabel_free {env : Env} (h1 : env.scope.kind = .function) : ∀ {names : List (Str × NameKind)} {x : Str}, names.lookup x = some .free → env.kindOf x = some .cell →
    (names.map fun (n, k) => if (k == NameKind.free && env.scope.kind == .function && env.kindOf n == some .cell) then (n, NameKind.cell) else (n, k)).lookup x = some .cell
  | [], _, h, _ => by simp at h
  | (n, k) :: r, x, h, hc => by
    have ih := @lookup_relabel_free env h1 r x
    show ((if (k == NameKind.free && env.scope.kind == .function && env.kindOf n == some .cell) = true then (n, NameKind.cell) else (n, k)) :: _).lookup x = some .cell
    cases hx : x == n with
    | true =>
      simp only [List.lookup_cons, hx] at h
      cases h
      have en : x = n := by simpa using hx
      subst en
      have : (NameKind.free == NameKind.free && env.scope.kind == .function && env.kindOf x == some .cell) = true := by
        rw [h1, hc]
        rfl
      rw [if_pos this]
      simp [List.lookup_cons]
    | false =>
      simp only [List.lookup_cons, hx] at h
      by_cases hc' : (k == NameKind.free && env.scope.kind == .function && env.kindOf n == some .cell) = true
      · rw [if_pos hc']; simp only [List.lookup_cons, hx]; exact ih h hc
      · rw [if_neg hc']; simp only [List.lookup_cons, hx]; exact ih h hc
end Fr

set_option Elab.async false
set_option linter.all false
set_option maxRecDepth 100000
/-! x = [elt for ..]: the list is stored before the block's names go. -/
namespace Fr
open PySem PySem.Spec L2
open PyProof.Rows hiding St
section
variable {X : Cx}
end
end Fr

set_option Elab.async false
set_option linter.all false
set_option maxRecDepth 100000
/-! A comprehension with one test, which may read names around it. -/
namespace Fr
open PySem PySem.Spec L2
open PyProof.Rows hiding St
section
variable {prog : Program} {w : World} {A : Around} {R : Result → Shared → Prop} {s : Shared}
theorem compLoop_goI {elt target iter c : Expr} {scope : Scope} {pos : Pos} {it acc : Value} {env : Env} (J : Nat → Shared → Prop)
    (turn : ∀ n s, J n s → ∀ E : Value → Shared → Prop, wpAny (model prog w) A (pyNext it) (fun r s₁ => (r = none ∧ R (.ok .next) s₁) ∨ ∃ v, r = some v ∧
      wpAny (model prog w) A (letOwnedTupleGo target it v) (fun _ s₂ => wpAny (model prog w) A (assign target env v) (fun _ s₃ => wpAny (model prog w) A (isTrue c env (eval c env)) (fun b s₄ => if b = true then wpAny (model prog w) A (eval elt env) (fun y s₅ =>
        wpAny (model prog w) A (call (.builtin "list.append") [acc, y]) (fun _ s₆ => ∃ m, m < n ∧ J m s₆) E s₅) E s₄ else ∃ m, m < n ∧ J m s₄) E s₃) E s₂) E s₁) E s)
    (n : Nat) (h : J n s) : codeAny (model prog w) A (.compLoop (.ListComp elt [⟨target, iter, [c], 0⟩] scope pos) 0 it acc env) R s := by
  refine codeAny_loop rfl J (fun n s hJ => ?_) n h
  refine wpAny_noted ?_
  rw [compTurn_list]
  refine wpAny_bind (wpAny_standAt (wpAny_bind (thn (turn n s hJ _) fun r s₁ h₁ => ?_)))
  rcases h₁ with ⟨rfl, h₁⟩ | ⟨v, rfl, h₁⟩
  · exact wpAny_pure h₁
  · refine wpAny_bind (thn h₁ fun _ s₂ h₂ => wpAny_bind (thn h₂ fun _ s₃ h₃ => ?_))
    refine wpAny_bind ?_
    rw [List.forIn_cons]
    refine wpAny_bind (wpAny_bind (thn h₃ fun b s₄ h₄ => wpAny_pure ?_))
    show wpAny _ _ (pure b) _ _ s₄
    refine wpAny_pure ?_
    cases b with
    | false => exact wpAny_pure ⟨rfl, h₄⟩
    | true => exact wpAny_bind (wpAny_bind (thn h₄ fun y s₅ h₅ => wpAny_bind (thn h₅ fun _ s₆ h₆ => wpAny_pure (wpAny_pure ⟨rfl, h₆⟩))))
end
section
variable {X : Cx}
end
end Fr

set_option Elab.async false
set_option linter.all false
set_option maxRecDepth 100000
/-! x = [elt for .. if ..] on one row. -/
namespace Fr
open PySem PySem.Spec L2
open PyProof.Rows hiding St
section
variable {X : Cx}
end
end Fr

set_option Elab.async false
set_option linter.all false
set_option maxRecDepth 100000
/-! Comprehensions with any target and at most one test, as values or stored in a name. -/
namespace Fr
open PySem PySem.Spec L2
open PyProof.Rows hiding St
/-- the context of the block: its own names, the names that it reads around it -/
def cxCV (X : Cx) (scope : Scope) (xs : List Str) (fr : List (Str × Nat)) (s₀ : Shared) (H₀ : Hp) (fp : List Addr) (pn : List (Addr × Obj)) : Cx :=
  { cxCF X scope Str.empty fr s₀ H₀ fp pn with N := xs ++ fr.map (·.1) }
structure FrOkV (X : Cx) (scope : Scope) (xs : List Str) (fr : List (Str × Nat)) : Prop where
  kind : scope.kind = .function
  names : ∀ y ∈ scope.names, y.2 = .local → scope.names.lookup y.1 = some .local
  own : ∀ x ∈ xs, scope.names.lookup x = some .local
  nocell : ∀ y ∈ scope.names, y.2 ≠ .cell
  frees : ∀ y ∈ scope.names, y.2 = .free → X.env.scope.names.lookup y.1 = some .cell
  at_ : ∀ q ∈ fr, X.N[q.2]? = some q.1 ∧ (q.1, NameKind.free) ∈ scope.names ∧ (relabel scope X.env).names.lookup q.1 = some .cell
  nd : (xs ++ fr.map (·.1)).Nodup
def frCheckV (scope sc : Scope) (xs : List Str) (fr : List (Str × Nat)) (N : List Str) : Bool :=
  decide (scope.kind = .function) && decide (sc.kind = .function) && decide (∀ y ∈ scope.names, y.2 = .local → scope.names.lookup y.1 = some .local) && decide (∀ x ∈ xs, scope.names.lookup x = some .local) &&
  decide (∀ y ∈ scope.names, y.2 ≠ .cell) && decide (∀ y ∈ scope.names, y.2 = .free → sc.names.lookup y.1 = some .cell) && decide (∀ q ∈ fr, N[q.2]? = some q.1 ∧ (q.1, NameKind.free) ∈ scope.names ∧ scope.names.lookup q.1 = some .free) && decide (xs ++ fr.map (·.1)).Nodup
theorem frokV {X : Cx} {scope sc : Scope} {xs : List Str} {fr : List (Str × Nat)} {N : List Str} (hs : X.env.scope = sc) (hN : X.N = N) (h : frCheckV scope sc xs fr N = true) : FrOkV X scope xs fr := by
  unfold frCheckV at h
  simp only [Bool.and_eq_true, decide_eq_true_eq] at h
  obtain ⟨⟨⟨⟨⟨⟨⟨a1, a0⟩, a2⟩, a3⟩, a4⟩, a5⟩, a6⟩, a7⟩ := h
  subst hs
  subst hN
  exact ⟨a1, a2, a3, a4, a5, fun q hq => ⟨(a6 q hq).1, (a6 q hq).2.1, lookup_relabel_free a0 (a6 q hq).2.2 (a5 _ (a6 q hq).2.1 rfl)⟩, a7⟩
section
variable {X : Cx} {pins : List (Addr × Obj)} {σ : St} {H : Hp} {s : Shared} {scope : Scope} {xs : List Str} {fp : List Addr} {fr : List (Str × Nat)}
theorem cv_start {h₁ : Heap} {t : Nat} {m : Str → Option Value} (I : Inv X pins σ H s) (f : FpIn X pins s.heap fp) (O : FrOkV X scope xs fr) (hn : h₁.Ns s.heap.objs.size m) (k : ∀ b o, s.heap.get? b = some o → h₁.get? b = some o) :
    Inv (cxCV X scope xs fr s H fp (X.pn ++ pins)) [] (List.replicate xs.length none ++ stF fr σ) H { s with heap := h₁, toks := t } := by
  have cx : ∀ y c, (cxCV X scope xs fr s H fp (X.pn ++ pins)).env.cells.lookup y = some c → X.env.cells.lookup y = some c := fun y c e => cl_look e
  have hasC : ∀ y, (y, NameKind.free) ∈ scope.names → ∃ c, X.env.cells.lookup y = some c ∧ (clOf X.env.cells scope.names []).lookup y = some c := fun y hy => by
    obtain ⟨c, e⟩ := I.ok.has y (.inl (O.frees _ hy rfl))
    obtain ⟨c', e'⟩ := look_mem (clOf_has scope.names [] y c hy e)
    have := cl_look e'
    rw [e] at this
    cases this
    exact ⟨c, e, e'⟩
  refine ⟨⟨I.ok.mod, O.kind, I.ok.glob, I.ok.blt, Nat.le_refl _, fun y z c e1 e2 => I.ok.inj y z c (cx y c e1) (cx z c e2), fun y hy => ?_, (fun y c hf _ => Bool.noConfusion hf), I.ok.hd, I.ok.frames, .inl rfl, fun b hb => ⟨Nat.ne_of_lt (f.lt b hb), fun y c e => f.cl b hb y c (cx y c e)⟩,
      I.bs, Nat.le_trans I.ok.bsz I.sz, fun b o e => f.base I b o e, f.stack I, I.stack, I.stkFree⟩,
    rfl, I.bare, Un.kept k, ⟨m, hn, fun i y v e1 e2 hv => ?_⟩, fun y c e => ?_, I.hok.fresh (Nat.le_refl _), fun y c e => I.freeC y c (cx y c e), fun p hp => ?_, I.hok.kept k, ?_⟩
  · have hm : (y, NameKind.free) ∈ scope.names := by
      rcases hy with hy | hy
      · exact relabel_kind hy (.inl rfl) O.nocell
      · exact relabel_kind hy (.inr rfl) O.nocell
    obtain ⟨c, _, e⟩ := hasC y hm
    exact ⟨c, e⟩
  · have hi : xs.length ≤ i := by
      apply Nat.le_of_not_lt
      intro lt
      rw [List.getElem?_append_left (by rw [List.length_replicate]; exact lt), List.getElem?_replicate] at e2
      split at e2 <;> cases e2
    · have e1' : (fr.map (·.1))[i - xs.length]? = some y := by
        have : (xs ++ fr.map (·.1))[i]? = some y := e1
        rw [List.getElem?_append_right hi] at this
        exact this
      have e2' : (stF fr σ)[i - xs.length]? = some (some v) := by
        rw [List.getElem?_append_right (by rw [List.length_replicate]; exact hi), List.length_replicate] at e2
        exact e2
      unfold stF at e2'
      rw [List.getElem?_map] at e1' e2'
      cases hq : fr[i - xs.length]? with
      | none => rw [hq] at e1'; cases e1'
      | some q =>
        rw [hq] at e1' e2'
        have ey : q.1 = y := by simpa using e1'
        have ev : (σ[q.2]?).join = some v := by simpa using e2'
        have hqm := List.mem_of_getElem? hq
        obtain ⟨a1, a2, a3⟩ := O.at_ q hqm
        rw [ey] at a1 a2 a3
        have ev' : σ[q.2]? = some (some v) := by
          cases z : σ[q.2]? with
          | none => rw [z] at ev; cases ev
          | some o => rw [z] at ev; simpa using ev
        have hcell := O.frees _ a2 rfl
        obtain ⟨m', hn', L⟩ := I.loc
        obtain ⟨u, r, lk⟩ := L q.2 y v a1 ev' (.inr (.inl hcell))
        refine ⟨u, r, .inr ⟨.inl a3, ?_⟩⟩
        obtain ⟨c, c1, c2⟩ := hasC y a2
        refine ⟨c, c2, ?_⟩
        rcases lk with ⟨z, _⟩ | ⟨_, c', c3, ⟨o, o1, o2⟩⟩
        · have z' : X.env.scope.names.lookup y = some .local := z
          rw [hcell] at z'
          cases z'
        · rw [c1] at c3
          cases c3
          exact ⟨o, k _ _ o1, o2⟩
  · obtain ⟨v, o, o1, o2⟩ := I.cell y c (cx y c e)
    exact ⟨v, o, k _ _ o1, o2⟩
  · have hp' : p ∈ X.pn ++ pins := by
      have : p ∈ (X.pn ++ pins) ++ [] := hp
      rwa [List.append_nil] at this
    obtain ⟨e, n, ne, nf, d⟩ := I.pin p hp'
    refine ⟨k _ _ e, n, Nat.ne_of_lt (Heap.lt_size e), fun z => ?_, d⟩
    rcases List.mem_cons.mp (I.stkSub p.1 z) with q | q
    · exact ne q
    · exact nf q
  · show (List.replicate xs.length none ++ stF fr σ).length = (xs ++ fr.map (·.1)).length
    unfold stF
    simp
theorem cv_end {σ' : St} {H' : Hp} {s' : Shared} {h' : Heap} (I : Inv X pins σ H s) (f : FpIn X pins s.heap fp) (I' : Inv (cxCV X scope xs fr s H fp (X.pn ++ pins)) [] σ' H' s') (hs : Heap.SameBut s.heap.objs.size s'.heap h') :
    Inv X pins σ H' { s' with heap := h' } := by
  have nC : H' s.heap.objs.size = none := I'.free
  have lt : ∀ {b : Addr} {o : Obj}, s.heap.get? b = some o → b ≠ s.heap.objs.size := fun e => Nat.ne_of_lt (Heap.lt_size e)
  have u := I'.base
  refine Inv.call' (s' := { s' with heap := h' }) (ch := fp) I I'.os ⟨fun b o e n hb hx => ?_, fun b o e n hb hx => ?_, u.free, fun b o e hx => ?_, u.tups, u.frzs, u.tbls⟩ (fun b o e => ?_) I'.bare fun b hb => ⟨f.own b hb, f.loc b hb, f.cl b hb, f.pn b hb⟩
  · exact (hs.2 b (lt e)).trans (u.keep b o e n hb hx)
  · obtain ⟨sl, q⟩ := u.slot b o e n hb hx
    exact ⟨sl, (hs.2 b (lt e)).trans q⟩
  · obtain ⟨o', q⟩ := u.there b o e hx
    exact ⟨o', (hs.2 b (lt e)).trans q⟩
  · refine (I'.hok b o e).stay (fun c v hc q => (hs.2 c ?_).trans q) (fun _ q => q) fun _ _ q => q
    rintro rfl
    rcases hc with z | z
    · rw [← z, nC] at e
      cases e
    · rw [nC] at z
      cases z
end
/-- one turn's body: an element, or none -/
abbrev TStep := St → Hp → (Option V → Hp → Prop) → Prop
def PStep (X : Cx) (ifs : List Expr) (elt : Expr) (ts : TStep) : Prop :=
  ∀ (pins : List (Addr × Obj)) (s : Shared) (τ : St) (H : Hp) (R : Option V → Hp → Prop) (acc : Value) (K : Shared → Prop) (E : Value → Shared → Prop), Inv X pins τ H s → ts τ H R →
    (∀ y u s' H', Inv X pins τ H' s' → RelV y u → R (some y) H' → wpAny (model X.prog X.w) X.A (call (.builtin "list.append") [acc, u]) (fun _ s'' => K s'') E s') → (∀ s' H', Inv X pins τ H' s' → R none H' → K s') →
    (match ifs with
      | [] => wpAny (model X.prog X.w) X.A (eval elt X.env) (fun y s₄ => wpAny (model X.prog X.w) X.A (call (.builtin "list.append") [acc, y]) (fun _ s₅ => K s₅) E s₄) E s
      | [c] => wpAny (model X.prog X.w) X.A (isTrue c X.env (eval c X.env)) (fun b s₄ => if b = true then wpAny (model X.prog X.w) X.A (eval elt X.env) (fun y s₅ => wpAny (model X.prog X.w) X.A (call (.builtin "list.append") [acc, y]) (fun _ s₆ => K s₆) E s₅) E s₄ else K s₄) E s
      | _ => False)
def tStep1 (tt : TT) (te : TE) : TStep := fun τ H R => tt τ H fun b H1 => if b = true then te τ H1 (fun y H2 => R (some y) H2) else R none H1
theorem pstep1 {X : Cx} {elt c : Expr} {te : TE} {tt : TT} (hx : X.xe = fun _ _ => False) (h : PE X elt te) (hc : PT X c tt) : PStep X [c] elt (tStep1 tt te) := by
  intro pins s τ H R acc K E I w k1 k2
  have no : ∀ v s, X.xe v s → False := fun v s z => by rw [hx] at z; exact z
  refine wpAny_mono (hc pins s τ H _ I w) (fun b s' ⟨H', I', q⟩ => ?_) fun _ _ z => (no _ _ z).elim
  cases b with
  | true =>
    rw [if_pos rfl] at q ⊢
    exact wpAny_mono (h pins s' τ H' _ I' q) (fun u s2 ⟨y, H2, I2, r, q2⟩ => k1 y u s2 H2 I2 r q2) fun _ _ z => (no _ _ z).elim
  | false =>
    rw [if_neg Bool.false_ne_true] at q ⊢
    exact k2 s' H' I' q
theorem compLoop_goV {prog : Program} {w : World} {A : Around} {R : Result → Shared → Prop} {s : Shared} {elt target iter : Expr} {ifs : List Expr} {scope : Scope} {pos : Pos} {it acc : Value} {env : Env} (J : Nat → Shared → Prop)
    (turn : ∀ n s, J n s → ∀ E : Value → Shared → Prop, wpAny (model prog w) A (pyNext it) (fun r s₁ => (r = none ∧ R (.ok .next) s₁) ∨ ∃ v, r = some v ∧
      wpAny (model prog w) A (letOwnedTupleGo target it v) (fun _ s₂ => wpAny (model prog w) A (assign target env v) (fun _ s₃ => (match ifs with
        | [] => wpAny (model prog w) A (eval elt env) (fun y s₄ => wpAny (model prog w) A (call (.builtin "list.append") [acc, y]) (fun _ s₅ => ∃ m, m < n ∧ J m s₅) E s₄) E s₃
        | [c] => wpAny (model prog w) A (isTrue c env (eval c env)) (fun b s₄ => if b = true then wpAny (model prog w) A (eval elt env) (fun y s₅ => wpAny (model prog w) A (call (.builtin "list.append") [acc, y]) (fun _ s₆ => ∃ m, m < n ∧ J m s₆) E s₅) E s₄ else ∃ m, m < n ∧ J m s₄) E s₃
        | _ => False)) E s₂) E s₁) E s)
    (hl : ifs.length ≤ 1) (n : Nat) (h : J n s) : codeAny (model prog w) A (.compLoop (.ListComp elt [⟨target, iter, ifs, 0⟩] scope pos) 0 it acc env) R s := by
  match ifs, hl with
  | [], _ => exact compLoop_go J turn n h
  | [c], _ => exact compLoop_goI J turn n h
def tCompV (fr : List (Str × Nat)) (n : Nat) (wi : TI) (g : TG) (ts : TStep) : TE := fun σ H Q => wi σ H fun J H1 => ∀ D, H1 D = none → ∃ W : Nat → Nat → St → List V → Hp → Prop, (∃ m, W 0 m (List.replicate n none ++ stF fr σ) [] (upd H1 D (.lst []))) ∧
  ∀ i m τ ys H2, W i m τ ys H2 → (J.stop i H2 ∧ Q (.ref D) H2) ∨ (J.go i H2 ∧ ys.length < sizeLine ∧ ∀ v H3, J.yld i H2 v H3 → g v τ H3 fun τ2 H4 => ts τ2 H4 fun oy H5 => match oy with
    | some y => H5 D = some (.lst ys) ∧ ∃ m', m' < m ∧ W (i + 1) m' τ2 (ys ++ [y]) (upd H5 D (.lst (ys ++ [y])))
    | none => ∃ m', m' < m ∧ W (i + 1) m' τ2 ys H5)
section
variable {X : Cx}
theorem ps_setV {elt iter tg : Expr} {ifs : List Expr} {xs : List Str} {y : Str} {py pos spos : Pos} {scope : Scope} {fr : List (Str × Nat)} {wi : TI} {g : TG} {ts : TStep} {i₀ : Nat} (hN : X.N.Nodup) (hiy : X.N[i₀]? = some y) (hy : Loc X.env.scope y) (hc : X.calm = true) (hi : PI X tg iter wi) (O : FrOkV X scope xs fr)
    (hg : ∀ (s₀ : Shared) (H₀ : Hp) (fp : List Addr) (pn : List (Addr × Obj)), PG (cxCV X scope xs fr s₀ H₀ fp pn) tg g)
    (hstep : ∀ (s₀ : Shared) (H₀ : Hp) (fp : List Addr) (pn : List (Addr × Obj)), PStep (cxCV X scope xs fr s₀ H₀ fp pn) ifs elt ts) (hlf : ifs.length ≤ 1)
    (hsw : swapsWith (.ListComp elt [⟨tg, iter, ifs, 0⟩] scope pos) (some (.Name y py)) spos.line X.env = pure true := by rfl)
    (hf : X.fn y = true ∨ X.env.scope.names.lookup y = some .local := by first | exact .inl rfl | exact .inr rfl | assumption)
    (hs : ∀ y, foldedSetIterable iter X.env y = pure y := by intro _; rfl) : PS X (.Assign [.Name y py] (.ListComp elt [⟨tg, iter, ifs, 0⟩] scope pos) spos) (tAsg (tCompV fr xs.length wi g ts) (gName i₀)) := by
  intro pins s σ H Dn I h
  show wpAny (model X.prog X.w) X.A (exec (.Assign [.Name y py] (.ListComp elt [⟨tg, iter, ifs, 0⟩] scope pos) spos) X.env) _ _ s
  rw [exec_Assign_Name_used _ _ _ _ hsw]; refine wpAny_bind (wpAny_standAt (wpAny_bind ?_))
  show wpAny _ X.A (do let _ ← comprehension (.ListComp elt [⟨tg, iter, ifs, 0⟩] scope pos) scope X.env _ (newList []) false (eval iter X.env) (some (assign (.Name y py) X.env))) _ _ s
  refine wpAny_bind (wpAny_mono (wpAny_comprehension_free (use := some (assign (.Name y py) X.env)) (Q := fun _ s' => SP X pins Dn .next s') rfl hs (closure_is fun y hy e => I.ok.has _ (.inl (O.frees y hy e))) O.kind O.names
    (thn (hi pins s σ H _ I h) fun v s1 h1 => thn h1 fun itv s2 h2 => ?_)) (fun _ s' hq => wpAny_pure (wpAny_pure hq)) fun _ _ e => e)
  obtain ⟨it, fp, tn, J, H2, rfl, I2, T, st2, f2, k2⟩ := h2
  refine wpAny_newObj_type ?_ (by show 0 ≤ sizeLine; decide)
  have n2 : H2 s2.heap.objs.size = none := I2.hok.fresh (Nat.le_refl _)
  have I3 : Inv X pins σ (upd H2 s2.heap.objs.size (.lst [])) { s2 with heap := s2.heap.push { cls := .type "list", data := .seq ([] : List Value).toArray } } := I2.lnew (t' := s2.toks) .nil (Nat.zero_le _)
  obtain ⟨W, ⟨m0, w0⟩, turn⟩ := k2 _ n2
  generalize hD : s2.heap.objs.size = D at n2 w0 turn I3
  have up3 : ∀ b o, s2.heap.get? b = some o → (s2.heap.push { cls := .type "list", data := .seq ([] : List Value).toArray }).get? b = some o := fun b o e => Heap.get?_push_of_some _ e
  generalize hs3 : ({ s2 with heap := s2.heap.push { cls := .type "list", data := .seq ([] : List Value).toArray } } : Shared) = s3 at I3
  have hh3 : s3.heap = s2.heap.push { cls := .type "list", data := .seq ([] : List Value).toArray } := by rw [← hs3]
  rw [← hh3] at up3
  have st3 : tn 0 s3.heap := T.keep _ _ _ st2 fun b _ o e => up3 b o e
  have f3 : FpIn X pins s3.heap fp := by
    refine ⟨fun b hb => ?_, fun b hb => (f2 b hb).2.1, fun b hb => (f2 b hb).2.2.1, fun b hb => (f2 b hb).2.2.2.1, fun b hb => (f2 b hb).2.2.2.2.1, fun b hb => (f2 b hb).2.2.2.2.2⟩
    obtain ⟨o, e, _⟩ := T.obj _ _ st3 b hb
    exact Heap.lt_size e
  have fn3 : ∀ b ∈ fp, upd H2 D (.lst []) b = none := fun b hb => by
    obtain ⟨o, e, _⟩ := T.obj _ _ st2 b hb
    have ne : b ≠ D := by rw [← hD]; exact Nat.ne_of_lt (Heap.lt_size e)
    rw [upd_ne ne]
    exact (f2 b hb).1
  refine wpAny_newFunctionEnv O.nocell (by intro y hy; simp at hy) (fun h₁ hn1 hs1 => ?_) O.kind
  have k1 : ∀ b o, s3.heap.get? b = some o → h₁.get? b = some o := fun b o e => (hs1.2 b (Nat.ne_of_lt (Heap.lt_size e))).trans (Heap.get?_push_of_some _ e)
  have I4 := cv_start (scope := scope) (xs := xs) (fr := fr) (t := s3.toks + ([] : List (Str × Value)).length) I3 f3 O hn1 k1
  have st4 : tn 0 h₁ := T.keep _ _ _ st3 fun b _ o e => k1 b o e
  have N1 : (cxCV X scope xs fr s3 (upd H2 D (.lst [])) fp (X.pn ++ pins)).N.Nodup := by
    exact O.nd
  have stat : ∀ {H' : Hp}, (∀ b ∈ fp, H' b = none) → ∀ b ∈ fp, FpOk (cxCV X scope xs fr s3 (upd H2 D (.lst [])) fp (X.pn ++ pins)) [] H' b := fun hn b hb =>
    ⟨hn b hb, Nat.ne_of_lt (f3.lt b hb), f3.stack I3 b hb, .inl hb, fun y c e => f3.cl b hb y c (cl_look e), fun p hp => f3.pn b hb p (by
      have : p ∈ (X.pn ++ pins) ++ [] := hp
      rwa [List.append_nil] at this)⟩
  have loop : ∀ s4 : Shared, s4 = { s3 with heap := h₁, toks := s3.toks + ([] : List (Str × Value)).length } →
      codeAny (model X.prog X.w) X.A (.compLoop (.ListComp elt [⟨tg, iter, ifs, 0⟩] scope pos) 0 (.ref it) (.ref D) (compEnvC scope (clOf X.env.cells scope.names []) s3.heap.objs.size X.env))
        (compPost (model X.prog X.w) X.A X.xe (some (assign (.Name y py) X.env)) (fun _ s' => SP X pins Dn .next s') (.ref D) s3.heap.objs.size) s4 := by
    rintro s4 rfl
    refine compLoop_goV (fun n s' => ∃ i ys τ H', Inv (cxCV X scope xs fr s3 (upd H2 D (.lst [])) fp (X.pn ++ pins)) [] τ H' s' ∧ tn i s'.heap ∧ (∀ b ∈ fp, H' b = none) ∧ W i n τ ys H') ?_ hlf m0 ⟨0, [], _, _, I4, st4, fn3, w0⟩
    rintro n s5 ⟨i, ys, τ5, H5, I5, st5, fr5, w5⟩ E
    rcases turn i n τ5 ys H5 w5 with ⟨stop, q⟩ | ⟨go, hlen, step⟩
    · refine thn (T.done (cxCV X scope xs fr s3 (upd H2 D (.lst [])) fp (X.pn ++ pins)) rfl rfl rfl hc i [] s5 τ5 H5 E I5 (stat fr5) st5 stop) fun r s6 ⟨hr, I6⟩ => .inl ⟨hr, ?_⟩
      obtain ⟨m, hm, _⟩ := I6.loc
      have lt3 : ∀ b o, s3.heap.get? b = some o → b ≠ s3.heap.objs.size := fun b o e => Nat.ne_of_lt (Heap.lt_size e)
      have nL : s3.heap.objs.size ≠ X.env.locals := fun z => by
        obtain ⟨_, ⟨o, _, _, ho, _⟩, _⟩ := I3.loc
        exact lt3 _ o ho z.symm
      have nC : ∀ x c, X.env.cells.lookup x = some c → c ≠ s3.heap.objs.size := fun x c e => by
        obtain ⟨_, o, ho, _⟩ := I3.cell x c e
        exact lt3 _ o ho
      have nP : ∀ p ∈ X.pn ++ pins, p.1 ≠ s3.heap.objs.size := fun p hp => lt3 _ _ (I3.pin p hp).1
      have fC : H5 s3.heap.objs.size = none := I6.free
      have J6 : Inv X pins σ H5 s6 := cv_end I3 f3 I6 (Heap.SameBut.refl _ _)
      show wpAny _ X.A (assign (.Name y py) X.env (.ref D)) _ _ s6
      refine wpAny_assign_Name (store_ok2 J6 hN hiy hy (show RelV (.ref D) (.ref D) from rfl) (fun s7 J7 hsb => ?_) hf)
      obtain ⟨a, hsb, ha⟩ := hsb
      have na : s3.heap.objs.size ≠ a := by
        rcases ha with rfl | ha
        · exact nL
        · exact (nC _ _ ha).symm
      refine ⟨m, hm.sameBut hsb na, fun h' hb => ?_⟩
      exact ⟨_, H5, J7.turned (t' := s7.toks) (it := s3.heap.objs.size) (fun b o hb' e => (hb.2 b hb').trans e) fC nL (.inr I3.sz) nC nP, q⟩
    · refine thn (T.item (cxCV X scope xs fr s3 (upd H2 D (.lst [])) fp (X.pn ++ pins)) rfl rfl rfl hc i [] s5 τ5 H5 E I5 (stat fr5) st5 go) fun r s6 ⟨u, hr, h6⟩ => .inr ⟨u, hr, ?_⟩
      refine thn h6 fun _ s7 ⟨yi, H7, I7, r7, y7, st7, fr7⟩ => ?_
      have I7' := I7.pinned (stat fr7) (T.obj _ _ st7)
      refine wpAny_mono (hg _ _ _ _ _ s7 τ5 H7 yi u _ I7' r7 (step yi H7 y7)) (fun _ s8 ⟨τ8, H8, I8, q8⟩ => ?_) fun _ _ z => False.elim z
      have back : ∀ {zs : List V} {G : Hp} {t : Shared} {m' : Nat}, Inv (cxCV X scope xs fr s3 (upd H2 D (.lst [])) fp (X.pn ++ pins)) ([] ++ pinsAt fp s7.heap) τ8 G t → m' < n → W (i + 1) m' τ8 zs G →
          ∃ m, m < n ∧ ∃ i ys τ H', Inv (cxCV X scope xs fr s3 (upd H2 D (.lst [])) fp (X.pn ++ pins)) [] τ H' t ∧ tn i t.heap ∧ (∀ b ∈ fp, H' b = none) ∧ W i m τ ys H' := fun {zs G t m'} I10 hm w9 => by
        refine ⟨m', hm, i + 1, zs, _, _, I10.unpinned, T.keep _ _ _ st7 fun b hb o e => (I10.pin (b, o) (List.mem_append_right _ (List.mem_append_right _ (mem_pinsAt hb e)))).1, fun b hb => ?_, w9⟩
        obtain ⟨o, e, d⟩ := T.obj _ _ st7 b hb
        exact (I10.pin (b, o) (List.mem_append_right _ (List.mem_append_right _ (mem_pinsAt hb e)))).2.1
      refine hstep _ _ _ _ _ s8 τ8 H8 _ (.ref D) (fun s' => ∃ m, m < n ∧ ∃ i ys τ H', Inv (cxCV X scope xs fr s3 (upd H2 D (.lst [])) fp (X.pn ++ pins)) [] τ H' s' ∧ tn i s'.heap ∧ (∀ b ∈ fp, H' b = none) ∧ W i m τ ys H') E I8 q8 (fun z u9 s10 H10 I10 r10 q10 => ?_) fun s9 H9 I9 q9 => ?_
      · obtain ⟨a10, m', hm, w10⟩ := q10
        refine wpAny_mono (mt_append (X := cxCV X scope xs fr s3 (upd H2 D (.lst [])) fp (X.pn ++ pins)) _ s10 _ H10 (.ref D) [z] (.ref D) [u9] (fun v H' => v = .non ∧ H' = upd H10 D (.lst (ys ++ [z]))) I10 rfl (.cons r10 .nil) ⟨D, ys, z, rfl, rfl, a10, hlen, rfl, rfl⟩) (fun _ s11 ⟨v11, H11, I11, _, _, e11⟩ => ?_) fun _ _ z => False.elim z
        subst e11
        exact back I11 hm w10
      · obtain ⟨m', hm, w9⟩ := q9
        exact back I9 hm w9
  subst hs3
  exact codeAny_compStart_list (loop _ rfl) (T.self _ _ _ _ _ st4 (loop _ rfl))
end
end Fr

set_option Elab.async false
set_option linter.all false
set_option maxRecDepth 100000
/-! Comprehensions over data. -/
namespace L3
open PySem PySem.Spec L2
def frzs : List Nat → List Sl → Option (List Sl × List Sl)
  | [], δ => some ([], δ)
  | j :: js, δ => match δ[j]? with
    | some (.d x) => (match frzs js δ with
      | some (l, δ') => some (.d x :: l, δ')
      | none => none)
    | some (.own o) => (match o.frz with
      | some x => (match frzs js (δ.set j (.d x)) with
        | some (l, δ') => some (.d x :: l, δ')
        | none => none)
      | none => none)
    | _ => none
theorem Lk.frzs {K : PySem.W.Frag} {F0 H0 H : Hp} {B : Option Addr} {σ : St} : ∀ {js : List Nat} {δ l δ' : List Sl} {F : Hp}, Lk K F0 H0 B σ δ F H → frzs js δ = some (l, δ') →
    ∃ F', Lk K F0 H0 B σ δ' F' H ∧ Same F F' ∧ l.length = js.length ∧ ∀ (k : Nat) (s : Sl), l[k]? = some s → ∃ x v j, js[k]? = some j ∧ s = .d x ∧ σ[j]? = some (some v) ∧ Rp K F' v x
  | [], δ, l, δ', F, L, e => by
    cases e
    exact ⟨F, L, Same.refl _, rfl, fun k s h => by simp at h⟩
  | j :: js, δ, l, δ', F, L, e => by
    unfold L3.frzs at e
    cases ej : δ[j]? with
    | none => rw [ej] at e; cases e
    | some s =>
      rw [ej] at e
      cases s with
      | un => cases e
      | bor o => cases e
      | d x =>
        dsimp only at e
        cases er : L3.frzs js δ with
        | none => rw [er] at e; cases e
        | some p =>
          obtain ⟨l', δ2⟩ := p
          rw [er] at e
          cases e
          obtain ⟨F', L', s', len, all⟩ := Lk.frzs L er
          obtain ⟨v, ev, rv⟩ := L.sl j _ ej
          refine ⟨F', L', s', by simp [len], fun k s hk => ?_⟩
          cases k with
          | zero => cases hk; exact ⟨x, v, j, rfl, rfl, ev, rv.same s'⟩
          | succ k =>
            obtain ⟨x1, v1, j1, a1, a2, a3, a4⟩ := all k s (by simpa using hk)
            exact ⟨x1, v1, j1, by simpa using a1, a2, a3, a4⟩
      | own o =>
        dsimp only at e
        cases eo : o.frz with
        | none => rw [eo] at e; cases e
        | some x =>
          rw [eo] at e
          dsimp only at e
          obtain ⟨F1, v, L1, s1, ev, rv⟩ := L.froz ej eo
          cases er : L3.frzs js (δ.set j (.d x)) with
          | none => rw [er] at e; cases e
          | some p =>
            obtain ⟨l', δ2⟩ := p
            rw [er] at e
            cases e
            obtain ⟨F', L', s', len, all⟩ := Lk.frzs L1 er
            refine ⟨F', L', s1.trans s', by simp [len], fun k s hk => ?_⟩
            cases k with
            | zero => cases hk; exact ⟨x, v, j, rfl, rfl, ev, rv.same s'⟩
            | succ k =>
              obtain ⟨x1, v1, j1, a1, a2, a3, a4⟩ := all k s (by simpa using hk)
              exact ⟨x1, v1, j1, by simpa using a1, a2, a3, a4⟩
/-- what is left of a slot that is no data -/
def Sl.wipe : Sl → Sl
  | .d x => .d x
  | _ => .un
abbrev T3P := List Sl → (Option D → List Sl → Prop) → Prop
abbrev Z0 : Zk := fun _ _ => False
def st1 (tt : T3T) (te : T3E) : T3P := fun δ Q => tt Z0 δ fun b δ1 => Br b (te Z0 δ1 fun r δ' => match r.frz with
  | some y => Q (some y) δ'
  | none => False) (Q none δ1)
def compL (g : T3G) (ts : T3P) : List D → List Sl → (List D → Prop) → Prop
  | [], _, Q => Q []
  | x :: xs, δ, Q => g x δ fun δ1 => ts δ1 fun oy δ2 => match oy with
    | some y => compL g ts xs (δ2.map Sl.wipe) fun ys => Q (y :: ys)
    | none => compL g ts xs (δ2.map Sl.wipe) Q
def tCm (n : Nat) (js : List Nat) (ti : T3I) (g : T3G) (ts : T3P) : T3E := fun Z δ Q => ti Z δ fun xs δ1 => match frzs js δ1 with
  | some (l, δ2) => xs.length ≤ 1000000 ∧ compL g ts xs (List.replicate n .un ++ l) fun ys => Q (.own (.lst ys)) δ2
  | none => False
def LP (K : PySem.W.Frag) (ts : T3P) : Fr.TStep := fun τ H R => ∃ F0 H0 B δ F P, Lk K F0 H0 B τ δ F H ∧ ts δ P ∧ ∀ oy δ' F' H', P oy δ' → Lk K F0 H0 B τ δ' F' H' → Same F F' → (match oy with
  | some y => ∀ v, Rp K F' v y → R (some v) H'
  | none => R none H')
structure P3 (X : Cx) (ifs : List Expr) (elt : Expr) (ts : T3P) : Prop where
  h : Fr.PStep X ifs elt (LP X.K ts)
theorem pstep_imp {X : Cx} {ifs : List Expr} {elt : Expr} {t t' : Fr.TStep} (h : Fr.PStep X ifs elt t) (i : ∀ τ H R, t' τ H R → t τ H R) : Fr.PStep X ifs elt t' := fun pins s τ H R acc K E I w k1 k2 => h pins s τ H R acc K E I (i _ _ _ w) k1 k2
/-- with the entry left open -/
theorem pe_ex {X : Cx} {e : Expr} {ι : Type} {t : ι → TE} (h : ∀ i, PE X e (t i)) : PE X e fun σ H Q => ∃ i, t i σ H Q := fun pins s σ H Q I ⟨i, w⟩ => h i pins s σ H Q I w
theorem pt_ex {X : Cx} {e : Expr} {ι : Type} {t : ι → TT} (h : ∀ i, PT X e (t i)) : PT X e fun σ H Q => ∃ i, t i σ H Q := fun pins s σ H Q I ⟨i, w⟩ => h i pins s σ H Q I w
theorem p_st1 {X : Cx} {elt c : Expr} {te : T3E} {tt : T3T} (hx : X.xe = fun _ _ => False) (h : E3 X E0 elt te) (hc : C3 X E0 c tt) : P3 X [c] elt (st1 tt te) := by
  refine ⟨pstep_imp (Fr.pstep1 hx (pe_ex (ι := Hp × Hp × Option Addr) fun i => h.toD.h i.1 i.2.1 i.2.2) (pt_ex (ι := Hp × Hp × Option Addr) fun i => hc.h i.1 i.2.1 i.2.2)) fun τ H R ⟨F0, H0, B, δ, F, P, L, w, q⟩ => ?_⟩
  refine ⟨(F0, H0, B), δ, F, Z0, _, L, (fun _ _ _ _ _ _ z => z.elim), w, fun b δ1 F1 H1 p1 L1 s1 => ?_⟩
  cases b with
  | true =>
    rw [if_pos rfl]
    exact ⟨(F0, H0, B), δ1, F1, Z0, fun x δ' => P (some x) δ', L1, (fun _ _ _ _ _ _ z => z.elim), p1, fun x δ' v F' H' p L' s r => q (some x) δ' F' H' p L' (s1.trans s) v r⟩
  | false =>
    rw [if_neg Bool.false_ne_true]
    exact q none δ1 F1 H1 p1 L1 s1
/-- a state of data alone, seen anew -/
theorem Lk.fresh {K : PySem.W.Frag} {F0 H0 F H F' H' : Hp} {B : Option Addr} {τ : St} {δ : List Sl} (L : Lk K F0 H0 B τ δ F H) (s1 : Same F F') (s2 : Same F' H') : Lk K F' H' none τ (δ.map Sl.wipe) F' H' := by
  have at' : ∀ (i : Nat) (s : Sl), (δ.map Sl.wipe)[i]? = some s → s = .un ∨ ∃ x, s = .d x ∧ δ[i]? = some (.d x) := fun i s e => by
    rw [List.getElem?_map] at e
    cases q : δ[i]? with
    | none => rw [q] at e; cases e
    | some t =>
      rw [q] at e
      cases e
      cases t with
      | d x => exact .inr ⟨x, rfl, rfl⟩
      | un => exact .inl rfl
      | own o => exact .inl rfl
      | bor o => exact .inl rfl
  refine ⟨s2, Same.refl _, fun _ _ e _ => e, fun _ _ => rfl, fun _ e => (by cases e), by simp [L.len], fun i s e => ?_, fun i j o o' e1 _ _ => ?_, fun i j o o' e1 _ => ?_, L.tbF.same s1⟩
  · rcases at' i s e with rfl | ⟨x, rfl, ex⟩
    · trivial
    · obtain ⟨v, ev, rv⟩ := L.sl i _ ex
      exact ⟨v, ev, rv.same s1⟩
  · rcases at' i _ e1 with z | ⟨x, z, _⟩ <;> cases z
  · rcases at' i _ e1 with z | ⟨x, z, _⟩ <;> cases z
theorem pg_ex {X : Cx} {tg : Expr} {ι : Type} {t : ι → TG} (h : ∀ i, PG X tg (t i)) : PG X tg fun v σ H Q => ∃ i, t i v σ H Q := fun pins s σ H v u Q I r ⟨i, w⟩ => h i pins s σ H v u Q I r w
/-- what a block walks: it may lean on all that stands at its start -/
structure ItOkH (K : PySem.W.Frag) (F1 H1 : Hp) (J : It) (xs : List D) : Prop where
  go : ∀ i F H, Same F1 F → Same F H → Same H1 H → i < xs.length → J.go i H
  yld : ∀ i F H x H', Same F1 F → Same F H → Same H1 H → i < xs.length → J.yld i H x H' → ∃ F' d, Same F F' ∧ Same F' H' ∧ Same H H' ∧ (∀ a, H a ≠ none → F' a = F a) ∧ xs[i]? = some d ∧ Rp K F' x d
  stop : ∀ F H, Same F1 F → Same F H → Same H1 H → J.stop xs.length H
theorem ItOk.h {K : PySem.W.Frag} {F1 H1 : Hp} {J : It} {xs : List D} (h : ItOk K F1 J xs) : ItOkH K F1 H1 J xs := ⟨fun i F H a b _ c => h.go i F H a b c, fun i F H x H' a b _ c d => h.yld i F H x H' a b c d, fun F H a b _ => h.stop F H a b⟩
def LIc (K : PySem.W.Frag) (E : XK) (F0 H0 : Hp) (B : Option Addr) (t : T3I) : TI := fun σ H R => ∃ δ F Z P, Lk K F0 H0 B σ δ F H ∧ ZOk K E F0 H0 B Z ∧ t Z δ P ∧ ∀ xs δ' F' H' J, P xs δ' → Lk K F0 H0 B σ δ' F' H' → Same F F' → ItOkH K F' H' J xs → R J H'
structure I3c (X : Cx) (E : XK) (tg iter : Expr) (t : T3I) : Prop where
  h : ∀ F0 H0 B, PI X tg iter (LIc X.K E F0 H0 B t)
theorem I3.toC {X : Cx} {E : XK} {tg iter : Expr} {t : T3I} (h : I3 X E tg iter t) : I3c X E tg iter t := ⟨fun F0 H0 B => pi_imp (h.h F0 H0 B) fun σ H R hh => ex4 hh fun δ F Z P L z w q => ⟨δ, F, Z, P, L, z, w, fun xs δ' F' H' J p L' s it => q xs δ' F' H' J p L' s it.h⟩⟩
theorem lo_comp {K : PySem.W.Frag} {E : XK} {F0 H0 : Hp} {B : Option Addr} {n : Nat} {fr : List (Str × Nat)} {ti : T3I} {g : T3G} {ts : T3P} {σ : St} {H : Hp} {Q : VK} (h : LE K E F0 H0 B (tCm n (fr.map (·.2)) ti g ts) σ H Q) :
    Fr.tCompV fr n (LIc K E F0 H0 B ti) (fun v σ H Q => ∃ i : Hp × Hp × Option Addr, LG K i.1 i.2.1 i.2.2 g v σ H Q) (LP K ts) σ H Q := by
  obtain ⟨δ, F, Z, P, L, z, w, q⟩ := h
  refine ⟨δ, F, Z, _, L, z, w, fun xs δ1 F1 H1 J p1 L1 s1 it D hD => ?_⟩
  cases ef : L3.frzs (fr.map (·.2)) δ1 with
  | none => rw [ef] at p1; exact p1.elim
  | some p0 =>
    obtain ⟨l, δ2⟩ := p0
    rw [ef] at p1
    obtain ⟨hx, p1⟩ := p1
    obtain ⟨F2, L2, s2, len, all⟩ := L1.frzs ef
    have sD : Same H1 (upd H1 D (.lst [])) := Fr.Same.new hD
    have fD : F2 D = none := (L2.fr0 hD).2
    have Li : Lk K F2 (upd H1 D (.lst [])) none (List.replicate n none ++ Fr.stF fr σ) (List.replicate n .un ++ l) F2 (upd H1 D (.lst [])) := by
      have at' : ∀ (i : Nat) (s : Sl), (List.replicate n Sl.un ++ l)[i]? = some s → s = .un ∨ (n ≤ i ∧ l[i - n]? = some s) := fun i s e => by
        by_cases lt : i < n
        · rw [List.getElem?_append_left (by simpa using lt), List.getElem?_replicate] at e
          rw [if_pos lt] at e
          exact .inl (Option.some.inj e).symm
        · rw [List.getElem?_append_right (by simpa using lt), List.length_replicate] at e
          exact .inr ⟨by omega, e⟩
      refine ⟨L2.fh.trans sD, Same.refl _, fun _ _ e _ => e, fun _ _ => rfl, fun _ e => (by cases e), by simp [len, Fr.stF], fun i s e => ?_, fun i j o o' e1 _ _ => ?_, fun i j o o' e1 _ => ?_, L2.tbF⟩
      · rcases at' i s e with rfl | ⟨ni, el⟩
        · trivial
        · obtain ⟨x, v, j, a1, rfl, a3, a4⟩ := all _ _ el
          refine ⟨v, ?_, a4⟩
          rw [List.getElem?_append_right (by simpa using ni), List.length_replicate]
          unfold Fr.stF
          rw [List.getElem?_map] at a1 ⊢
          cases eq : fr[i - n]? with
          | none => rw [eq] at a1; cases a1
          | some qq =>
            rw [eq] at a1
            have a1 : qq.2 = j := by simpa using a1
            show some ((σ[qq.2]?).join) = _
            rw [a1, a3]
            rfl
      · rcases at' i _ e1 with z1 | ⟨ni, el⟩
        · cases z1
        · obtain ⟨x, v, j, a1, a2, a3, a4⟩ := all _ _ el
          cases a2
      · rcases at' i _ e1 with z1 | ⟨ni, el⟩
        · cases z1
        · obtain ⟨x, v, j, a1, a2, a3, a4⟩ := all _ _ el
          cases a2
    refine ⟨fun i m τ ys H => m = xs.length - i ∧ i ≤ xs.length ∧ ys.length ≤ i ∧ ∃ δi F zs, Lk K F H none τ δi F H ∧ Same F2 F ∧ Same F H ∧ Same H1 (upd H D (.lst ys)) ∧ (∀ a, H1 a ≠ none → F a = F2 a) ∧ F D = none ∧ H D = some (.lst ys) ∧ Rps K F ys zs ∧ compL g ts (xs.drop i) δi fun ws => P (.own (.lst (zs ++ ws))) δ2,
      ⟨xs.length, by simp, Nat.zero_le _, Nat.zero_le _, _, F2, [], Li, Same.refl _, L2.fh.trans sD, ?_, fun _ _ => rfl, fD, upd_same, .nil, p1⟩, ?_⟩
    · intro a u ea
      rw [upd_upd]
      exact sD a u ea
    rintro i m τ ys G ⟨rfl, hi, hy, δi, F3, zs, L3, s3, s3h, h1g, f3, fD3, hD3, rs, pc⟩
    have sG : Same H1 G := fun a u ea => by
      have := h1g a u ea
      by_cases e : a = D
      · subst e; rw [hD] at ea; cases ea
      · rwa [upd_ne e] at this
    by_cases lt : i < xs.length
    · refine .inr ⟨it.go i F3 G (s2.trans s3) s3h sG lt, line_big (by omega), fun v G2 yv => ?_⟩
      obtain ⟨F4, d, a1, a2, a3, a4, a5, a6⟩ := it.yld i F3 G v G2 (s2.trans s3) s3h sG lt yv
      have ed : xs.drop i = d :: xs.drop (i + 1) := by
        rw [List.drop_eq_getElem_cons lt, (List.getElem?_eq_some_iff.mp a5).2]
      rw [ed] at pc
      have fD4 : F4 D = none := by rw [a4 D (by rw [hD3]; intro z; cases z)]; exact fD3
      have hD4 : G2 D = some (.lst ys) := a3 _ _ hD3
      have L4 : Lk K F3 G none τ δi F4 G2 := L3.grow a1 a2 a3 a4
      refine ⟨(F3, G, none), δi, F4, d, _, L4, a6, pc, fun τ5 δ5 F5 G5 p5 L5 s5 => ⟨F3, G, none, δ5, F5, _, L5, p5, fun oy δ6 F6 G6 p6 L6 s6 => ?_⟩⟩
      have hD6 : G6 D = some (.lst ys) := L6.h0 D _ hD3 fun z => by cases z
      have fD6 : F6 D = none := by rw [L6.ff D (by rw [hD3]; intro z; cases z)]; exact fD3
      have s36 : Same F3 F6 := L6.f0
      have g6 : Same G G6 := fun a u ea => L6.h0 a u ea fun z => by cases z
      have nf6 : ∀ a, H1 a ≠ none → F6 a = F2 a := fun a ha => by
        rw [← f3 a ha]
        refine L6.ff a fun z => ?_
        cases e : H1 a with
        | none => exact ha e
        | some u => rw [sG a u e] at z; cases z
      cases oy with
      | none =>
        refine ⟨_, by omega, rfl, lt, by omega, _, F6, zs, L6.fresh (Same.refl _) L6.fh, s3.trans s36, L6.fh, fun a u ea => ?_, nf6, fD6, hD6, rs.same s36, p6⟩
        by_cases e : a = D
        · subst e; rw [hD] at ea; cases ea
        · rw [upd_ne e]; exact g6 a u (sG a u ea)
      | some y =>
        intro v6 r6
        have sU : Same F6 (upd G6 D (.lst (ys ++ [v6]))) := fun a u ea => by
          have : a ≠ D := by rintro rfl; rw [fD6] at ea; cases ea
          rw [upd_ne this]; exact L6.fh a u ea
        refine ⟨hD6, _, by omega, rfl, lt, by simp; omega, _, F6, zs ++ [y], L6.fresh (Same.refl _) sU, s3.trans s36, sU, fun a u ea => ?_, nf6, fD6, upd_same, (rs.same s36).append (.one r6), ?_⟩
        · by_cases e : a = D
          · subst e; rw [hD] at ea; cases ea
          · rw [upd_ne e, upd_ne e]; exact g6 a u (sG a u ea)
        · have e2 : (fun ws => P (.own (.lst (zs ++ [y] ++ ws))) δ2) = fun ws => P (.own (.lst (zs ++ y :: ws))) δ2 := by
            funext ws
            rw [List.append_assoc]
            rfl
          rw [e2]
          exact p6
    · have e : i = xs.length := by omega
      subst e
      rw [List.drop_length] at pc
      refine .inl ⟨it.stop F3 G (s2.trans s3) s3h sG, ?_⟩
      have pc : P (.own (.lst (zs ++ []))) δ2 := pc
      rw [List.append_nil] at pc
      have L5 : Lk K F0 H0 B σ δ2 F3 G := L2.grow s3 s3h sG f3
      refine q _ δ2 _ F3 G pc L5 (s1.trans (s2.trans s3)) ⟨D, rfl, fD3, (L2.fr0 hD).1, ⟨ys, hD3, rs⟩, fun j o' ej zz => ?_⟩
      obtain ⟨a', e1, _, _, w'⟩ := L2.sl j _ ej
      rw [zz] at e1
      cases e1
      obtain ⟨ho, eh⟩ := w'.there
      rw [hD] at eh
      cases eh
section
variable {X : Cx} {E : XK} {elt iter tg : Expr} {ifs : List Expr} {xs : List Str} {pos : Pos} {scope : Scope} {fr : List (Str × Nat)} {ti : T3I} {g : T3G} {ts : T3P}
theorem s_comp (i₀ : Nat) {y : Str} {py spos : Pos} (hN : X.N.Nodup) (hiy : X.N[i₀]? = some y) (hy : Loc X.env.scope y) (hc : X.calm = true) (hi : I3c X E tg iter ti) (O : Fr.FrOkV X scope xs fr)
    (hg : ∀ (s₀ : Shared) (H₀ : Hp) (fp : List Addr) (pn : List (Addr × Obj)), G3 (Fr.cxCV X scope xs fr s₀ H₀ fp pn) tg g)
    (hstep : ∀ (s₀ : Shared) (H₀ : Hp) (fp : List Addr) (pn : List (Addr × Obj)), P3 (Fr.cxCV X scope xs fr s₀ H₀ fp pn) ifs elt ts) (hlf : ifs.length ≤ 1 := by decide)
    (hsw : swapsWith (.ListComp elt [⟨tg, iter, ifs, 0⟩] scope pos) (some (.Name y py)) spos.line X.env = pure true := by rfl)
    (hf : X.fn y = true ∨ X.env.scope.names.lookup y = some .local := by first | exact .inl rfl | exact .inr rfl | assumption)
    (hs : ∀ y, foldedSetIterable iter X.env y = pure y := by intro _; rfl) : S3 X E (.Assign [.Name y py] (.ListComp elt [⟨tg, iter, ifs, 0⟩] scope pos) spos) (tSt i₀ (tCm xs.length (fr.map (·.2)) ti g ts)) :=
  ⟨fun F0 H0 B => ps_imp (Fr.ps_setV hN hiy hy hc (hi.h F0 H0 B) O (fun s₀ H₀ fp pn => pg_ex (ι := Hp × Hp × Option Addr) fun i => (hg s₀ H₀ fp pn).h i.1 i.2.1 i.2.2) (fun s₀ H₀ fp pn => (hstep s₀ H₀ fp pn).h) hlf hsw hf hs) fun Dn σ H hh => ex4 hh fun δ F Z En L z w ok =>
    lo_comp ⟨δ, F, Z, _, L, z, w, fun r δ' v F' H' p L' s k => ok.nx _ _ F' H' p (L'.setR k) s⟩⟩
end
/-! how a comprehension is read -/
theorem compL_fmap {ts : T3P} {l : List Sl} (hl : l.map Sl.wipe = l) (f : D → Option D) : ∀ {xs : List D} {s : Sl} {Q : List D → Prop}, (∀ x ∈ xs, ∀ P : Option D → List Sl → Prop, P (f x) (.d x :: l) → ts (.d x :: l) P) → Q (xs.filterMap f) → compL (gNm 0) ts xs (s :: l) Q
  | [], _, _, _, q => q
  | x :: xs, s, Q, h, q => by
    show ts (.d x :: l) _
    refine h x List.mem_cons_self _ ?_
    cases e : f x with
    | none =>
      show compL (gNm 0) ts xs (.d x :: l.map Sl.wipe) _
      rw [hl]
      refine compL_fmap hl f (fun y hy => h y (List.mem_cons_of_mem _ hy)) ?_
      rw [List.filterMap_cons_none e] at q
      exact q
    | some y =>
      show compL (gNm 0) ts xs (.d x :: l.map Sl.wipe) _
      rw [hl]
      refine compL_fmap hl f (fun y hy => h y (List.mem_cons_of_mem _ hy)) ?_
      rw [List.filterMap_cons_some e] at q
      exact q
end L3

set_option Elab.async false
set_option linter.all false
set_option maxRecDepth 100000
/-! enumerate over a list, with a target of two. -/
namespace Fr
open PySem PySem.Spec L2
open PyProof.Rows hiding St
section
variable {X : Cx}
end
end Fr

set_option Elab.async false
set_option linter.all false
set_option maxRecDepth 100000
/-! Pairs walked, == of data, isinstance, dicts, raise. -/
namespace L3
open PySem PySem.Spec L2
section
variable {X : Cx} {E : XK} {e a b c o : Expr} {es : List Expr} {pos p : Pos}
/-! ### zip and enumerate -/
/-! ### == and != of data -/
mutual
def D.py : D → PyData
  | .non => .none
  | .bl b => .bool b
  | .int i => .int i
  | .str x => .str x
  | .tup xs => .tuple (D.pys xs)
  | .lst xs => .list (D.pys xs)
  | _ => .dict []
def D.pys : List D → List PyData
  | [] => []
  | x :: xs => x.py :: D.pys xs
end
mutual
theorem Rp.isD {K : PySem.W.Frag} {F H : Hp} (s : Same F H) : ∀ {v : V} {x : D}, Rp K F v x → x.py.canLay0 = true → Fr.IsD K H v x.py
  | _, _, .non, _ => .non
  | _, _, .bl b, _ => .bl b
  | _, _, .int i, _ => .int i
  | _, _, .str x, _ => .str x
  | _, _, .ty n, h => by simp [D.py, PyData.canLay0] at h
  | _, _, .adr a, h => by simp [D.py, PyData.canLay0] at h
  | _, _, .scr _, h => by simp [D.py, PyData.canLay0] at h
  | _, _, .dT _ _ _, h => by simp [D.py, PyData.canLay0] at h
  | _, _, .dK _ _ _, h => by simp [D.py, PyData.canLay0] at h
  | _, _, .obj _ _ _, h => by simp [D.py, PyData.canLay0] at h
  | _, _, .exc _, h => by simp [D.py, PyData.canLay0] at h
  | _, _, .tup hs rs, h => .tup (Fr.sqT_same s hs) (Rps.isDs s rs (by simpa [D.py, PyData.canLay0] using h))
  | _, _, .lst hs rs, h => .lst (SqL.of (s _ _ hs)) (Rps.isDs s rs (by simpa [D.py, PyData.canLay0] using h))
theorem Rps.isDs {K : PySem.W.Frag} {F H : Hp} (s : Same F H) : ∀ {vs : List V} {xs : List D}, Rps K F vs xs → PyData.canLayAll0 (D.pys xs) = true → Fr.IsDs K H vs (D.pys xs)
  | _, _, .nil, _ => .nil
  | _, _, .cons (d := d) (ds := ds) r rs, h => by
    have h' : d.py.canLay0 = true ∧ PyData.canLayAll0 (D.pys ds) = true := by simpa [D.pys, PyData.canLayAll0] using h
    exact .cons (Rp.isD s r h'.1) (Rps.isDs s rs h'.2)
end
/-- what can be compared -/
def CanEq (x : D) : Prop := x.py.canLay0 = true ∧ x.py.depth ≤ 60
def eqD : D → D → (D → Prop) → Prop := fun x y P => (CanEq x ∧ CanEq y) ∧ ∃ b, PyData.eqv x.py y.py = b ∧ P (.bl b)
def neD : D → D → (D → Prop) → Prop := fun x y P => (CanEq x ∧ CanEq y) ∧ ∃ b, PyData.eqv x.py y.py = b ∧ P (.bl (!b))
theorem r_eqD {A : Around} {K : PySem.W.Frag} {k : Nat} (hr : Room k A) : R3 K (fun x y H Q => ∃ d d', Fr.IsD K H x d ∧ Fr.IsD K H y d' ∧ d.canLay0 = true ∧ d'.canLay0 = true ∧ A.units + d.depth < cLine ∧ Q (.bl (PyData.eqv d d')) H) eqD := by
  intro F H x y v u Q P fh rx ry h q
  obtain ⟨h1, b, rfl, h2⟩ := h
  exact ⟨_, _, rx.isD fh h1.1.1, ry.isD fh h1.2.1, h1.1.1, h1.2.1, Fr.room_d hr (Nat.le_trans h1.1.2 (by decide)), q _ _ h2 (.bl _)⟩
/-! ### isinstance of data -/
def tyN : D → Option String
  | .non => some "NoneType"
  | .bl _ => some "bool"
  | .int _ => some "int"
  | .str _ => some "str"
  | .tup _ => some "tuple"
  | .lst _ => some "list"
  | _ => none
def isiB (t T : String) : Bool := t == T || (t == "bool" && T == "int")
def tOk (T : String) : Bool := T == "int" || T == "bool" || T == "tuple" || T == "list" || T == "str"
theorem tok_of {T : String} (h : tOk T = true) : T = "int" ∨ T = "bool" ∨ T = "tuple" ∨ T = "list" ∨ T = "str" := by
  unfold tOk at h
  simp only [Bool.or_eq_true, beq_iff_eq] at h
  rcases h with (((h | h) | h) | h) | h
  · exact .inl h
  · exact .inr (.inl h)
  · exact .inr (.inr (.inl h))
  · exact .inr (.inr (.inr (.inl h)))
  · exact .inr (.inr (.inr (.inr h)))
def rIsi : List D → (D → Prop) → Prop := fun xs P => match xs with
  | [x, .ty T] => (match tyN x, tOk T with
    | some t, true => P (.bl (isiB t T))
    | _, _ => False)
  | _ => False
end
section
variable {X : Cx}
theorem call_isiT : CallR X (.builtin "isinstance") (fun xs H Q => ∃ x T t b, xs = [x, .ty T] ∧ (TyOf X.K H x t ∨ ∃ p ys, x = .ref p ∧ SqT X.K H p ys ∧ t = .type "tuple") ∧ PySem.W.kitOne X.K t (.type T) = some b ∧ Q (.bl b) H) := by
  intro pins s σ H xs us Q I r h
  obtain ⟨x, T, t, b, rfl, ty, e, q⟩ := h
  obtain ⟨u, w', rfl, r1, r2⟩ := vals2 r
  cases r2
  rcases ty with ty | ⟨p, ys, rfl, sq, rfl⟩
  · exact isinst_ok I r1 ty e fun tk => ⟨.bl b, H, I.tok _, rfl, q⟩
  · cases r1
    obtain ⟨its, rv, ⟨o, h1, h2, _⟩, _⟩ := I.tuple sq
    exact PySem.W.kia_one PySem.W.kitx_tuple I.kIn ⟨o, h1, h2⟩ e (fun z => nomatch z) fun tk => ⟨.bl b, H, I.tok _, rfl, q⟩
theorem kit_is {K : PySem.W.Frag} {t T : String} (ht : t = "NoneType" ∨ t = "bool" ∨ t = "int" ∨ t = "str" ∨ t = "tuple" ∨ t = "list") (hT : T = "int" ∨ T = "bool" ∨ T = "tuple" ∨ T = "list" ∨ T = "str") : PySem.W.kitOne K (.type t) (.type T) = some (isiB t T) := by
  rcases ht with rfl | rfl | rfl | rfl | rfl | rfl <;> rcases hT with rfl | rfl | rfl | rfl | rfl <;> rfl
theorem isi_inv {xs : List D} {P : D → Prop} (h : rIsi xs P) : ∃ x T, xs = [x, .ty T] ∧ (match tyN x, tOk T with
    | some t, true => P (.bl (isiB t T))
    | _, _ => False) := by
  unfold rIsi at h
  split at h
  · exact ⟨_, _, rfl, h⟩
  · exact h.elim
theorem cr_isi : CR3 X.K (fun xs H Q => ∃ x T t b, xs = [x, .ty T] ∧ (TyOf X.K H x t ∨ ∃ p ys, x = .ref p ∧ SqT X.K H p ys ∧ t = .type "tuple") ∧ PySem.W.kitOne X.K t (.type T) = some b ∧ Q (.bl b) H) rIsi := by
  intro F H xs vs Q P fh rs h q
  obtain ⟨x, T, rfl, h0⟩ := isi_inv h
  clear h
  have h := h0
  clear h0
  obtain ⟨v, u, rfl, r, r2⟩ := rs.inv2
  obtain rfl := r2.inv_ty
  cases eT : tOk T with
  | false =>
    rw [eT] at h
    cases e : tyN x <;> (rw [e] at h; exact h.elim)
  | true =>
    have kT := tok_of eT
    rw [eT] at h
    cases x with
    | non => exact ⟨_, _, _, _, by rw [r.inv_non], .inl .non, kit_is (.inl rfl) kT, q _ _ h (.bl _)⟩
    | bl b => exact ⟨_, _, _, _, by rw [r.inv_bl], .inl (.bl b), kit_is (.inr (.inl rfl)) kT, q _ _ h (.bl _)⟩
    | int i => exact ⟨_, _, _, _, by rw [r.inv_int], .inl (.int i), kit_is (.inr (.inr (.inl rfl))) kT, q _ _ h (.bl _)⟩
    | str x => exact ⟨_, _, _, _, by rw [r.inv_str], .inl (.str x), kit_is (.inr (.inr (.inr (.inl rfl)))) kT, q _ _ h (.bl _)⟩
    | tup ds =>
      obtain ⟨a, us, rfl, hs, rr⟩ := r.inv_tup
      exact ⟨_, _, _, _, rfl, .inr ⟨_, _, rfl, Fr.sqT_same fh hs, rfl⟩, kit_is (.inr (.inr (.inr (.inr (.inl rfl))))) kT, q _ _ h (.bl _)⟩
    | lst ds =>
      obtain ⟨a, us, rfl, hs, rr⟩ := r.inv_lst
      exact ⟨_, _, _, _, rfl, .inl (.lst (fh _ _ hs)), kit_is (.inr (.inr (.inr (.inr (.inr rfl))))) kT, q _ _ h (.bl _)⟩
    | _ => exact h.elim
end
end L3

set_option Elab.async false
set_option linter.all false
set_option maxRecDepth 100000
/-! Dicts whose keys are tuples; raise; methods of lists. -/
namespace L3
open PySem PySem.Spec L2
/-- the key that a tuple's items are -/
def keyD : D → Option Key
  | .int i => some (.inl i)
  | .str x => some (.inr x)
  | _ => none
def keysD : List D → Option (List Key)
  | [] => some []
  | x :: xs => match keyD x with
    | some k => (match keysD xs with
      | some ks => some (k :: ks)
      | none => none)
    | none => none
theorem keys_rp {K : PySem.W.Frag} {F : Hp} : ∀ {vs : List V} {xs : List D} {ks : List Key}, Rps K F vs xs → keysD xs = some ks → vs = ks.map kV
  | _, _, _, .nil, h => by cases h; rfl
  | _, _, _, .cons (d := d) (ds := ds) r rs, h => by
    unfold keysD at h
    cases ek : keyD d with
    | none => rw [ek] at h; cases h
    | some k =>
      rw [ek] at h
      dsimp only at h
      cases e2 : keysD ds with
      | none => rw [e2] at h; cases h
      | some ks =>
        rw [e2] at h
        cases h
        rw [keys_rp rs e2]
        cases r <;> first | cases ek; rfl | cases ek
def valD {κ : Type} [DecidableEq κ] : List (κ × D) → κ → Option D
  | [], _ => none
  | (k, x) :: r, j => if k = j then some x else valD r j
def putT {κ : Type} [DecidableEq κ] (kvs : List (κ × D)) (k : κ) (x : D) : List (κ × D) := if (valD kvs k).isSome then kvs.map (fun kv => if kv.1 = k then (kv.1, x) else kv) else kvs ++ [(k, x)]
section
variable {κ : Type} [DecidableEq κ] {K : PySem.W.Frag} {F : Hp}
theorem val_rp {k : κ} : ∀ {kvs : List (κ × V)} {dvs : List (κ × D)}, kvs.map (·.1) = dvs.map (·.1) → Rps K F (kvs.map (·.2)) (dvs.map (·.2)) →
    (valD dvs k = none ∧ valV kvs k = none) ∨ ∃ x v, valD dvs k = some x ∧ valV kvs k = some v ∧ Rp K F v x
  | [], [], _, _ => .inl ⟨rfl, rfl⟩
  | [], _ :: _, e, _ => by cases e
  | _ :: _, [], e, _ => by cases e
  | (n, u) :: kvs, (m, d) :: dvs, e, r => by
    obtain ⟨e1, e2⟩ := List.cons.inj e
    have e1 : n = m := e1
    subst e1
    cases r with
    | cons r1 r2 =>
      unfold valD
      by_cases q : n = k
      · rw [if_pos q]
        exact .inr ⟨d, u, rfl, valV_pos q, r1⟩
      · rw [if_neg q, valV_neg (show ¬ (n, u).1 = k from q)]
        exact val_rp e2 r2
theorem repl_rp {k : κ} {v : V} {x : D} (r : Rp K F v x) : ∀ {kvs : List (κ × V)} {dvs : List (κ × D)}, kvs.map (·.1) = dvs.map (·.1) → Rps K F (kvs.map (·.2)) (dvs.map (·.2)) →
    (kvs.map (fun kv => if kv.1 = k then (kv.1, v) else kv)).map (·.1) = (dvs.map (fun kv => if kv.1 = k then (kv.1, x) else kv)).map (·.1) ∧ Rps K F ((kvs.map (fun kv => if kv.1 = k then (kv.1, v) else kv)).map (·.2)) ((dvs.map (fun kv => if kv.1 = k then (kv.1, x) else kv)).map (·.2))
  | [], [], _, _ => ⟨rfl, .nil⟩
  | [], _ :: _, e, _ => by cases e
  | _ :: _, [], e, _ => by cases e
  | (n, u) :: kvs, (m, d) :: dvs, e, rr => by
    obtain ⟨e1, e2⟩ := List.cons.inj e
    have e1 : n = m := e1
    subst e1
    cases rr with
    | cons r1 r2 =>
      obtain ⟨k1, k2⟩ := repl_rp (k := k) r e2 r2
      by_cases q : n = k
      · refine ⟨?_, ?_⟩
        · rw [List.map_cons, List.map_cons, List.map_cons, List.map_cons, k1, if_pos (show (n, u).1 = k from q), if_pos (show (n, d).1 = k from q)]
        · rw [List.map_cons, List.map_cons, List.map_cons, List.map_cons, if_pos (show (n, u).1 = k from q), if_pos (show (n, d).1 = k from q)]
          exact .cons r k2
      · refine ⟨?_, ?_⟩
        · rw [List.map_cons, List.map_cons, List.map_cons, List.map_cons, k1, if_neg (show ¬ (n, u).1 = k from q), if_neg (show ¬ (n, d).1 = k from q)]
        · rw [List.map_cons, List.map_cons, List.map_cons, List.map_cons, if_neg (show ¬ (n, u).1 = k from q), if_neg (show ¬ (n, d).1 = k from q)]
          exact .cons r1 k2
theorem putT_rp {k : κ} {v : V} {x : D} (r : Rp K F v x) {kvs : List (κ × V)} {dvs : List (κ × D)} (e : kvs.map (·.1) = dvs.map (·.1)) (rr : Rps K F (kvs.map (·.2)) (dvs.map (·.2))) :
    (putK kvs k v).map (·.1) = (putT dvs k x).map (·.1) ∧ Rps K F ((putK kvs k v).map (·.2)) ((putT dvs k x).map (·.2)) := by
  unfold putT
  rcases val_rp (k := k) e rr with ⟨h1, h2⟩ | ⟨y, u, h1, h2, _⟩
  · rw [h1, if_neg (by simp), putK_new v h2]
    refine ⟨by simp [e], ?_⟩
    rw [List.map_append, List.map_append]
    exact rr.append (.one r)
  · rw [h1, if_pos (by simp)]
    have : putK kvs k v = kvs.map (fun kv => if kv.1 = k then (kv.1, v) else kv) := by
      unfold putK
      rw [valV_any, h2]
      rfl
    rw [this]
    exact repl_rp r e rr
end
section
variable {X : Cx} {E : XK} {e a b c o : Expr} {es : List Expr} {pos p : Pos}
/-- {} for tuples -/
def tDnT : T3E := fun _ δ Q => Q (.own (.dT [])) δ
theorem e_dnewT : E3 X E (.Dict [] [] pos) tDnT :=
  ⟨fun F0 H0 B => pe_imp pe_dnewT fun σ H Q hh => ex4 hh fun δ F Z P L z w q => fun a ha => by
    obtain ⟨L2, k2⟩ := L.newO (ho := .dT []) ha (o := .dT []) ⟨[], upd_same, rfl, .nil⟩
    exact q _ δ _ _ _ w L2 (Same.refl _) k2⟩
/-- the dict that a name stands for -/
def Sl.dict : Sl → Option (List (List Key × D))
  | .d (.dT kvs) => some kvs
  | .own (.dT kvs) => some kvs
  | .bor (.dT kvs) => some kvs
  | _ => none
def gd (δ : List Sl) (i : Nat) : Option (List (List Key × D)) := match δ[i]? with
  | some s => s.dict
  | none => none
theorem Lk.gd {K : PySem.W.Frag} {F0 H0 F H : Hp} {B : Option Addr} {σ : St} {δ : List Sl} {i : Nat} {dvs : List (List Key × D)} (L : Lk K F0 H0 B σ δ F H) (l : gd δ i = some dvs) :
    ∃ a kvs, σ[i]? = some (some (.ref a)) ∧ H a = some (.dT kvs) ∧ kvs.map (·.1) = dvs.map (·.1) ∧ Rps K F (kvs.map (·.2)) (dvs.map (·.2)) := by
  unfold L3.gd at l
  cases e : δ[i]? with
  | none => rw [e] at l; cases l
  | some s =>
    rw [e] at l
    have q := L.sl i s e
    cases s with
    | un => cases l
    | d x =>
      cases x with
      | dT ys =>
        cases l
        obtain ⟨v, e1, r⟩ := q
        cases r with
        | dT hs ek rs => exact ⟨_, _, e1, L.fh _ _ hs, ek, rs⟩
      | _ => cases l
    | own o =>
      cases o with
      | dT ys =>
        cases l
        obtain ⟨a, e1, _, _, kvs, hh, ek, rs⟩ := q
        exact ⟨a, kvs, e1, hh, ek, rs⟩
      | _ => cases l
    | bor o =>
      cases o with
      | dT ys =>
        cases l
        obtain ⟨a, e1, _, _, kvs, hh, ek, rs⟩ := q
        exact ⟨a, kvs, e1, hh, ek, rs⟩
      | _ => cases l
/-- (..) in name, (..) not in name -/
def tDin (neg : Bool) (t : T3A) (i : Nat) : T3D := fun Z δ Q => t Z δ fun xs δ' => Few xs.length (match keysD xs, gd δ' i with
  | some ks, some dvs => Q (.bl (if neg then !(valD dvs ks).isSome else (valD dvs ks).isSome)) δ'
  | _, _ => False)
theorem isSome_rp {K : PySem.W.Frag} {F : Hp} {ks : List Key} {kvs : List (List Key × V)} {dvs : List (List Key × D)} (e : kvs.map (·.1) = dvs.map (·.1)) (r : Rps K F (kvs.map (·.2)) (dvs.map (·.2))) : (valV kvs ks).isSome = (valD dvs ks).isSome := by
  rcases val_rp (k := ks) e r with ⟨h1, h2⟩ | ⟨y, u, h1, h2, _⟩ <;> rw [h1, h2] <;> rfl
theorem lo_din {K : PySem.W.Frag} {F0 H0 : Hp} {B : Option Addr} {neg : Bool} {t : T3A} {i : Nat} {σ : St} {H : Hp} {Q : VK} (h : LD K E F0 H0 B (tDin neg t i) σ H Q) :
    tTup (LA K E F0 H0 B t) σ H fun y H1 => tVar i σ H1 fun x H2 => ∃ a o, x = .ref a ∧ DGet H2 a y o ∧ Q (.bl (if neg then !o.isSome else o.isSome)) H2 := by
  obtain ⟨δ, F, Z, P, L, z, w, q⟩ := h
  refine ⟨δ, F, Z, _, L, z, w, fun xs δ' vs F' H' p' L' s r => ?_⟩
  obtain ⟨n, p'⟩ := few p'
  refine ⟨by rw [r.len]; exact Nat.le_of_lt (line_big n), fun ad had => ?_⟩
  cases ek : keysD xs with
  | none => rw [ek] at p'; exact p'.elim
  | some ks =>
    rw [ek] at p'
    cases eg : L3.gd δ' i with
    | none => rw [eg] at p'; exact p'.elim
    | some dvs =>
      rw [eg] at p'
      obtain ⟨a, kvs, e1, hh, em, rs⟩ := L'.gd eg
      obtain ⟨L2, s2⟩ := L'.newD (ho := .tup vs) had
      have ev := keys_rp r ek
      refine ⟨_, e1, a, _, rfl, DGet.t (k := ks) (Fr.Same.new had _ _ hh) (by rw [ev]; exact upd_same), ?_⟩
      rw [isSome_rp em rs]
      exact q _ δ' _ _ _ p' L2 (s.trans s2) (.bl _)
structure Q3 (X : Cx) (E : XK) (op : CmpOp) (a b : Expr) (t : T3D) : Prop where
  h : ∀ F0 H0 B, PC X op a b (LD X.K E F0 H0 B t)
theorem pc_imp {op : CmpOp} {t t' : TE} (h : PC X op a b t) (i : ∀ σ H Q, t' σ H Q → t σ H Q) : PC X op a b t' := fun pins s σ H Q I w => h pins s σ H Q I (i _ _ _ w)
theorem c_pc {op : CmpOp} {t : T3D} (h : Q3 X E op a b t) (hm : behindInMarks op b = false) : C3 X E (.Compare a [op] [b] pos) (tB3 t) :=
  ⟨fun F0 H0 B => pt_imp (pt_cmp (h.h F0 H0 B) hm) fun σ H Q hh => ex4 hh fun δ F Z P L z w q => ⟨δ, F, Z, _, L, z, w, fun x δ' v F' H' p L' s r => by
    obtain ⟨c, rfl, k⟩ := bl_inv p
    exact ⟨c, r.inv_bl, q _ δ' F' H' k L' s⟩⟩⟩
theorem q_dnotin (i : Nat) {x : Str} {x1} {tp : Pos} {t : T3A} (hu : X.A.units + 1 < cLine) (h : A3 X E es t) (hN : X.N[i]? = some x := by rfl) (hv : Vis X.env.scope x := by first | exact Or.inl rfl | exact Or.inr (Or.inl rfl) | exact Or.inr (Or.inr rfl)) (hd : (x == ("__debug__" : Str)) = false := by decide)
    (hcd : (x == ("__classdict__" : Str)) = false := by decide) : Q3 X E .NotIn (.Tuple es x1 tp) (.Name x p) (tDin true t i) :=
  ⟨fun F0 H0 B => pc_imp (pc_dnotin hu (pe_tup (h.h F0 H0 B)) (pe_var hN hv hd hcd)) fun _ _ _ h => lo_din h⟩
/-- name[..] = e -/
def tDp (i : Nat) (t : T3A) (tv : T3D) : T3S := fun Z En δ => tv Z δ fun x δ1 => match go δ1 i with
  | some (.dT _) => t Z δ1 fun xs δ2 => Few xs.length (match keysD xs, go δ2 i with
    | some ks, some (.dT dvs) => dvs.length ≤ 1000000 ∧ En.nx (pt δ2 i (.dT (putT dvs ks x)))
    | _, _ => False)
  | _ => False
theorem s_dput (i : Nat) {x : Str} {x1} {tp tpos : Pos} {t : T3A} {tv : T3D} (hu : X.A.units + 1 < cLine) (h : A3 X E es t) (hv' : D3 X E e tv) (hN : X.N[i]? = some x := by rfl) (hv : Vis X.env.scope x := by first | exact Or.inl rfl | exact Or.inr (Or.inl rfl) | exact Or.inr (Or.inr rfl)) (hd : (x == ("__debug__" : Str)) = false := by decide)
    (hcd : (x == ("__classdict__" : Str)) = false := by decide) (hs : swapsWith e (some (.Subscript (.Name x p) (.Tuple es x1 tp) tpos)) pos.line X.env = pure false := by rfl) : S3 X E (.Assign [.Subscript (.Name x p) (.Tuple es x1 tp) tpos] e pos) (tDp i t tv) :=
  ⟨fun F0 H0 B => ps_imp (ps_dput hu (pe_var hN hv hd hcd) (pe_tup (h.h F0 H0 B)) (hv'.h F0 H0 B) hs) fun Dn σ H hh => ex4 hh fun δ F Z En L z w ok => ⟨δ, F, Z, _, L, z, w, fun y δ1 v F1 H1 p1 L1 s1 r1 => by
    cases e0 : L3.go δ1 i with
    | none => rw [e0] at p1; exact p1.elim
    | some ob =>
      rw [e0] at p1
      cases ob with
      | dT dvs0 =>
        obtain ⟨a, e1, f1, _, _⟩ := L1.go e0
        refine ⟨_, e1, δ1, F1, Z, _, L1, z, p1, fun xs δ2 vs F2 H2 p2 L2 s2 r2 => ?_⟩
        obtain ⟨n, p2⟩ := few p2
        refine ⟨by rw [r2.len]; exact Nat.le_of_lt (line_big n), fun ad had => ?_⟩
        obtain ⟨L4, s3⟩ := L2.newD (ho := .tup vs) had
        cases ek : keysD xs with
        | none => rw [ek] at p2; exact p2.elim
        | some ks =>
          rw [ek] at p2
          cases e2 : L3.go δ2 i with
          | none => rw [e2] at p2; exact p2.elim
          | some ob2 =>
            rw [e2] at p2
            cases ob2 with
            | dT dvs =>
              obtain ⟨a', e3, f3, ⟨kvs, h3, em, rs⟩, up⟩ := Lk.go L4 e2
              rw [e1] at e3
              cases e3
              obtain ⟨k1, k2⟩ := putT_rp (k := ks) (r1.same (s2.trans s3)) em rs
              have ev := keys_rp r2 ek
              have lk : kvs.length = dvs.length := by have := congrArg List.length em; simpa using this
              refine ⟨a, _, rfl, DPut.t (k := ks) h3 (by rw [← ev]; exact upd_same) (by rw [lk]; exact line_big p2.1), ?_⟩
              exact ok.nx _ _ _ _ p2.2 (up _ _ ⟨_, upd_same, k1, k2⟩) ((s1.trans s2).trans s3)
            | _ => exact p2.elim
      | _ => exact p1.elim⟩⟩
/-! ### raise -/
def tRs (C : Addr) (t : T3A) : T3S := fun Z _ δ => t Z δ fun xs δ' => Few xs.length (Z C δ')
end
section
variable {P : Program} {w : World} {K : PySem.W.Frag} {mg : Str → Option Value} {base : Heap} {N : List Str} {qual : Str} {scope : Scope} {f : Addr} {cd : Value} {A : Around} {outer : List Env} {s : Shared} {H : Hp} {E : XK} {x : Str} {C : Addr} {e₀ : Expr} {rest : List Expr} {ta : T3A}
theorem s_raise {np cpos pos : Pos} (hg : Gl (cxOf (Fr.CX1 P w) P w K mg base N qual scope f cd A outer s H E) x) (hm : mg x = some (.ref C)) (q : PySem.W.excIn K C Fr.bmVE "ValueError.__new__" = true) (ha : A3 (cxOf (Fr.CX1 P w) P w K mg base N qual scope f cd A outer s H E) E (e₀ :: rest) ta)
    (he : starEach (e₀ :: rest) (cxOf (Fr.CX1 P w) P w K mg base N qual scope f cd A outer s H E).env = (false, eval e₀ (cxOf (Fr.CX1 P w) P w K mg base N qual scope f cd A outer s H E).env) :: starEach rest (cxOf (Fr.CX1 P w) P w K mg base N qual scope f cd A outer s H E).env := by rfl)
    (hpl : (backTo cpos (starEach rest (cxOf (Fr.CX1 P w) P w K mg base N qual scope f cd A outer s H E).env)).any (·.1) = false := by rfl) (hdb : (x == ("__debug__" : Str)) = false := by decide) :
    S3 (cxOf (Fr.CX1 P w) P w K mg base N qual scope f cd A outer s H E) E (.Raise (some (.Call (.Name x np) (e₀ :: rest) [] cpos)) none pos) (tRs C ta) :=
  ⟨fun F0 H0 B => ps_imp (Fr.ps_raise hg hm q (ha.h F0 H0 B) he hpl hdb) fun Dn σ H1 hh => ex4 hh fun δ F Z En L z w ok => ⟨δ, F, Z, _, L, z, w, fun xs δ' vs F' H' p' L' s r => by
    obtain ⟨n, p'⟩ := few p'
    exact ⟨by rw [r.len]; exact Nat.le_of_lt (line_big n), z C σ δ' F' H' L' p'⟩⟩⟩
end
section
variable {X : Cx} {E : XK} {e a b c o : Expr} {es : List Expr} {pos p : Pos}
/-! ### xs.reverse(), xs.extend(e) -/
/-! ### all of a list of truths -/
end
end L3

set_option Elab.async false
set_option linter.all false
set_option maxRecDepth 100000
/-! From the hand layer's promises to those over data; the law's own. -/
namespace L3
open PySem PySem.Spec L2
section
variable {P : Program} {w : World} {K : PySem.W.Frag} {mg : Str → Option Value} {base : Heap} {k : Nat} {f : Addr} {fd : FuncData} {ps : List Str}
theorem cx1_of {sp : Sp} (F : FnOk P w K mg base CX0 k f fd ps sp) : FnOk P w K mg base (Fr.CX1 P w) k f fd ps sp :=
  ⟨F.len, fun A outer s H args us vs Q E hr he hb hv hs => codeAny_mono (F.run A outer s H args us vs Q E hr he hb hv hs) fun r s' h => by
    cases r with
    | error e => exact False.elim h
    | ok fl => cases fl <;> exact h⟩
theorem cx0_of {sp sp' : Sp} (F : FnOk P w K mg base (Fr.CX1 P w) k f fd ps sp) (h : ∀ vs H Q E, sp' vs H Q E → sp vs H Q E0) : FnOk P w K mg base CX0 k f fd ps sp' :=
  ⟨fun vs H Q E q => F.len vs H Q E0 (h _ _ _ _ q), fun A outer s H args us vs Q E hr he hb hv hs => codeAny_mono (F.run A outer s H args us vs Q E0 hr he hb hv (h _ _ _ _ hs)) fun r s' q => by
    cases r with
    | error e =>
      obtain ⟨x, C, H', _, _, _, _, _, _, z⟩ := q
      exact z
    | ok fl => cases fl <;> exact q⟩
/-- what a law is handed and what it gives -/
def spLaw (K : PySem.W.Frag) : Sp := fun vs H Q _ => ∃ (a : Addr) (ns : List Int), vs = [.ref a] ∧ SqL K H a (ns.map V.int) ∧ ns.length ≤ 63 ∧ Tb K H ∧ ∀ H', Tb K H' → Q (.bl true) H'
def sp3Law : Sp3 := fun δ Q _ => match δ with
  | [.d (.scr ns)] => ns.length ≤ 63 ∧ ∀ ob, Q (.d (.bl true)) ob
  | _ => False
end
theorem law_of {P : Program} {w : World} {K : PySem.W.Frag} {mg : Str → Option Value} {base : Heap} {k : Nat} {f : Addr} {fd : FuncData} {ps : List Str} {sp : Sp3} (F : FnOk P w K mg base (Fr.CX1 P w) k f fd ps (lsp K sp))
    (h : ∀ ns : List Int, ns.length ≤ 63 → ∀ Q : Rv → Option Ob → Prop, (∀ ob, Q (.d (.bl true)) ob) → sp [.d (.scr ns)] Q (fun _ _ => False)) : FnOk P w K mg base CX0 k f fd ps (spLaw K) := by
  refine cx0_of F fun vs H Q E ⟨a, ns, e, sq, len, tb, q⟩ => ?_
  subst e
  refine ⟨H, none, _, fun r _ => r = .d (.bl true), fun _ _ => False, Lk.args tb (Same.refl _) (.one (.scr sq)), h ns len _ (fun _ => rfl), fun r ob v F' H' e f k => ?_, fun _ _ _ _ z => z.elim⟩
  subst e
  cases k
  exact q H' (tb.same (f.f0.trans f.fh))
end L3
namespace L3
open PySem PySem.Spec L2
/-! ### attributes as targets; lent promises -/
section
variable {X : Cx} {E : XK} {e a b c o : Expr} {es : List Expr} {pos p : Pos}
def gFd (C : Addr) (f : Str) (i : Nat) : T3G := fun x δ Q => match go δ i with
  | some (.ins C' fs) => C' = C ∧ fs.length < 100 ∧ Q (pt δ i (.ins C' (putD f x fs)))
  | _ => False
theorem g_fld (i : Nat) {C : Addr} {f x : Str} {pos' : Pos} (c : Cls X.K C) (n : NoAttr X.K C f) (hN : X.N[i]? = some x := by rfl) (hv : Vis X.env.scope x := by first | exact Or.inl rfl | exact Or.inr (Or.inl rfl) | exact Or.inr (Or.inr rfl)) (hd : (x == ("__debug__" : Str)) = false := by decide)
    (hcd : (x == ("__classdict__" : Str)) = false := by decide) : G3 X (.Attribute (.Name x p) f pos') (gFd C f i) :=
  ⟨fun F0 H0 B => by
    intro pins s σ H v u Q I r ⟨δ, F, y, P, L, ry, w, q⟩
    unfold gFd at w
    cases e0 : L3.go δ i with
    | none => rw [e0] at w; exact w.elim
    | some ob =>
      rw [e0] at w
      cases ob with
      | ins C' fs =>
        obtain ⟨rfl, hl, w⟩ := w
        obtain ⟨a, e1, f1, ⟨dx, vs, hh, ek, rs⟩, up⟩ := L.go e0
        obtain ⟨k1, k2⟩ := put_rp (f := f) ry ek rs
        have lv : vs.length = fs.length := by have := congrArg List.length ek; simpa using this
        rw [PySem.assign_Attribute]
        refine wpAny_bind (wpAny_holding (thn (pe_var (pos := p) hN hv hd hcd pins s σ H (fun x H1 => x = .ref a ∧ H1 = H) I ⟨_, e1, rfl, rfl⟩) fun ov s1 ⟨x1, H1, I1, rx, ex, eH⟩ => ?_))
        subst ex eH
        obtain rfl : ov = Value.ref a := rx
        refine wpAny_bind (wpAny_standAt (wpAny_bind (wpAny_holding (setattr_ok I1 hh c n (by omega) r fun s2 I2 => ?_))))
        exact wpAny_release ⟨σ, _, I2, q _ _ F _ w (up _ _ ⟨dx, _, upd_same, k1, k2⟩) (Same.refl _)⟩
      | _ => exact w.elim⟩
end
/-- the purse, the draws -/
def sp3Purse : Sp3 := fun δ Q _ => match δ with
  | [.d (.scr _), .d (.int k)] => (0 ≤ k ∧ k < 2 ^ 60) ∧ Q (.own .pu) none
  | _ => False
def sp3Take : Sp3 := fun δ Q _ => match δ with
  | [.bor .pu, .d (.int m)] => (0 < m ∧ m < 2 ^ 250) ∧ ∀ d : Int, 0 ≤ d → d < m → Q (.d (.int d)) (some .pu)
  | _ => False
theorem Lk.two {K : PySem.W.Frag} {F H : Hp} {B : Option Addr} {vs : List V} {s1 s2 : Sl} (L : Lk K F H B (vs.map some) [s1, s2] F H) : ∃ v1 v2, vs = [v1, v2] := by
  have := L.len
  rw [List.length_map] at this
  match vs, this with
  | [v1, v2], _ => exact ⟨v1, v2, rfl⟩
end L3
namespace L3
open PySem PySem.Spec L2
structure Bt (mg : Str → Option Value) : Prop extends Fr.Bi mg where
  enumerate : mg "enumerate" = none
  sum : mg "sum" = none
  sorted : mg "sorted" = none
  any : mg "any" = none
  dict : mg "dict" = none
  reversed : mg "reversed" = none
theorem units1 {A : Around} {k : Nat} (hr : Room k A) : A.units + 1 < cLine := hu_of hr
end L3
namespace L3
/-! how a loop is read -/
theorem forL_inv {g : T3G} {tb : T3S} {Z : Zk} {En : En} (I : Nat → List Sl → Prop) : ∀ {xs : List D} {δ : List Sl}, I 0 δ →
    (∀ (i : Nat) (x : D) (δ : List Sl) (N : List Sl → Prop), xs[i]? = some x → I i δ → (∀ δ', I (i + 1) δ' → N δ') → g x δ fun δ1 => tb Z { nx := N, ct := N, bk := En.nx, rt := En.rt } δ1) →
    (∀ δ, I xs.length δ → En.nx δ) → forL g tb Z En xs δ := by
  intro xs δ h0 step done
  have key : ∀ (m i : Nat) (δ : List Sl), m = xs.length - i → i ≤ xs.length → I i δ → forL g tb Z En (xs.drop i) δ := by
    intro m
    induction m with
    | zero =>
      intro i δ hm hi hI
      have : i = xs.length := by omega
      subst this
      rw [List.drop_length]
      exact done δ hI
    | succ m ih =>
      intro i δ hm hi hI
      have lt : i < xs.length := by omega
      rw [List.drop_eq_getElem_cons lt]
      exact step i _ δ _ (List.getElem?_eq_getElem lt) hI fun δ' h' => ih (i + 1) δ' (by omega) lt h'
  have := key xs.length 0 δ (by simp) (Nat.zero_le _) h0
  rwa [List.drop_zero] at this
theorem forL_range {g : T3G} {tb : T3S} {Z : Zk} {En : En} (I : Nat → List Sl → Prop) {lo : Int} {n : Nat} {δ : List Sl} (h0 : I 0 δ)
    (step : ∀ (i : Nat) (δ : List Sl) (N : List Sl → Prop), i < n → I i δ → (∀ δ', I (i + 1) δ' → N δ') → g (.int (lo + (i : Int))) δ fun δ1 => tb Z { nx := N, ct := N, bk := En.nx, rt := En.rt } δ1)
    (done : ∀ δ, I n δ → En.nx δ) : forL g tb Z En (rngD lo n) δ := by
  refine forL_inv I h0 (fun i x δ N hx hI hN => ?_) (by rw [rngD_len]; exact done)
  have lt : i < n := by
    have := (List.getElem?_eq_some_iff.mp hx).1
    rwa [rngD_len] at this
  rw [rngD_at lt] at hx
  cases hx
  exact step i δ N lt hI hN
theorem fitN {a : Nat} (h : a < 2 ^ 64) : Fit (a : Int) := by
  show (a : Int).natAbs < 2 ^ 65536
  rw [Int.natAbs_natCast]
  exact Nat.lt_of_lt_of_le h (Nat.pow_le_pow_right (by decide) (by decide))
theorem fitI {a : Int} (h : a.natAbs < 2 ^ 64) : Fit a := Nat.lt_of_lt_of_le h (Nat.pow_le_pow_right (by decide) (by decide))
end L3
namespace L3
open PySem PySem.Spec L2
theorem d_globI {X : Cx} {E : XK} {pos : Pos} {x : Str} {i : Int} {t : Tok} (hg : Gl X x) (hm : X.mg x = some (.int i t)) (hd : (x == ("__debug__" : Str)) = false := by decide) : D3 X E (.Name x pos) (tK (.int i)) :=
  d_glob (v := .int i) hg hm ⟨t, rfl⟩ (fun _ => .int i) hd
end L3

set_option Elab.async false
set_option linter.all false
set_option maxRecDepth 100000
/-! Looks at what is owned, without making it data. -/
namespace L3
open PySem PySem.Spec L2
def Sl.pk : Sl → Option D
  | .d x => some x
  | .own o => o.frz
  | .bor o => o.frz
  | .un => none
def pk (δ : List Sl) (i : Nat) : Option D := match δ[i]? with
  | some s => s.pk
  | none => none
theorem OwnOk.frz' {K : PySem.W.Frag} {F Fp H : Hp} {a : Addr} {o : Ob} {x : D} (h : OwnOk K F H a o) (e : o.frz = some x) (s1 : Same F Fp) (s2 : Same Fp H) : ∃ Fq, Same Fp Fq ∧ Same Fq H ∧ Rp K Fq (.ref a) x := by
  obtain ⟨ho, eh⟩ := h.there
  have sU : Same Fp (upd Fp a ho) := fun b u e => by
    by_cases q : b = a
    · subst q; rw [upd_same]; rw [s2 _ _ e] at eh; exact eh.symm
    · rw [upd_ne q]; exact e
  have sH : Same (upd Fp a ho) H := fun b u e => by
    by_cases q : b = a
    · subst q; rw [upd_same] at e; rw [eh]; exact e
    · rw [upd_ne q] at e; exact s2 _ _ e
  refine ⟨upd Fp a ho, sU, sH, ?_⟩
  have s := s1.trans sU
  cases o with
  | lst xs => obtain ⟨vs, e1, r⟩ := h; cases e; rw [eh] at e1; cases e1; exact .lst upd_same (r.same s)
  | dT kvs => obtain ⟨vs, e1, k, r⟩ := h; cases e; rw [eh] at e1; cases e1; exact .dT upd_same k (r.same s)
  | dK kvs => obtain ⟨vs, e1, k, r⟩ := h; cases e; rw [eh] at e1; cases e1; exact .dK upd_same k (r.same s)
  | ins C fs => obtain ⟨dx, vs, e1, k, r⟩ := h; cases e; rw [eh] at e1; cases e1; exact .obj upd_same k (r.same s)
  | pu => cases e
theorem Lk.pk {K : PySem.W.Frag} {F0 H0 F H Fp : Hp} {B : Option Addr} {σ : St} {δ : List Sl} {i : Nat} {x : D} (L : Lk K F0 H0 B σ δ F H) (s1 : Same F Fp) (s2 : Same Fp H) (e : pk δ i = some x) : ∃ v Fq, σ[i]? = some (some v) ∧ Same Fp Fq ∧ Same Fq H ∧ Rp K Fq v x := by
  unfold L3.pk at e
  cases q : δ[i]? with
  | none => rw [q] at e; cases e
  | some s =>
    rw [q] at e
    have z := L.sl i s q
    cases s with
    | un => cases e
    | d y => cases e; obtain ⟨v, e1, r⟩ := z; exact ⟨v, Fp, e1, Same.refl _, s2, r.same s1⟩
    | own o =>
      obtain ⟨a, e1, _, _, w⟩ := z
      obtain ⟨Fq, a1, a2, a3⟩ := w.frz' e s1 s2
      exact ⟨_, Fq, e1, a1, a2, a3⟩
    | bor o =>
      obtain ⟨a, e1, _, _, w⟩ := z
      obtain ⟨Fq, a1, a2, a3⟩ := w.frz' e s1 s2
      exact ⟨_, Fq, e1, a1, a2, a3⟩
/-- a list of names as arguments -/
def tVars (is : List Nat) : TA := fun σ H Q => ∃ vs, Paired (fun i v => σ[i]? = some (some v)) is vs ∧ Q vs H
section
variable {X : Cx} {E : XK} {e a b c o : Expr} {es : List Expr} {pos p : Pos}
structure V3 (X : Cx) (es : List Expr) (is : List Nat) : Prop where
  h : PA X es (tVars is)
/-- a built-in function of one name and a type: isinstance(name, T) -/
def tIsN (i : Nat) (T : String) : T3D := fun Z δ Q => match pk δ i with
  | some x => rIsi [x, .ty T] fun z => (match z with
    | .bl k => Q (.bl k) δ
    | _ => False)
  | none => False
theorem d_isiN (i : Nat) {x y : Str} {T : String} {p1 p2 : Pos} (hg : Gl X "isinstance") (hm : X.mg "isinstance" = none) (hgT : Gl X y) (hmT : X.mg y = none) (hvT : bootBuiltins y = some (.type T))
    (hN : X.N[i]? = some x := by rfl) (hv : Vis X.env.scope x := by first | exact Or.inl rfl | exact Or.inr (Or.inl rfl) | exact Or.inr (Or.inr rfl)) (hd : (x == ("__debug__" : Str)) = false := by decide) (hcd : (x == ("__classdict__" : Str)) = false := by decide)
    (hnT : y ≠ "__name__" := by decide) (hdT : (y == ("__debug__" : Str)) = false := by decide) : D3 X E (.Call (.Name "isinstance" p) [.Name x p1, .Name y p2] [] pos) (tIsN i T) :=
  ⟨fun F0 H0 B => pe_imp (pe_callB call_isiT hg hm PyProof.Rows.boot_isinstance (pa_cons (pe_var hN hv hd hcd) (pa_cons (Fr.pe_ty hgT hmT hvT hnT hdT) pa_nil Fr.star_name) Fr.star_name)) fun σ H Q hh => ex4 hh fun δ F Z P L z w q => by
    unfold tIsN at w
    cases e1 : L3.pk δ i with
    | none => rw [e1] at w; exact w.elim
    | some x =>
      rw [e1] at w
      obtain ⟨v, Fq, s1, a1, a2, a3⟩ := L.pk (Same.refl _) L.fh e1
      refine ⟨v, s1, cr_isi Fq H [x, .ty T] [v, .ty T] Q _ a2 (.cons a3 (.cons (.ty T) .nil)) w fun zz ww pz rz => ?_⟩
      cases rz with
      | bl k => exact q _ δ _ F H pz L (Same.refl _) (.bl k)
      | _ => exact pz.elim⟩
end
end L3
namespace L3
open PySem
theorem turns_in (lo hi : Int) (n : Nat) (h0 : 0 ≤ lo) (h1 : lo ≤ hi) (h2 : hi ≤ 63) : InR ((fun i j : Int => if j > i then j else i) lo ((fun i j : Int => if j < i then j else i) (n : Int) hi)) ∧ ((fun i j : Int => if j > i then j else i) lo ((fun i j : Int => if j < i then j else i) (n : Int) hi)).toNat ≤ 63 := by
  unfold InR
  dsimp only
  by_cases c : hi < (n : Int)
  · simp only [if_pos c]
    split <;> omega
  · simp only [if_neg c]
    split <;> omega
theorem eqv_refl {x : D} (h : CanEq x) : PyData.eqv x.py x.py = true := SeqAt.eqv_refl x.py h.1
theorem lay_pair (i j : Int) : (D.tup [.int i, .int j]).py.canLay0 = true ∧ (D.tup [.int i, .int j]).py.depth ≤ 1 := by
  refine ⟨rfl, ?_⟩
  show PyData.depth (.tuple [.int i, .int j]) ≤ 1
  simp [PyData.depth, PyData.depthAll]
theorem canEq_pair (i j : Int) : CanEq (.tup [.int i, .int j]) := ⟨(lay_pair i j).1, Nat.le_trans (lay_pair i j).2 (by decide)⟩
end L3
namespace L3
open PySem L2
theorem MtOk.mono {P : Program} {w : World} {K : PySem.W.Frag} {mg : Str → Option Value} {base : Heap} {j k : Nat} {C : Addr} {m : Str} {ps : List Str} {sp : Sp3} (O : MtOk P w K mg base j C m ps sp) (h : j ≤ k) : MtOk P w K mg base k C m ps sp := by
  obtain ⟨c, f, fd, a, b, d⟩ := O
  exact ⟨c, f, fd, a.mono h, b, d⟩
theorem MkOk.mono {P : Program} {w : World} {K : PySem.W.Frag} {mg : Str → Option Value} {base : Heap} {j k : Nat} {x : Str} {C : Addr} {ps : List Str} {sp : Sp3} (O : MkOk P w K mg base j x C ps sp) (h : j ≤ k) : MkOk P w K mg base k x C ps sp := by
  obtain ⟨⟨f, fd, a, b, d⟩, m⟩ := O
  exact ⟨⟨f, fd, a.mono h, b, d⟩, m⟩
end L3

set_option Elab.async false
set_option linter.all false
set_option maxRecDepth 100000
set_option maxHeartbeats 8000000
/-! further built-ins over data -/
namespace Fr
open PySem PySem.Spec L2
open PyProof.Rows hiding St
open Sem (wp)
section
variable {X : Cx}
end
end Fr
namespace L3
open PySem L2
section
end
section
variable {X : Cx} {E : XK} {e a b c o : Expr} {es : List Expr} {pos : Pos}
def tDm (t : T3A) : T3D := fun Z δ Q => t Z δ fun xs δ' => match xs with
  | [.int i, .int j] => DivM i j ∧ Q (.tup [.int (i / j), .int (i % j)]) δ'
  | _ => False
theorem d_divmod {x : Str} {p : Pos} {t : T3A} (hg : Gl X x) (hm : X.mg x = none) (hv : bootBuiltins x = some (.builtin "divmod")) (ha : A3 X E (e :: es) t) (hn : x ≠ "__name__" := by decide) (hdb : (x == ("__debug__" : Str)) = false := by decide)
    (he : starEach (e :: es) X.env = (false, eval e X.env) :: starEach es X.env := by rfl) (hpl : (backTo pos (starEach es X.env)).any (·.1) = false := by rfl) : D3 X E (.Call (.Name x p) (e :: es) [] pos) (tDm t) :=
  ⟨fun F0 H0 B => pe_imp (pe_callB Fr.call_divmodB hg hm hv (ha.h F0 H0 B) hn hdb he hpl) fun σ H Q hh => ex4 hh fun δ F Z P L z w q => ⟨δ, F, Z, _, L, z, w, fun xs δ' vs F' H' p L' s r => by
    obtain ⟨i, j, rfl, hc, pk⟩ := m2I p
    obtain ⟨v, u, rfl, r1, r2⟩ := r.inv2
    obtain rfl := r1.inv_int
    obtain rfl := r2.inv_int
    refine ⟨i, j, rfl, hc, fun a ha => ?_⟩
    obtain ⟨L2, s2⟩ := L'.newD (ho := .tup [.int (i / j), .int (i % j)]) ha
    exact q _ δ' _ _ _ pk L2 (s.trans s2) (.tup (SqT.of upd_same) (.cons (.int _) (.cons (.int _) .nil)))⟩⟩
end
end L3

set_option Elab.async false
set_option linter.all false
set_option maxRecDepth 100000
/-! Helps for reading: cuts, what == tells. -/
namespace L3
open PySem PySem.Spec L2
mutual
/-- whole numbers, texts, tuples and lists of them -/
def plain : D → Bool
  | .int _ => true
  | .str _ => true
  | .tup xs => plains xs
  | .lst xs => plains xs
  | _ => false
def plains : List D → Bool
  | [] => true
  | x :: xs => plain x && plains xs
end
mutual
theorem eqv_plain : ∀ (x y : D), plain x = true → plain y = true → (PyData.eqv x.py y.py = true ↔ x = y)
  | .int i, .int j, _, _ => by simp [D.py, PyData.eqv]
  | .str i, .str j, _, _ => by simp [D.py, PyData.eqv]
  | .tup xs, .tup ys, h1, h2 => by
    have := eqv_plains xs ys (by simpa [plain] using h1) (by simpa [plain] using h2)
    simp [D.py, PyData.eqv, this]
  | .lst xs, .lst ys, h1, h2 => by
    have := eqv_plains xs ys (by simpa [plain] using h1) (by simpa [plain] using h2)
    simp [D.py, PyData.eqv, this]
  | .int i, .str j, _, _ => by simp [D.py, PyData.eqv]
  | .int i, .tup j, _, _ => by simp [D.py, PyData.eqv]
  | .int i, .lst j, _, _ => by simp [D.py, PyData.eqv]
  | .str i, .int j, _, _ => by simp [D.py, PyData.eqv]
  | .str i, .tup j, _, _ => by simp [D.py, PyData.eqv]
  | .str i, .lst j, _, _ => by simp [D.py, PyData.eqv]
  | .tup i, .int j, _, _ => by simp [D.py, PyData.eqv]
  | .tup i, .str j, _, _ => by simp [D.py, PyData.eqv]
  | .tup i, .lst j, _, _ => by simp [D.py, PyData.eqv]
  | .lst i, .int j, _, _ => by simp [D.py, PyData.eqv]
  | .lst i, .str j, _, _ => by simp [D.py, PyData.eqv]
  | .lst i, .tup j, _, _ => by simp [D.py, PyData.eqv]
  | .non, _, h, _ => by simp [plain] at h
  | .bl _, _, h, _ => by simp [plain] at h
  | .ty _, _, h, _ => by simp [plain] at h
  | .adr _, _, h, _ => by simp [plain] at h
  | .dT _, _, h, _ => by simp [plain] at h
  | .dK _, _, h, _ => by simp [plain] at h
  | .obj _ _, _, h, _ => by simp [plain] at h
  | .scr _, _, h, _ => by simp [plain] at h
  | .exc _, _, h, _ => by simp [plain] at h
  | _, .non, _, h => by simp [plain] at h
  | _, .bl _, _, h => by simp [plain] at h
  | _, .ty _, _, h => by simp [plain] at h
  | _, .adr _, _, h => by simp [plain] at h
  | _, .dT _, _, h => by simp [plain] at h
  | _, .dK _, _, h => by simp [plain] at h
  | _, .obj _ _, _, h => by simp [plain] at h
  | _, .scr _, _, h => by simp [plain] at h
  | _, .exc _, _, h => by simp [plain] at h
theorem eqv_plains : ∀ (xs ys : List D), plains xs = true → plains ys = true → (PyData.eqvAll (D.pys xs) (D.pys ys) = true ↔ xs = ys)
  | [], [], _, _ => by simp [D.pys, PyData.eqvAll]
  | [], _ :: _, _, _ => by simp [D.pys, PyData.eqvAll]
  | _ :: _, [], _, _ => by simp [D.pys, PyData.eqvAll]
  | x :: xs, y :: ys, h1, h2 => by
    have h1' : plain x = true ∧ plains xs = true := by simpa [plains] using h1
    have h2' : plain y = true ∧ plains ys = true := by simpa [plains] using h2
    simp [D.pys, PyData.eqvAll, eqv_plain x y h1'.1 h2'.1, eqv_plains xs ys h1'.2 h2'.2]
end
theorem plain_pair (a b : Int) : plain (.tup [.int a, .int b]) = true := by simp [plain, plains]
theorem eqv_pairs {a b c d : Int} : PyData.eqv (D.tup [.int a, .int b]).py (D.tup [.int c, .int d]).py = (decide (a = c) && decide (b = d)) := by
  rw [Bool.eq_iff_iff, eqv_plain _ _ (plain_pair a b) (plain_pair c d)]
  simp
end L3

set_option Elab.async false
set_option linter.all false
/-! what the slots at a call are, told by a promise -/
namespace L3
open PySem
theorem iv_d {δ : List Sl} {P : D → Prop} (h : match δ with
  | [.d x0] => P x0
  | _ => False) : ∃ x0, δ = [.d x0] ∧ P x0 := by
  split at h
  · exact ⟨_, rfl, h⟩
  · exact h.elim
theorem ln_d {δ : List Sl} {P : D → Prop} (h : match δ with
  | [.d x0] => P x0
  | _ => False) : δ.length = 1 := by
  obtain ⟨x0, rfl, _⟩ := iv_d h
  rfl
theorem iv_i {δ : List Sl} {P : Int → Prop} (h : match δ with
  | [.d (.int x0)] => P x0
  | _ => False) : ∃ x0, δ = [.d (.int x0)] ∧ P x0 := by
  split at h
  · exact ⟨_, rfl, h⟩
  · exact h.elim
theorem ln_i {δ : List Sl} {P : Int → Prop} (h : match δ with
  | [.d (.int x0)] => P x0
  | _ => False) : δ.length = 1 := by
  obtain ⟨x0, rfl, _⟩ := iv_i h
  rfl
theorem iv_p {δ : List Sl} {P : Prop} (h : match δ with
  | [.bor .pu] => P
  | _ => False) : δ = [.bor .pu] ∧ P := by
  split at h
  · exact ⟨rfl, h⟩
  · exact h.elim
theorem ln_p {δ : List Sl} {P : Prop} (h : match δ with
  | [.bor .pu] => P
  | _ => False) : δ.length = 1 := by
  obtain ⟨rfl, _⟩ := iv_p h
  rfl
theorem iv_s {δ : List Sl} {P : List Int → Prop} (h : match δ with
  | [.d (.scr x0)] => P x0
  | _ => False) : ∃ x0, δ = [.d (.scr x0)] ∧ P x0 := by
  split at h
  · exact ⟨_, rfl, h⟩
  · exact h.elim
theorem ln_s {δ : List Sl} {P : List Int → Prop} (h : match δ with
  | [.d (.scr x0)] => P x0
  | _ => False) : δ.length = 1 := by
  obtain ⟨x0, rfl, _⟩ := iv_s h
  rfl
theorem iv_dd {δ : List Sl} {P : D → D → Prop} (h : match δ with
  | [.d x0, .d x1] => P x0 x1
  | _ => False) : ∃ x0 x1, δ = [.d x0, .d x1] ∧ P x0 x1 := by
  split at h
  · exact ⟨_, _, rfl, h⟩
  · exact h.elim
theorem ln_dd {δ : List Sl} {P : D → D → Prop} (h : match δ with
  | [.d x0, .d x1] => P x0 x1
  | _ => False) : δ.length = 2 := by
  obtain ⟨x0, x1, rfl, _⟩ := iv_dd h
  rfl
theorem iv_id {δ : List Sl} {P : Int → D → Prop} (h : match δ with
  | [.d (.int x0), .d x1] => P x0 x1
  | _ => False) : ∃ x0 x1, δ = [.d (.int x0), .d x1] ∧ P x0 x1 := by
  split at h
  · exact ⟨_, _, rfl, h⟩
  · exact h.elim
theorem ln_id {δ : List Sl} {P : Int → D → Prop} (h : match δ with
  | [.d (.int x0), .d x1] => P x0 x1
  | _ => False) : δ.length = 2 := by
  obtain ⟨x0, x1, rfl, _⟩ := iv_id h
  rfl
theorem iv_ii {δ : List Sl} {P : Int → Int → Prop} (h : match δ with
  | [.d (.int x0), .d (.int x1)] => P x0 x1
  | _ => False) : ∃ x0 x1, δ = [.d (.int x0), .d (.int x1)] ∧ P x0 x1 := by
  split at h
  · exact ⟨_, _, rfl, h⟩
  · exact h.elim
theorem ln_ii {δ : List Sl} {P : Int → Int → Prop} (h : match δ with
  | [.d (.int x0), .d (.int x1)] => P x0 x1
  | _ => False) : δ.length = 2 := by
  obtain ⟨x0, x1, rfl, _⟩ := iv_ii h
  rfl
theorem iv_pi {δ : List Sl} {P : Int → Prop} (h : match δ with
  | [.bor .pu, .d (.int x1)] => P x1
  | _ => False) : ∃ x1, δ = [.bor .pu, .d (.int x1)] ∧ P x1 := by
  split at h
  · exact ⟨_, rfl, h⟩
  · exact h.elim
theorem ln_pi {δ : List Sl} {P : Int → Prop} (h : match δ with
  | [.bor .pu, .d (.int x1)] => P x1
  | _ => False) : δ.length = 2 := by
  obtain ⟨x1, rfl, _⟩ := iv_pi h
  rfl
theorem iv_si {δ : List Sl} {P : List Int → Int → Prop} (h : match δ with
  | [.d (.scr x0), .d (.int x1)] => P x0 x1
  | _ => False) : ∃ x0 x1, δ = [.d (.scr x0), .d (.int x1)] ∧ P x0 x1 := by
  split at h
  · exact ⟨_, _, rfl, h⟩
  · exact h.elim
theorem iv_ddd {δ : List Sl} {P : D → D → D → Prop} (h : match δ with
  | [.d x0, .d x1, .d x2] => P x0 x1 x2
  | _ => False) : ∃ x0 x1 x2, δ = [.d x0, .d x1, .d x2] ∧ P x0 x1 x2 := by
  split at h
  · exact ⟨_, _, _, rfl, h⟩
  · exact h.elim
theorem ln_ddd {δ : List Sl} {P : D → D → D → Prop} (h : match δ with
  | [.d x0, .d x1, .d x2] => P x0 x1 x2
  | _ => False) : δ.length = 3 := by
  obtain ⟨x0, x1, x2, rfl, _⟩ := iv_ddd h
  rfl
theorem us_1 {us : List Value} (h : us.length = 1) : ∃ a0, us = [a0] := by
  match us, h with
  | [a0], _ => exact ⟨a0, rfl⟩
theorem us_2 {us : List Value} (h : us.length = 2) : ∃ a0 a1, us = [a0, a1] := by
  match us, h with
  | [a0, a1], _ => exact ⟨a0, a1, rfl⟩
theorem us_3 {us : List Value} (h : us.length = 3) : ∃ a0 a1 a2, us = [a0, a1, a2] := by
  match us, h with
  | [a0, a1, a2], _ => exact ⟨a0, a1, a2, rfl⟩
end L3

set_option Elab.async false
set_option linter.all false
set_option maxRecDepth 100000
set_option maxHeartbeats 8000000
/-! sum of a list of numbers -/
namespace Fr
open PySem PySem.Spec L2
open PyProof.Rows hiding St
open Sem (wp)
section
variable {X : Cx}
end
end Fr
namespace L3
open PySem L2
section
end
end L3

set_option Elab.async false
set_option linter.all false
set_option maxRecDepth 100000
set_option maxHeartbeats 4000000
/-! try over any expression; behind the except suite all names but the clause's stay. -/
namespace Fr
open PySem PySem.Spec L2
open PyProof.Rows hiding St
section
variable {X : Cx} {pins : List (Addr × Obj)} {σ : St} {H : Hp} {s : Shared}
theorem inv_gone {h' : Heap} {m : Str → Option Value} {v : Option Value} {n : Str} {i : Nat} {tk : Nat} (I : Inv X pins σ H s) (hN : X.N.Nodup) (hi : X.N[i]? = some n) (hm : s.heap.Ns X.env.locals m)
    (hl : ∀ (i : Nat) (x : Str) (v : V), X.N[i]? = some x → σ[i]? = some (some v) → Vis X.env.scope x → ∃ u, RelV v u ∧ Look X.env s.heap m x u)
    (hn : h'.Ns X.env.locals (fun x => if x = n then v else m x)) (hs : Heap.SameBut X.env.locals s.heap h') : Inv X pins (σ.set i none) H { s with heap := h', toks := tk } := by
  have k : ∀ b o, b ≠ X.env.locals → s.heap.get? b = some o → h'.get? b = some o := fun b o n e => (hs.2 b n).trans e
  have neL : ∀ b o, X.s₀.heap.get? b = some o → b ≠ X.env.locals := fun b o e => Nat.ne_of_lt (Nat.lt_of_lt_of_le (Heap.lt_size e) I.ok.above)
  refine ⟨I.ok, I.os, I.bare, ⟨fun b o e n hb hx => k b o (neL b o e) (I.base.keep b o e n hb hx), fun b o e n hb hx => ?_, I.base.free, fun b o e hx => ?_, I.base.tups, I.base.frzs, I.base.tbls⟩, ⟨_, hn, fun j x u hj e hv => ?_⟩, fun x c e => ?_, I.free, I.freeC, fun p hp => ?_, ?_, ?_⟩
  · obtain ⟨sl, e1⟩ := I.base.slot b o e n hb hx
    exact ⟨sl, k b _ (neL b o e) e1⟩
  · obtain ⟨o', e1⟩ := I.base.there b o e hx
    exact ⟨o', k b _ (neL b o e) e1⟩
  · have ne : i ≠ j := by
      rintro rfl
      rw [List.getElem?_set] at e
      simp only [if_true] at e
      split at e <;> cases e
    rw [List.getElem?_set_ne ne] at e
    obtain ⟨w, r, lk⟩ := hl j x u hj e hv
    have nx : x ≠ n := by
      rintro rfl
      obtain ⟨h1, e1⟩ := List.getElem?_eq_some_iff.mp hi
      obtain ⟨h2, e2⟩ := List.getElem?_eq_some_iff.mp hj
      exact ne ((List.getElem_inj hN).mp (e1.trans e2.symm))
    refine ⟨w, r, ?_⟩
    rcases lk with ⟨kd, e⟩ | ⟨kd, c, ec, o, ho, hd⟩
    · exact .inl ⟨kd, by show (if x = n then v else m x) = some w; rw [if_neg nx]; exact e⟩
    · exact .inr ⟨kd, c, ec, _, k c o (I.cne x c ec) ho, hd⟩
  · obtain ⟨v, o, ho, hd⟩ := I.cell x c e
    exact ⟨v, o, k c o (I.cne x c e) ho, hd⟩
  · obtain ⟨e, n, ne, nf, d⟩ := I.pin p hp
    exact ⟨k p.1 p.2 ne e, n, ne, nf, d⟩
  · exact hok_keeps I.hok fun b u hb e => k b u (fun z => hb (by rw [z]; exact I.free)) e
  · rw [List.length_set]; exact I.len
end

def endsG (i : Nat) (Dn : Ends) : Ends := { nx := fun σ' H' => Dn.nx (σ'.set i none) H', rt := Dn.rt, bk := fun σ' H' => Dn.bk (σ'.set i none) H', ct := fun σ' H' => Dn.ct (σ'.set i none) H' }
def XT2 (X : Cx) (i : Nat) (D : Addr) (ts : Addr → TS) (Dn : Ends) (σ : St) : XK := fun c _ H2 => ∃ C, c = .ref C ∧ PySem.W.mroIn X.K C (.ref D) = some true ∧ ∀ z, H2 z = none → ts z (endsG i Dn) (σ.set i (some (.ref z))) (upd H2 z (ExcO z C))
section
variable {X : Cx} {pins : List (Addr × Obj)} {σ : St} {H H1 : Hp} {s s1 s' : Shared} {i : Nat} {n R : Str} {rp hpos : Pos} {b₀ : Stmt} {suite : List Stmt} {ts : Addr → TS} {D : Addr} {Dn : Ends} {e : Value} {Ee : Value → Shared → Prop}
theorem caught2 (I : Inv X pins σ H1 s1) (hst : X.stack = X.env :: X.outer ∧ X.env.frame = some X.env.locals) (c : CX1 X.prog X.w X.stack H1 s1 (XT2 X i D ts Dn σ) e s') (hRg : Gl X R) (hRm : X.mg R = some (.ref D)) (Z : ClauseK X.K D) (hRd : (R == ("__debug__" : Str)) = false)
    (hN : X.N.Nodup) (hi : X.N[i]? = some n) (hl : X.env.scope.names.lookup n = some .local) (hs : ∀ z, PSs (X.inex z) (b₀ :: suite) (ts z)) :
    wpAny (model X.prog X.w) X.A (noteFrame e X.env) (fun _ s₂ => wpAny (model X.prog X.w) X.A (setFlight e none) (fun _ s₃ => wpAny (model X.prog X.w) X.A (handleBy e X.env [.ExceptHandler (some (.Name R rp)) (some n) (b₀ :: suite) hpos]) (SP X pins Dn) Ee s₃) Ee s₂) Ee s' := by
  obtain ⟨x, C, H', rfl, os, bare, un, hok, fly, C', hC', msub, hts⟩ := c
  cases hC'
  obtain ⟨oe, vs, T, oT, ts', a0, he, hc, hd, h1, hnT, hTe, hT, hdT, h3, hHT⟩ := fly.ex
  have FF : s'.heap.FunFrames (PySem.W.hideAll s'.heap (x :: T :: frs X.stack)) X.stack :=
    ff_move I.stack (fun b hb => PySem.W.hideAll_none _ (List.mem_cons_of_mem _ (List.mem_cons_of_mem _ hb))) fun b hb o e => by
      obtain ⟨sl, e2⟩ := un.any e (I.stkFree b hb) (by simp)
      exact ⟨_, e2, rfl⟩
  have fl : Heap.FlyingV (PySem.W.hideAll s'.heap (x :: T :: frs X.stack)) X.stack x (.ref C) a0 s'.heap :=
    ⟨fun b o hb => PySem.W.of_hideAll _ hb, PySem.W.hideAll_none _ List.mem_cons_self, FF, oe, vs, T, oT, ts', he, hc, hd, h1, PySem.W.hideAll_none _ (List.mem_cons_of_mem _ List.mem_cons_self), hTe, hT, hdT, h3⟩
  have inv_of : ∀ h5, Heap.FlyingV (PySem.W.hideAll s'.heap (x :: T :: frs X.stack)) X.stack x (.ref C) a0 h5 → s'.heap.UpToSlots h5 → Inv X pins σ (upd H' x (ExcO x C)) { s' with heap := h5 } := by
    intro h5 fl5 sm5
    have kp : ∀ b o, s'.heap.get? b = some o → b ≠ x → b ≠ T → b ∉ frs X.stack → h5.get? b = some o := fun b o e n1 n2 n3 => fl5.1 b o (PySem.W.hideAll_get _ e (by simp [n1, n2, n3]))
    have un5 : Un (frs X.stack) [] H1 (upd H' x (ExcO x C)) s1.heap h5 := un_catch un (fun b o hb hf e => kp b o e (fun z => hb (by rw [z]; exact fly.xn)) (fun z => hb (by rw [z]; exact hnT)) hf) (fun b o hb e => by
      obtain ⟨_, o', e', nf⟩ := FF.mem hb
      rw [e] at e'
      cases e'
      exact sm5 b o e nf) fly.xn fly.xh
    have hok5 : HOk X.prog X.w (upd H' x (ExcO x C)) h5 := by
      refine hok_track (hok_keeps hok fun b u hb e => kp b u e (fun z => hb (by rw [z]; exact fly.xh)) (fun z => hb (by rw [z]; exact hHT)) (fun z => hb ?_)) fly.xh ?_
      · obtain ⟨_, o', e', _⟩ := I.stack.mem z
        exact un.free b o' e' (I.stkFree b z) (by simp)
      · obtain ⟨_, _, _, ob, vv, _, _, _, z1, z2, z3, _⟩ := fl5
        exact ⟨⟨ob, z1, z2.1, vv, z3, z2.2.2⟩, ⟨ob, z1⟩, fun h1 h2 ⟨o, p1, p2⟩ k => ⟨o, k o p1, p2⟩⟩
    exact I.call' (s' := { s' with heap := h5 }) os un5 hok5 bare (fun _ z => nomatch z)
  generalize PySem.W.hideAll s'.heap (x :: T :: frs X.stack) = B at fl inv_of
  have cv : ∀ h, Heap.FlyingV B X.stack x (.ref C) a0 h ↔ Heap.FlyingV B (X.env :: X.outer) x (.ref C) a0 h := fun h => by rw [hst.1]
  have fl' := (cv _).mp fl
  refine wpAny_looks_onV (env := X.env) (outer := X.outer) (L := X.env.locals) (by rw [← hst.1]; exact I.ok.frames) hst.2 fl' fun h4 held4 sm4 => ?_
  refine wpAny_landsV held4 fun h5 fl5 sm5 => ?_
  have fl5' := (cv _).mpr fl5
  have I5 := inv_of h5 fl5' (sm4.trans sm5)
  refine wpAny_handleBy_cons (codeAny_handlers_test (ld_glob (inv_in I5 x) hRg hRm ?_ hRd)) (by intro q; cases q)
  obtain ⟨ob, z1, z2⟩ := fl5.there
  refine exc_matches I5.kIn Z z1 z2 msub ?_
  refine codeAny_handlers_suite_as ?_
  refine lands_againV fl5 fun h6 fl6 sm6 => ?_
  have fl6' := (cv _).mpr fl6
  have I6 := inv_of h6 fl6' ((sm4.trans sm5).trans sm6)
  refine store_ok I6 hN hi (Or.inl hl) (show RelV (.ref x) (.ref x) from rfl) (fun s7 I7 => ?_) (.inr hl)
  refine wpAny_mono (hs x pins s7 _ _ (endsG i Dn) (inv_in I7 x) (hts x fly.xh)) (fun f s8 hq => ?_) (fun _ _ z => False.elim z)
  have ok := I.ok
  have goes : ∀ {σ' : St} {H8 : Hp} {Qn : Unit → Shared → Prop}, Inv (X.inex x) pins σ' H8 s8 → (∀ s9, Inv X pins (σ'.set i none) H8 s9 → Qn () s9) → wpAny (model X.prog X.w) X.A (do bindName X.env n .none; unbindBehindTheSuite X.env n hpos) Qn Ee s8 := fun {σ' H8 Qn} J k => by
    have J' := inv_outof J ok
    obtain ⟨m, hn, hlk⟩ := J'.loc
    exact wpAny_nameGoes_keeps hl hn (by rw [ok.kind]; rfl) fun h' v hn' hs' => k _ (inv_gone J' hN hi hn hlk hn' hs')
  cases f with
  | next =>
    obtain ⟨σ', H8, J, q⟩ := hq
    exact goes J fun s9 J9 => ⟨_, H8, J9, q⟩
  | brk =>
    obtain ⟨σ', H8, J, q⟩ := hq
    exact goes J fun s9 J9 => ⟨_, H8, J9, q⟩
  | cont =>
    obtain ⟨σ', H8, J, q⟩ := hq
    exact goes J fun s9 J9 => ⟨_, H8, J9, q⟩
  | ret u =>
    obtain ⟨v, σ', H8, J, r, q⟩ := hq
    exact goes J fun s9 J9 => ⟨v, _, H8, J9, r, q⟩
end
end Fr

set_option Elab.async false
set_option linter.all false
set_option maxRecDepth 100000
set_option maxHeartbeats 4000000
/-! sorted(..): of whole numbers, and of tuples that rise already. -/
namespace Fr
open PySem PySem.Spec L2
open PyProof.Rows hiding St Fr
section
variable {cmp : Nat → Nat → (Bool → Shared → Prop) → Shared → Prop} {s : Shared}
end
section
variable {prog : Program} {w : World} {A : Around} {E : Value → Shared → Prop}
end
end Fr

set_option Elab.async false
set_option linter.all false
set_option maxRecDepth 100000
set_option maxHeartbeats 4000000
/-! sorted(..) over data. -/
namespace Fr
open PySem PySem.Spec L2
open PyProof.Rows hiding St Fr
theorem vals_ints : ∀ {is : List Int} {its : List Value}, Vals (is.map V.int) its → IntsAre its is
  | [], _, .nil => .nil
  | i :: is, _, .cons r t => by
    obtain ⟨k, rfl⟩ : ∃ k, _ = Value.int i k := r
    exact .cons i k (vals_ints t)
/-- tuples of whole numbers on a heap -/
inductive TupsAt (h : Heap) : List Value → List (List Int) → Prop
  | nil : TupsAt h [] []
  | cons {a : Addr} {xs : List Value} {t : List Int} {vs : List Value} {ts : List (List Int)} : IsTup h a xs.toArray → IntsAre xs t → t ≠ [] → TupsAt h vs ts → TupsAt h (.ref a :: vs) (t :: ts)
theorem TupsAt.up {h h' : Heap} (k : ∀ b o, (∃ xs n, o.data = .seq xs n) → h.get? b = some o → h'.get? b = some o) : ∀ {vs : List Value} {ts : List (List Int)}, TupsAt h vs ts → TupsAt h' vs ts
  | _, _, .nil => .nil
  | _, _, .cons ⟨o, ho, hc, n, hd⟩ b c d => .cons ⟨o, k _ _ ⟨_, _, hd⟩ ho, hc, n, hd⟩ b c (d.up k)
theorem TupsAt.at {h : Heap} : ∀ {vs : List Value} {ts : List (List Int)} {i : Nat} {v : Value}, TupsAt h vs ts → vs[i]? = some v → ∃ a xs t, v = .ref a ∧ ts[i]? = some t ∧ IsTup h a xs.toArray ∧ IntsAre xs t
  | _, _, _, _, .nil, e => by simp at e
  | _, _, 0, _, .cons a b c d, e => by
    simp at e
    subst e
    exact ⟨_, _, _, rfl, rfl, a, b⟩
  | _, _, i + 1, v, .cons a b c d, e => by
    obtain ⟨a, xs, t, h1, h2, h3⟩ := d.at (i := i) (v := v) (by simpa using e)
    exact ⟨a, xs, t, h1, by simpa using h2, h3⟩
section
variable {X : Cx}
end
end Fr
namespace L3
open PySem PySem.Spec L2
section
variable {X : Cx} {E : XK} {e : Expr} {es : List Expr} {pos : Pos}
end
end L3

set_option Elab.async false
set_option linter.all false
set_option maxRecDepth 100000
/-! numbers of the script; products of any number and a small one. -/
namespace L3
open PySem PySem.Spec L2
end L3

set_option Elab.async false
set_option linter.all false
set_option maxRecDepth 100000
set_option maxHeartbeats 4000000
/-! min(..) of a list whose items are compared by what lies on the heap. -/
namespace Fr
open PySem PySem.Spec L2
open PyProof.Rows hiding St Fr
section
variable {prog : Program} {w : World} {A : Around} {R : Result → Shared → Prop} {I S : Addr} {fp wr : List Addr} {n : Nat} {P : Nat → Value → Prop} {St' : Nat → Heap → Prop} {bt : Nat → Nat → Bool} {Kp : Heap → Prop}
end
end Fr

set_option Elab.async false
set_option linter.all false
set_option maxRecDepth 100000
set_option maxHeartbeats 4000000
/-! min(..) of a list of tuples of whole numbers. -/
namespace Fr
open PySem PySem.Spec L2
open PyProof.Rows hiding St Fr
section
variable {X : Cx}
end
end Fr
namespace L3
open PySem PySem.Spec L2
end L3

set_option Elab.async false
set_option linter.all false
/-! Comprehensions over pairs, read. -/
namespace L3
open PySem PySem.Spec L2
abbrev g2 : T3G := gTu 2 (gCons3 (gNm 0) (gCons3 (gNm 1) gNil3))
end L3

set_option Elab.async false
set_option linter.all false
/-! a, b, c = three things at once: stored from the right. -/
namespace Fr
open PySem PySem.Spec L2
open PyProof.Rows hiding St Fr
section
variable {X : Cx} {pos : Pos}
end
end Fr
namespace L3
open PySem PySem.Spec L2
section
variable {X : Cx} {E : XK} {e : Expr} {pos : Pos}
end
end L3

set_option Elab.async false
set_option linter.all false
set_option maxRecDepth 100000
set_option maxHeartbeats 4000000
/-! list < list, where the first numbers settle it. -/
namespace Fr
open PySem PySem.MeetsSeq PySem.MeetsSeq3 PySem.AutoSeq1 PyProof.Rows
section
variable (p q : Addr) (xs ys : Array Value) (a c : Int) (ta tc : Tok) (e1 e2 : Nat) (d1 d2 : Option Addr) (s1 s2 : Array (Option Value))
end
section
variable {prog : Program} {w : World} {A : Around} {E : Value → Shared → Prop} {s : Shared}
end
end Fr

set_option Elab.async false
set_option linter.all false
set_option maxRecDepth 100000
set_option maxHeartbeats 4000000
/-! sorted(..) of lists that stand in order by their first numbers. -/
namespace Fr
open PySem PySem.Spec L2
open PyProof.Rows hiding St Fr
section
variable {X : Cx}
/-- the i-th thing is a list whose first number is known -/
def HeadAt (h : Heap) (its : List Value) (ts : List (List Int)) : Prop := ∀ (i : Nat) (v : Value) (t : List Int), its[i]? = some v → ts[i]? = some t → ∃ (a : Addr) (xs : Array Value) (k : Tok), v = .ref a ∧ h.IsList a xs ∧ xs[0]? = some (.int (t.headD 0) k)
theorem HeadAt.up {h h' : Heap} {its : List Value} {ts : List (List Int)} (T : HeadAt h its ts) (k : ∀ b o, (∃ xs n, o.data = .seq xs n) → h.get? b = some o → h'.get? b = some o) : HeadAt h' its ts := fun i v t hv ht => by
  obtain ⟨a, xs, c, e, ⟨o, ho, hc, n, hd⟩, hx⟩ := T i v t hv ht
  exact ⟨a, xs, c, e, ⟨o, k a o ⟨xs, n, hd⟩ ho, hc, n, hd⟩, hx⟩
end
end Fr
namespace L3
open PySem PySem.Spec L2
end L3

set_option Elab.async false
set_option linter.all false
/-! a number in a tuple of numbers -/
namespace L3
open PySem PySem.Spec L2
end L3
namespace L3
open PySem PySem.Spec L2
section
variable {X : Cx} {E : XK} {e : Expr} {pos p : Pos}
end
end L3

set_option Elab.async false
set_option linter.all false
set_option maxRecDepth 100000
/-! xs += list; xs.count(e); a name's object held against data; comprehensions within comprehensions. -/
namespace Fr
open PySem PySem.Spec L2
open PyProof.Rows hiding St Fr
section
variable {X : Cx}
end
end Fr
namespace L3
open PySem PySem.Spec L2
open PyProof.Rows hiding St Fr
section
variable {X : Cx}
end
end L3
namespace L3
open PySem PySem.Spec L2
section
variable {X : Cx} {E : XK} {e a b c o : Expr} {es : List Expr} {pos p : Pos}
end
end L3
namespace Fr
open PySem PySem.Spec L2
end Fr

set_option Elab.async false
set_option linter.all false
set_option maxRecDepth 100000
/-! A block that makes new lists, looks at them, changes them and forgets them: all that was there stays. -/
namespace L3
open PySem PySem.Spec L2
/-- slots of data alone -/
structure PSl (K : PySem.W.Frag) (H : Hp) (σ : St) (δ : List Sl) : Prop where
  tb : Tb K H
  len : δ.length = σ.length
  sl : ∀ (i : Nat) (s : Sl), δ[i]? = some s → s = .un ∨ ∃ x v, s = .d x ∧ σ[i]? = some (some v) ∧ Rp K H v x
theorem PSl.lk {K : PySem.W.Frag} {H : Hp} {σ : St} {δ : List Sl} (h : PSl K H σ δ) : Lk K H H none σ δ H H := by
  refine ⟨Same.refl _, Same.refl _, fun _ _ e _ => e, fun _ _ => rfl, (fun b e => by cases e), h.len, fun i s e => ?_, fun i j o o' e1 e2 e3 => ?_, fun i j o o' e1 e2 => ?_, h.tb⟩
  · rcases h.sl i s e with rfl | ⟨x, v, rfl, e1, r⟩
    · trivial
    · exact ⟨v, e1, r⟩
  · rcases h.sl i _ e1 with z | ⟨_, _, z, _⟩ <;> cases z
  · rcases h.sl i _ e1 with z | ⟨_, _, z, _⟩ <;> cases z
theorem PSl.same {K : PySem.W.Frag} {H H' : Hp} {σ : St} {δ : List Sl} (h : PSl K H σ δ) (s : Same H H') : PSl K H' σ δ :=
  ⟨h.tb.same s, h.len, fun i t e => (h.sl i t e).imp id fun ⟨x, v, e1, e2, r⟩ => ⟨x, v, e1, e2, r.same s⟩⟩
theorem PSl.set {K : PySem.W.Frag} {H : Hp} {σ : St} {δ : List Sl} {i : Nat} {v : V} {x : D} (h : PSl K H σ δ) (r : Rp K H v x) : PSl K H (σ.set i (some v)) (δ.set i (.d x)) := by
  refine ⟨h.tb, by rw [List.length_set, List.length_set]; exact h.len, fun j s e => ?_⟩
  by_cases q : i = j
  · subst q
    have lt : i < δ.length := by
      have := (List.getElem?_eq_some_iff.mp e).1
      rwa [List.length_set] at this
    rw [List.getElem?_set_self lt] at e
    cases e
    exact .inr ⟨x, v, rfl, List.getElem?_set_self (by rw [← h.len]; exact lt), r⟩
  · rw [List.getElem?_set_ne q] at e
    rw [List.getElem?_set_ne q]
    exact h.sl j s e
abbrev noZ : Zk := fun _ _ => False
section
variable {X : Cx} {E : XK} {e c : Expr} {pos p : Pos}
end
end L3
namespace L3
open PySem PySem.Spec L2
section
variable {X : Cx} {E : XK} {e1 e2 e3 c : Expr} {pos p : Pos}
end
end L3

set_option Elab.async false
set_option linter.all false
set_option maxRecDepth 100000
set_option maxHeartbeats 4000000
/-! max of a list of numbers, list(range(n)), a number not in a list. -/
namespace Fr
open PySem PySem.Spec L2
open PyProof.Rows hiding St Fr
section
variable {X : Cx}
end
end Fr
namespace L3
open PySem PySem.Spec L2
section
variable {X : Cx} {E : XK} {a : Expr} {p p2 pos pos2 : Pos}
end
end L3

set_option Elab.async false
set_option linter.all false
set_option maxRecDepth 100000
set_option maxHeartbeats 2000000
/-! all(sign in TEXT for sign in text): a generator walked to its end; the code's table may grow by its code. -/
namespace Fr
open PySem PySem.Spec L2
open PyProof.Rows hiding St Fr
section
variable {prog : Program} {w : World} {A : Around} {E : Value → Shared → Prop}
end
end Fr
namespace Fr
open PySem PySem.Spec L2
open PyProof.Rows hiding St Fr
section
variable {X : Cx}
end
end Fr

set_option Elab.async false
set_option linter.all false
set_option maxRecDepth 100000
set_option maxHeartbeats 2000000
/-! The law's call where a code's table may grow: the table is told of from the start. -/
namespace Fr
open PySem PySem.Spec L2 L3
open PyProof.Rows hiding St Fr
end Fr

set_option Elab.async false
set_option linter.all false
set_option maxRecDepth 100000
set_option maxHeartbeats 2000000
/-! Whole numbers as texts: their signs, split at a sign, read again. -/
namespace Fr
open PySem
end Fr

set_option Elab.async false
set_option linter.all false
set_option maxRecDepth 100000
set_option maxHeartbeats 2000000
/-! Texts: split, removeprefix, join, int of a text, str of a number, f-strings, the generator in all. -/
namespace L3
open PySem PySem.Spec L2
open PyProof.Rows hiding St Fr
section
variable {X : Cx}
end
/-! ### over data -/
section
variable {X : Cx} {E : XK} {e a b o : Expr} {es : List Expr} {pos p : Pos}
end
end L3

set_option Elab.async false
set_option linter.all false
set_option maxRecDepth 100000
set_option maxHeartbeats 2000000
/-! try with one clause over data; calls within an except suite. -/
namespace L3
open PySem PySem.Spec L2
open PyProof.Rows hiding St Fr
section
variable {K : PySem.W.Frag} {F0 H0 F H F' H' : Hp} {B : Option Addr} {σ σ' : St} {δ δ' : List Sl}
/-- what the names that are data stand for; the others are not known -/
def Sl.dOnly : Sl → Sl
  | .d x => .d x
  | _ => .un
/-- the state as a new beginning: what is owned or lent is out of sight -/
theorem Lk.begin (L : Lk K F0 H0 B σ δ F H) : Lk K F H none σ (δ.map Sl.dOnly) F H := by
  have at' : ∀ (i : Nat) (s : Sl), (δ.map Sl.dOnly)[i]? = some s → s = .un ∨ ∃ x, s = .d x ∧ δ[i]? = some (.d x) := fun i s e => by
    rw [List.getElem?_map] at e
    cases q : δ[i]? with
    | none => rw [q] at e; cases e
    | some u =>
      rw [q] at e
      cases u with
      | d x => cases e; exact .inr ⟨x, rfl, rfl⟩
      | _ => cases e; exact .inl rfl
  refine ⟨L.fh, Same.refl _, fun _ _ e _ => e, fun _ _ => rfl, fun _ e => (by cases e), by rw [List.length_map]; exact L.len, fun i s e => ?_, fun i j o o' e1 _ _ => ?_, fun i j o o' e1 _ => ?_, L.tbF⟩
  · rcases at' i s e with rfl | ⟨x, rfl, e2⟩
    · trivial
    · exact L.sl i _ e2
  · rcases at' i _ e1 with z | ⟨x, z, _⟩ <;> cases z
  · rcases at' i _ e1 with z | ⟨x, z, _⟩ <;> cases z
/-- a state over the new beginning is one over the old -/
theorem Lk.rebase (L : Lk K F0 H0 B σ δ F H) (M : Lk K F H none σ' δ' F' H') : Lk K F0 H0 B σ' δ' F' H' := by
  refine ⟨M.fh, L.f0.trans M.f0, fun a o e b => M.h0 a o (L.h0 a o e b) (fun z => by cases z), fun a h => (M.ff a (L.nn h)).trans (L.ff a h), fun b e => ⟨(L.bt b e).1, M.nn (L.bt b e).2⟩, M.len, fun i s e => ?_, M.ne, M.nb, L.tb⟩
  have q := M.sl i s e
  cases s with
  | un => trivial
  | d x => exact q
  | own o =>
    obtain ⟨a, e1, f, h, w⟩ := q
    exact ⟨a, e1, f, (L.fr0 h).1, w⟩
  | bor o =>
    obtain ⟨a, e1, b, _⟩ := q
    cases b
theorem Rok.rebase {r : Rv} {v : V} (L : Lk K F0 H0 B σ δ F H) (k : Rok K H F' H' σ' δ' r v) : Rok K H0 F' H' σ' δ' r v := by
  cases r with
  | d x => exact k
  | own o =>
    obtain ⟨a, e, f, h, w, n⟩ := k
    exact ⟨a, e, f, (L.fr0 h).1, w, n⟩
/-- a name that is gone -/
theorem Lk.gone {i : Nat} (L : Lk K F0 H0 B σ δ F H) : Lk K F0 H0 B (σ.set i none) (δ.set i .un) F H := by
  refine ⟨L.fh, L.f0, L.h0, L.ff, L.bt, by rw [List.length_set, List.length_set]; exact L.len, fun j s e => ?_, fun j k o o' e1 e2 e3 => ?_, nb_set L.nb (fun _ z => by cases z), L.tb⟩
  · rcases getS e with ⟨rfl, rfl, lt⟩ | ⟨n, e⟩
    · trivial
    · rw [List.getElem?_set_ne n]; exact L.sl j s e
  · rcases getS e1 with ⟨_, z, _⟩ | ⟨n1, e1⟩
    · cases z
    · rcases getS e2 with ⟨_, z, _⟩ | ⟨n2, e2⟩
      · cases z
      · rw [List.getElem?_set_ne n1, List.getElem?_set_ne n2] at e3
        exact L.ne j k o o' e1 e2 e3
end
def enG (i : Nat) (En : L3.En) : L3.En := { nx := fun δ => En.nx (δ.set i .un), rt := En.rt, bk := fun δ => En.bk (δ.set i .un), ct := fun δ => En.ct (δ.set i .un) }
section
variable {X : Cx} {E : XK} {n R : Str} {rp hpos tp : Pos} {i : Nat} {D : Addr} {body : List Stmt} {b₀ : Stmt} {suite : List Stmt} {t ts : T3S}
end
/-! ### calls within an except suite -/
section
variable {X : Cx} {E : XK} {e : Expr} {es : List Expr} {pos p : Pos}
end
theorem room_in {j k : Nat} {A : Around} {z : Option Value} (hr : Room k A) (h : j ≤ k := by decide) : Fr.RoomN j (A.mark z) := ⟨by have := hr.dp; show A.depth + 3 * j + 5 < _; omega, by have := hr.un; show A.units + 16 * j + 200 < _; omega⟩
/-- the name of an exception's class, as the law tells it -/
def kdNames : List Str := ["NoPlace", "NoLevel", "NoSymbol", "NoEnd", "Apart", "NoRow", "NotClosed", "NoDeed", "NoPart", "NoForm", "NoText", "NoName"]
/-- the class C is the j-th of the twelve -/
structure KdAt (K : PySem.W.Frag) (cs : List Addr) (C : Addr) (j : Nat) : Prop where
  z : Fr.ExcK K C
  lt : j < 12
  k : ∀ (i : Nat) (c : Addr), cs[i]? = some c → PySem.W.kitOne K (.ref C) (.ref c) = some (decide (i = j))
  v : PySem.W.kitOne K (.ref C) (.type "ValueError") = some true
def spKind (K : PySem.W.Frag) (cs : List Addr) : Sp3 := fun δ Q _ => match δ with
  | [.d (.exc C)] => ∃ j, KdAt K cs C j ∧ Q (.d (.str (kdNames.getD j ""))) none
  | _ => False
/-! ### list.index of a tuple of numbers -/
section
variable {X : Cx}
end
section
variable {X : Cx} {E : XK} {e a b c o : Expr} {es : List Expr} {pos p : Pos}
theorem lst_inv {x : D} {P : List D → Prop} (h : match x with
  | .lst xs => P xs
  | _ => False) : ∃ xs, x = .lst xs ∧ P xs := by
  cases x <;> first | exact ⟨_, rfl, h⟩ | exact h.elim
end
end L3

set_option Elab.async false
set_option linter.all false
set_option maxRecDepth 100000
set_option maxHeartbeats 2000000
/-! Exceptions as data: isinstance of them; count and index of true; defs that run within an except suite. -/
namespace L3
open PySem PySem.Spec L2
open PyProof.Rows hiding St Fr
/-- a def that runs within an except suite -/
theorem ok3N {P : Program} {w : World} {K : PySem.W.Frag} {mg : Str → Option Value} {base : Heap} {x qual : Str} {st : Stmt} {f : Addr} {fd : FuncData} {N ps : List Str} {k : Nat} {sp : Sp3} (F : Fun K x qual st f fd) (S : FnScope N ps (defScope st))
    (len : ∀ δ Q Z, sp δ Q Z → δ.length = ps.length)
    (hbody : ∀ (cdv : Value) (A : Around) (outer : List Env) (s : Shared) (H : Hp), Fr.RoomN k (A.deeper (PyProof.Rows.envOfC qual (defScope st) s.heap.objs.size f cdv)) →
      ∃ t, B3 (Fr.cxN P w K mg base N qual (defScope st) f cdv A outer s H) E0 (defBody st) t ∧
        ∀ δ Q Z, sp δ Q Z → t (fun C δ' => Z C (borOf δ')) { nx := fun δ' => Q (.d .non) (borOf δ'), rt := fun r δ' => Q r (borOf δ') } (δ ++ List.replicate (N.length - ps.length) .un)) :
    Fr.FnOkN P w K mg base (k + 1) f fd ps (lsp K sp) := by
  have len2 : ∀ vs H Q E, lsp K sp vs H Q E → vs.length = ps.length := fun vs H Q E ⟨F, B, δ, P', Zx, L, h, _⟩ => by
    have := L.len
    rw [List.length_map] at this
    rw [← this]
    exact len δ _ _ h
  refine Fr.okN F S len2 fun cdv A outer s H vs Q hr h => ?_
  have hl := len2 vs H Q E0 h
  obtain ⟨t, hb, run⟩ := hbody cdv A outer s H hr
  obtain ⟨F', B, δ, P', Zx, L, h, q, qe⟩ := h
  refine ⟨_, hb.h F' H B, _, F', (fun C δ' => Zx C (borOf δ')), { nx := fun δ' => P' (.d .non) (borOf δ'), rt := fun r δ' => P' r (borOf δ') }, L.entry (N := N), ?_, ?_⟩
  · exact fun C σ' δ' F2 H2 L2 z => qe C _ F2 H2 z L2.fin
  · refine ⟨by rw [hl]; exact run δ P' Zx h, ⟨fun σ' δ' F2 H2 p L2 _ => q _ _ _ F2 H2 p L2.fin Rp.non, fun r v σ' δ' F2 H2 p L2 _ k => q _ _ _ F2 H2 p L2.fin k.rk, fun _ _ _ _ z => z.elim, fun _ _ _ _ z => z.elim⟩⟩
section
variable {X : Cx} {E : XK} {e a b c o : Expr} {es : List Expr} {pos p p1 p2 : Pos}
/-- isinstance(e, C): e an exception, C a class of the text -/
def tIsX (K : PySem.W.Frag) (i : Nat) (T : Value) : T3D := fun _ δ Q => match δ[i]? with
  | some (.d (.exc C)) => Fr.ExcK K C ∧ ∃ b, PySem.W.kitOne K (.ref C) T = some b ∧ Q (.bl b) δ
  | _ => False
theorem isX_inv {K : PySem.W.Frag} {i : Nat} {T : Value} {Z : Zk} {δ : List Sl} {Q : D → List Sl → Prop} (h : tIsX K i T Z δ Q) : ∃ C b, δ[i]? = some (.d (.exc C)) ∧ Fr.ExcK K C ∧ PySem.W.kitOne K (.ref C) T = some b ∧ Q (.bl b) δ := by
  unfold tIsX at h
  cases e : δ[i]? with
  | none => rw [e] at h; exact h.elim
  | some s =>
    rw [e] at h
    cases s with
    | d x =>
      cases x with
      | exc C =>
        obtain ⟨h1, b, h2, h3⟩ := h
        exact ⟨C, b, rfl, h1, h2, h3⟩
      | _ => exact h.elim
    | _ => exact h.elim
theorem d_isX (i : Nat) {x y : Str} {D : Addr} (hg : Gl X "isinstance") (hm : X.mg "isinstance" = none) (hgy : Gl X y) (hmy : X.mg y = some (.ref D)) (hN : X.N[i]? = some x := by rfl)
    (hv : Vis X.env.scope x := by first | exact Or.inl rfl | exact Or.inr (Or.inl rfl) | exact Or.inr (Or.inr rfl)) (hd : (x == ("__debug__" : Str)) = false := by decide) (hcd : (x == ("__classdict__" : Str)) = false := by decide) (hdy : (y == ("__debug__" : Str)) = false := by decide) :
    D3 X E (.Call (.Name "isinstance" p) [.Name x p1, .Name y p2] [] pos) (tIsX X.K i (.ref D)) :=
  ⟨fun F0 H0 B => pe_imp (pe_callB Fr.call_isiE hg hm PyProof.Rows.boot_isinstance (pa_cons (pe_var hN hv hd hcd) (pa_cons (Fr.pe_gl hgy hmy hdy) pa_nil Fr.star_name) Fr.star_name) (by decide) (by decide) Fr.star_name) fun σ H Q hh => ex4 hh fun δ F Z P L z w q => by
    obtain ⟨C, b, e1, e2, e3, e4⟩ := isX_inv w
    obtain ⟨v, hv, r⟩ := L.sl i _ e1
    cases r with
    | exc he => exact ⟨_, hv, _, _, _, _, rfl, L.fh _ _ he, e2, e3, q _ δ _ F H e4 L (Same.refl _) (.bl _)⟩⟩
theorem d_isXB (i : Nat) {x y : Str} {T : String} (hg : Gl X "isinstance") (hm : X.mg "isinstance" = none) (hgy : Gl X y) (hmy : X.mg y = none) (hby : bootBuiltins y = some (.type T)) (hN : X.N[i]? = some x := by rfl)
    (hv : Vis X.env.scope x := by first | exact Or.inl rfl | exact Or.inr (Or.inl rfl) | exact Or.inr (Or.inr rfl)) (hd : (x == ("__debug__" : Str)) = false := by decide) (hcd : (x == ("__classdict__" : Str)) = false := by decide) (hny : y ≠ "__name__" := by decide) (hdy : (y == ("__debug__" : Str)) = false := by decide) :
    D3 X E (.Call (.Name "isinstance" p) [.Name x p1, .Name y p2] [] pos) (tIsX X.K i (.type T)) :=
  ⟨fun F0 H0 B => pe_imp (pe_callB Fr.call_isiB hg hm PyProof.Rows.boot_isinstance (pa_cons (pe_var hN hv hd hcd) (pa_cons (Fr.pe_ty hgy hmy hby hny hdy) pa_nil Fr.star_name) Fr.star_name) (by decide) (by decide) Fr.star_name) fun σ H Q hh => ex4 hh fun δ F Z P L z w q => by
    obtain ⟨C, b, e1, e2, e3, e4⟩ := isX_inv w
    obtain ⟨v, hv, r⟩ := L.sl i _ e1
    cases r with
    | exc he => exact ⟨_, hv, _, _, _, _, rfl, L.fh _ _ he, e2, e3, q _ δ _ F H e4 L (Same.refl _) (.bl _)⟩⟩
/-! ### xs.count(True), xs.index(True) -/
def tCnB (to t : T3D) : T3D := fun Z δ Q => to Z δ fun x δ1 => match x with
  | .lst xs => t Z δ1 fun y δ2 => ∃ bs : List Bool, xs = bs.map D.bl ∧ y = .bl true ∧ Q (.int ((bs.countP id : Nat) : Int)) δ2
  | _ => False
def tIxB (to t : T3D) : T3D := fun Z δ Q => to Z δ fun x δ1 => match x with
  | .lst xs => t Z δ1 fun y δ2 => ∃ (bs : List Bool) (j : Nat), xs = bs.map D.bl ∧ y = .bl true ∧ bs[j]? = some true ∧ (∀ m < j, bs[m]? = some false) ∧ Q (.int (j : Nat)) δ2
  | _ => False
theorem bls_inv {K : PySem.W.Frag} {F : Hp} : ∀ {bs : List Bool} {vs : List V}, Rps K F vs (bs.map D.bl) → vs = bs.map V.bl
  | [], _, h => h.inv_nil
  | t :: ts, _, h => by
    obtain ⟨v, us, rfl, h1, h2⟩ := h.inv_cons
    rw [h1.inv_bl, bls_inv h2]
    rfl
theorem d_countB {apos : Pos} {to t : T3D} (ho : D3 X E o to) (he : D3 X E e t) (hs : starEach [e] X.env = (false, eval e X.env) :: starEach [] X.env := by rfl)
    (hbase : attributeBase o "count" X.env (eval o X.env) = eval o X.env := by rfl)
    (hfew : ((backTo pos (starEach [e] X.env)).all (fun x => !x.1) && (backToKw pos (keywordEach [] X.env)).all (fun x => x.1.isSome)
      && decide ([e].length + ([] : List Keyword).length + (if ([] : List Keyword).isEmpty then 0 else 1) < 30)) = true := by rfl) (hline : (apos.endLine == pos.line) = true := by rfl) :
    D3 X E (.Call (.Attribute o "count" apos) [e] [] pos) (tCnB to t) :=
  ⟨fun F0 H0 B => pe_imp (pe_bm PySem.F.plainAttrs_list PySem.F.slot_list_count PySem.F.type_list_count Fr.mt_countB (ho.h F0 H0 B) (pa_cons (he.h F0 H0 B) pa_nil hs) hbase hfew hline hs rfl) fun σ H Q hh => ex4 hh fun δ F Z P L z w q =>
    ⟨δ, F, Z, _, L, z, w, fun x δ1 v F1 H1 p1 L1 s1 r1 => by
      obtain ⟨xs, rfl, p1⟩ := lst_inv p1
      obtain ⟨l, vs, rfl, hl, rs⟩ := r1.inv_lst
      refine ⟨.inl ⟨rfl, _, SqL.of (L1.fh _ _ hl)⟩, δ1, F1, Z, _, L1, z, p1, fun y δ2 u F2 H2 p2 L2 s2 r2 => ?_⟩
      obtain ⟨bs, rfl, rfl, p2⟩ := p2
      obtain rfl := r2.inv_bl
      have := bls_inv rs
      subst this
      exact ⟨l, bs, rfl, rfl, SqL.of (L2.fh _ _ (s2 _ _ hl)), q _ δ2 _ F2 H2 p2 L2 (s1.trans s2) (.int _)⟩⟩⟩
theorem d_indexB {apos : Pos} {to t : T3D} (ho : D3 X E o to) (he : D3 X E e t) (hs : starEach [e] X.env = (false, eval e X.env) :: starEach [] X.env := by rfl)
    (hbase : attributeBase o "index" X.env (eval o X.env) = eval o X.env := by rfl)
    (hfew : ((backTo pos (starEach [e] X.env)).all (fun x => !x.1) && (backToKw pos (keywordEach [] X.env)).all (fun x => x.1.isSome)
      && decide ([e].length + ([] : List Keyword).length + (if ([] : List Keyword).isEmpty then 0 else 1) < 30)) = true := by rfl) (hline : (apos.endLine == pos.line) = true := by rfl) :
    D3 X E (.Call (.Attribute o "index" apos) [e] [] pos) (tIxB to t) :=
  ⟨fun F0 H0 B => pe_imp (pe_bm PySem.F.plainAttrs_list PySem.F.slot_list_index PySem.F.type_list_index Fr.mt_indexB (ho.h F0 H0 B) (pa_cons (he.h F0 H0 B) pa_nil hs) hbase hfew hline hs rfl) fun σ H Q hh => ex4 hh fun δ F Z P L z w q =>
    ⟨δ, F, Z, _, L, z, w, fun x δ1 v F1 H1 p1 L1 s1 r1 => by
      obtain ⟨xs, rfl, p1⟩ := lst_inv p1
      obtain ⟨l, vs, rfl, hl, rs⟩ := r1.inv_lst
      refine ⟨.inl ⟨rfl, _, SqL.of (L1.fh _ _ hl)⟩, δ1, F1, Z, _, L1, z, p1, fun y δ2 u F2 H2 p2 L2 s2 r2 => ?_⟩
      obtain ⟨bs, j, rfl, rfl, hj, hno, p2⟩ := p2
      obtain rfl := r2.inv_bl
      have := bls_inv rs
      subst this
      exact ⟨l, bs, j, rfl, rfl, SqL.of (L2.fh _ _ (s2 _ _ hl)), hj, hno, q _ δ2 _ F2 H2 p2 L2 (s1.trans s2) (.int _)⟩⟩⟩
end
end L3

set_option Elab.async false
set_option linter.all false
set_option maxRecDepth 100000
set_option maxHeartbeats 2000000
/-! try over one call whose answer is kept by a name: the clause knows the frame's names. -/
namespace L3
open PySem PySem.Spec L2
open PyProof.Rows hiding St Fr
section
variable {X : Cx} {E : XK} {n R x y : Str} {rp hpos tp p pos py p1 : Pos} {i j k : Nat} {D : Addr} {b₀ : Stmt} {suite : List Stmt} {t : T3A} {ts : T3S} {e : Expr} {es : List Expr} {ps : List Str} {sp : Sp3}
end
theorem pass_no {M : Model} {A : Around} {env : Env} : PassesOwn M A env fun _ _ => False := fun _ _ h => h.elim
theorem roomN_d {A : Around} {k n : Nat} (hr : Fr.RoomN k A) (h : n ≤ 64) : A.units + n < cLine := by have := hr.un; omega
theorem r_eqDN {A : Around} {K : PySem.W.Frag} {k : Nat} (hr : Fr.RoomN k A) : R3 K (fun x y H Q => ∃ d d', Fr.IsD K H x d ∧ Fr.IsD K H y d' ∧ d.canLay0 = true ∧ d'.canLay0 = true ∧ A.units + d.depth < cLine ∧ Q (.bl (PyData.eqv d d')) H) eqD := by
  intro F H x y v u Q P fh rx ry h q
  obtain ⟨h1, b, rfl, h2⟩ := h
  exact ⟨_, _, rx.isD fh h1.1.1, ry.isD fh h1.2.1, h1.1.1, h1.2.1, roomN_d hr (Nat.le_trans h1.1.2 (by decide)), q _ _ h2 (.bl _)⟩
theorem r_neDN {A : Around} {K : PySem.W.Frag} {k : Nat} (hr : Fr.RoomN k A) : R3 K (fun x y H Q => ∃ d d', Fr.IsD K H x d ∧ Fr.IsD K H y d' ∧ d.canLay0 = true ∧ d'.canLay0 = true ∧ A.units + d.depth < cLine ∧ Q (.bl (!PyData.eqv d d')) H) neD := by
  intro F H x y v u Q P fh rx ry h q
  obtain ⟨h1, b, rfl, h2⟩ := h
  exact ⟨_, _, rx.isD fh h1.1.1, ry.isD fh h1.2.1, h1.1.1, h1.2.1, roomN_d hr (Nat.le_trans h1.1.2 (by decide)), q _ _ h2 (.bl _)⟩
end L3

set_option Elab.async false
set_option linter.all false
set_option maxRecDepth 100000
set_option maxHeartbeats 2000000
/-! The end of a walk within an except suite: what is handled has no context. -/
namespace Fr
open PySem PySem.Spec L2
open PyProof.Rows hiding St Fr
open Sem (wp)
/-- nothing is handled, or what is handled has no context -/
def Qt (A : Around) (h : Heap) : Prop := A.handled = none ∨ ∃ z o vs, A.handled = some (.ref z) ∧ h.get? z = some o ∧ o.data = .fields vs ∧ vs[2]? = some .none
theorem Qt.but {A : Around} {h h' : Heap} {it : Addr} (q : Qt A h) (k : ∀ b o, b ≠ it → h.get? b = some o → h'.get? b = some o) (hi : ∀ z, A.handled = some (.ref z) → z ≠ it) : Qt A h' := by
  rcases q with q | ⟨z, o, vs, e1, e2, e3, e4⟩
  · exact .inl q
  · exact .inr ⟨z, o, vs, e1, k z o (hi z e1) e2, e3, e4⟩
theorem Qt.keeps {A : Around} {h h' : Heap} (q : Qt A h) (k : ∀ b o, h.get? b = some o → h'.get? b = some o) : Qt A h' := by
  rcases q with q | ⟨z, o, vs, e1, e2, e3, e4⟩
  · exact .inl q
  · exact .inr ⟨z, o, vs, e1, k z o e2, e3, e4⟩
theorem entry_unchain : entryFor table "proto.unchain" = some Builtin.«proto.unchain» := entryFor_of_tree (by kernel_rfl)
section
variable {prog : Program} {w : World} {A : Around} {E : Value → Shared → Prop} {s : Shared}
theorem unchain_none {e : Value} {z : Addr} {o : Obj} {vs : Array Value} {Q : Value → Shared → Prop} (hz : s.heap.get? z = some o) (hd : o.data = .fields vs) (h2 : vs[2]? = some .none) (hQ : Q .none s) :
    wpAny (model prog w) A (runValue (.builtin "proto.unchain" ⟨[e, .ref z, .ref z, .bool false], []⟩)) Q E s := by
  refine wpAny_runValue (codeAny_builtin entry_unchain ?_)
  show wpAny _ _ (field (.ref z) 2 >>= _) _ _ s
  refine wpAny_bind (wpAny_field hz hd h2 ?_)
  show wpAny _ _ (if (Value.none == Value.none) = true then _ else _) _ _ s
  rw [if_pos (by rfl)]
  exact wpAny_pure hQ
theorem stop_at {α : Type} {Q : α → Shared → Prop} (q : Qt A s.heap) (hE : ∀ a h', (∀ b o, s.heap.get? b = some o → h'.get? b = some o) → (∃ o, h'.get? a = some o ∧ o.cls = .type "StopIteration") → E (.ref a) { s with heap := h' }) :
    wpAny (model prog w) A (newExc (.type "StopIteration") [] >>= fun e => (raiseNew e : Sem α)) Q E s := by
  refine wpAny_bind ?_
  simp only [newExc, newTuple]
  refine wpAny_bind (wpAny_newObj_type ?_ (by size_fits))
  refine wpAny_bind (m := firstArgMember _ _) (wpAny_of_eq (a := Value.none) (by first | rfl | (simp only [firstArgMember]; rfl)) ?_)
  refine wpAny_newObj_type ?_ (by size_fits)
  simp only [raiseNew]
  refine wpAny_bind (wpAny_handled ?_)
  rcases q with hh | ⟨z, o, vs, hh, hz, hd, h2⟩
  · rw [hh]
    exact wpAny_bind (wpAny_pure (wpAny_throw (hE _ _ (fun b o e => Heap.get?_push_of_some _ (Heap.get?_push_of_some _ e)) ⟨_, Heap.get?_push_size _ rfl, rfl⟩)))
  · rw [hh]
    have hz' := Heap.get?_push_of_some (h := s.heap) { cls := .type "tuple", data := .seq ([] : List Value).toArray } hz
    have ltz := Heap.lt_size hz'
    have ne : (Value.ref z != Value.ref (s.heap.push { cls := .type "tuple", data := .seq ([] : List Value).toArray }).objs.size) = true := by
      rw [bne_iff_ne]
      intro z1
      exact Nat.ne_of_lt ltz (Value.ref.inj z1)
    dsimp only
    rw [if_pos ne]
    refine wpAny_bind (wpAny_holding (unchain_none (Heap.get?_push_of_some _ hz') hd h2 ?_))
    refine wpAny_bind ?_
    simp only [updateField]
    refine wpAny_bind (wpAny_load (Heap.get?_push_size _ rfl) ?_)
    dsimp only
    rw [if_pos (by simp; omega)]
    refine wpAny_update (Heap.get?_push_size _ rfl) ?_
    refine wpAny_throw (hE _ _ (fun b o e => ?_) ?_)
    · have e1 := Heap.get?_push_of_some (h := s.heap) { cls := .type "tuple", data := .seq ([] : List Value).toArray } e
      rw [Heap.get?_update_other _ _ (Nat.ne_of_gt (Heap.lt_size e1))]
      exact Heap.get?_push_of_some _ e1
    · exact ⟨_, Heap.get?_update_self _ (Heap.get?_push_size _ rfl) rfl, rfl⟩
theorem next_tuple_endQ {it t : Addr} {i : Nat} {items} {Q : Option Value → Shared → Prop} (q : Qt A s.heap) (hz : ∀ z, A.handled = some (.ref z) → z ≠ it)
    (hit : IsTupIter s.heap it t i) (ht : IsTup s.heap t items) (hx : items[i]? = none)
    (hQ : ∀ h', Heap.ExtBut it s.heap h' → Q none { s with heap := h' }) : wpAny (model prog w) A (pyNext (.ref it)) Q E s := by
  obtain ⟨o, ho, hc, hd⟩ := id hit
  obtain ⟨ol, hol, _, nl, hdl⟩ := ht
  unfold pyNext
  refine wpAny_bind (wpAny_attempt (wpAny_callSpecial?_slot (name := Str.ofString "__next__") hit.typeIs slot_tupleiter_next
    (wpAny_call_entry slot_tupleiter_next hit.typeIs entry_tupleiter_next ?_ (args_tupleiter_next _))))
  show wpAny _ _ (field (.ref it) 0 >>= _) _ _ s
  refine wpAny_bind (wpAny_field ho hd (x := .ref t) rfl ?_)
  show wpAny _ _ (if (Value.ref t == Value.none) = true then _ else _) _ _ s
  rw [if_neg (show ¬ ((Value.ref t == Value.none) = true) from Bool.false_ne_true)]
  show wpAny _ _ (field (.ref it) 1 >>= _) _ _ s
  refine wpAny_bind (wpAny_field ho hd (x := .int i 0) rfl ?_)
  show wpAny _ _ (seqItems? (.ref t) >>= _) _ _ s
  refine wpAny_bind (wpAny_seqItems hol hdl ?_)
  simp only [Int.toNat_natCast, hx]
  have k1 : ∀ b o', b ≠ it → s.heap.get? b = some o' → (s.heap.update it (Obj.mapFields (·.setIfInBounds 0 Value.none))).get? b = some o' := fun b o' n e => by
    rw [Heap.get?_update_other _ _ (Ne.symm n)]
    exact e
  refine wpAny_bind (wpAny_rule (wpAny_bind (wpAny_setField ho hd (by simp) ?_)))
  refine stop_at (Qt.but (A := A.in1) q k1 hz) fun a h' kp ty => ?_
  refine wpAny_bind (wpAny_isInstance (T := "StopIteration") (b := true) ty isSubtype_stop ?_)
  exact wpAny_pure (hQ _ fun b o' n e => kp b o' (k1 b o' n e))
theorem unpackItems_tupleQ {t : Addr} {items : Array Value} {Q : List Value → Shared → Prop} (q : Qt A s.heap) (ht : IsTup s.heap t items)
    (hQ : ∀ h', Heap.ExtBut s.heap.objs.size s.heap h' → Q items.toList { s with heap := h' }) : wpAny (model prog w) A (unpackItems (.ref t) items.size none) Q E s := by
  have hlt : t ≠ s.heap.objs.size := by obtain ⟨o, ho, _⟩ := ht; exact Nat.ne_of_lt (Heap.lt_size ho)
  have hz : ∀ z, A.handled = some (.ref z) → z ≠ s.heap.objs.size := fun z e => by
    rcases q with q | ⟨z', o, vs, e1, e2, _⟩
    · rw [q] at e; cases e
    · rw [e1] at e; cases e; exact Nat.ne_of_lt (Heap.lt_size e2)
  unfold unpackItems
  refine wpAny_bind ?_
  · unfold notIterableAtAll
    refine wpAny_bind (wpAny_specialOf ht.typeIs slot_tuple_iter.lookup ?_)
    refine wpAny_pure ?_
    simp only [Bool.false_eq_true, if_false]
    refine wpAny_bind (wpAny_holding (iter_tuple ht ?_))
    refine wpAny_bind (wpAny_holding (draw_tuple hlt items.size 0 _ _ ⟨_, Heap.get?_push_size _ rfl, rfl, rfl⟩ (ht.push _) (by omega) fun h₁ hit₁ hs₁ => ?_))
    have hall : List.take items.size (List.drop 0 items.toList) = items.toList := by
      rw [List.drop_zero]; exact List.take_of_length_le (by simp)
    rw [hall]
    rw [if_neg (by simp)]
    have ht₁ : IsTup h₁ t items := (ht.push _).extBut hs₁.extBut hlt
    have q1 : Qt A h₁ := (q.keeps fun b o e => Heap.get?_push_of_some _ e).but (fun b o n e => hs₁.extBut b o n e) hz
    refine wpAny_bind (wpAny_holding (next_tuple_endQ q1 hz hit₁ ht₁ (by simp) fun h₂ he₂ => ?_))
    simp only [Option.isSome_none, Bool.false_eq_true, if_false]
    refine wpAny_pure (hQ h₂ fun b o hb e => he₂ b o hb (hs₁.extBut b o hb (Heap.get?_push_of_some _ e)))
end
/-- as Qt, by what is tracked -/
def QtH (A : Around) (H : Hp) : Prop := A.handled = none ∨ ∃ z C, A.handled = some (.ref z) ∧ H z = some (ExcO z C)
theorem QtH.same {A : Around} {H H' : Hp} (q : QtH A H) (s : Same H H') : QtH A H' := by
  rcases q with q | ⟨z, C, e1, e2⟩
  · exact .inl q
  · exact .inr ⟨z, C, e1, s _ _ e2⟩
theorem QtH.qt {X : Cx} {pins : List (Addr × Obj)} {σ : St} {H : Hp} {s : Shared} (q : QtH X.A H) (I : Inv X pins σ H s) : Qt X.A s.heap := by
  rcases q with q | ⟨z, C, e1, e2⟩
  · exact .inl q
  · have hp : ExcAt z C s.heap := (I.hok z _ e2).1
    obtain ⟨o, h1, _, vs, h2, h3⟩ := hp
    exact .inr ⟨z, o, vs, e1, h1, h2, h3⟩
def tParQ (A : Around) (i j : Nat) (ta : TA) : TS := fun D σ H => ta σ H fun vs H1 => QtH A H1 ∧ ∃ v w, vs = [v, w] ∧ D.nx ((σ.set i (some v)).set j (some w)) H1
section
variable {X : Cx} {pos : Pos}
theorem ps_parQ {i j : Nat} {x y : Str} {a b : Expr} {ta : TA} {px py pt : Pos} {kt k2 pt2} (hN : X.N.Nodup) (hi : X.N[i]? = some x) (hj : X.N[j]? = some y) (hij : i ≠ j)
    (hx : X.env.scope.names.lookup x = some .local) (hy : X.env.scope.names.lookup y = some .local) (ha : PA X [a, b] ta)
    (hw : swappedStores [.Tuple [.Name x px, .Name y py] kt pt] (.Tuple [a, b] k2 pt2) X.env = pure (some [x, y]))
    (hs : swapsWithSole [.Tuple [.Name x px, .Name y py] kt pt] (.Tuple [a, b] k2 pt2) pos.line X.env = pure false := by rfl) :
    PS X (.Assign [.Tuple [.Name x px, .Name y py] kt pt] (.Tuple [a, b] k2 pt2) pos) (tParQ X.A i j ta) := by
  intro pins s σ H D I h
  rw [exec_Assign_arm]
  refine wpAny_bind (wpAny_standAt ?_)
  rw [hs]
  refine wpAny_bind (wpAny_pure ?_)
  rw [if_neg (by decide)]
  refine wpAny_bind (Tuple_ (thn (ha _ pins s σ H _ I h) fun us s1 ⟨vs, H1, I1, r1, q1⟩ => ?_))
  obtain ⟨qt, v, w, e1, q1⟩ := q1
  subst e1
  obtain ⟨u1, u2, rfl, rv, rw'⟩ : ∃ u1 u2, us = [u1, u2] ∧ RelV v u1 ∧ RelV w u2 := by
    cases r1 with
    | cons p q =>
      cases q with
      | cons p' q' =>
        cases q'
        exact ⟨_, _, rfl, p, p'⟩
  refine wpAny_newObj_type ?_ (by show 2 ≤ sizeLine; decide)
  have I2 : Inv X pins σ H1 { s1 with heap := s1.heap.push { cls := .type "tuple", data := .seq [u1, u2].toArray } } := I1.kept (t' := s1.toks) fun b o e => Heap.get?_push_of_some _ e
  rw [hw]
  refine wpAny_bind (wpAny_pure ?_)
  show wpAny (model X.prog X.w) X.A (do rule "assign.swapped-stores"; let items ← unpackItems (.ref s1.heap.objs.size) 2 none; assignInOrder [fun v => bindName X.env y v, fun v => bindName X.env x v] items.reverse; pure Flow.next) _ _ _
  refine wpAny_bind (wpAny_rule (wpAny_bind (unpackItems_tupleQ (items := #[u1, u2]) (qt.qt I2) (IsTup.new s1.heap _) fun h' hx' => ?_)))
  have I3 := I2.kept (h' := h') (t' := s1.toks) fun b o e => hx' b o (Nat.ne_of_lt (Heap.lt_size e)) e
  show wpAny _ _ (assignInOrder [fun v => bindName X.env y v, fun v => bindName X.env x v] [u2, u1] >>= fun _ => pure Flow.next) _ _ _
  refine wpAny_bind (assignInOrder_cons (wpAny_bindName (store_ok I3 hN hj (.inl hy) rw' (fun s2 I4 => ?_) (.inr hy))))
  refine assignInOrder_cons (wpAny_bindName (store_ok I4 hN hi (.inl hx) rv (fun s3 I5 => assignInOrder_nil (wpAny_pure ?_)) (.inr hx)))
  rw [List.set_comm _ _ (Ne.symm hij)] at I5
  exact ⟨_, H1, I5, q1⟩
end
end Fr

set_option Elab.async false
set_option linter.all false
set_option maxRecDepth 100000
set_option maxHeartbeats 4000000
/-! defs that run within an except suite and walk. -/
namespace Fr
open PySem PySem.Spec L2
open PyProof.Rows hiding St Fr
structure FnOkM (P : Program) (w : World) (K : PySem.W.Frag) (mg : Str → Option Value) (base : Heap) (k : Nat) (f : Addr) (fd : FuncData) (ps : List Str) (sp : Around → Sp) : Prop where
  len : ∀ A vs H Q E, sp A vs H Q E → vs.length = ps.length
  run : ∀ (A : Around) (outer : List Env) (s : Shared) (H : Hp) (args : Args) (us : List Value) (vs : List V) (Q : VK), RoomN k A → Env0 P w K mg base A outer s H → BindsTo s fd args (ps.zip us) → Vals vs us → sp A vs H Q E0 →
    codeAny (model P w) A (.call (.ref f) args) (CR CX0 outer P w H s Q E0) s
section
variable {P : Program} {w : World} {K : PySem.W.Frag} {mg : Str → Option Value} {base : Heap}
theorem FnOkN.m {k : Nat} {f : Addr} {fd : FuncData} {ps : List Str} {sp : Sp} {sq : Around → Sp} (F : FnOkN P w K mg base k f fd ps sp) (h : ∀ A vs H Q E, sq A vs H Q E → sp vs H Q E) : FnOkM P w K mg base k f fd ps sq :=
  ⟨fun A vs H Q E z => F.len vs H Q E (h A vs H Q E z), fun A outer s H args us vs Q hr e0 hb r hsp => F.run A outer s H args us vs Q hr e0 hb r (h A _ _ _ _ hsp)⟩
theorem okM {x qual : Str} {st : Stmt} {f : Addr} {fd : FuncData} {N ps : List Str} {k : Nat} {sp : Around → Sp} (F : Fun K x qual st f fd) (S : FnScope N ps (defScope st)) (len : ∀ A vs H Q E, sp A vs H Q E → vs.length = ps.length)
    (hbody : ∀ (cdv : Value) (A : Around) (outer : List Env) (s : Shared) (H : Hp) (vs : List V) (Q : VK), RoomN k (A.deeper (envOfC qual (defScope st) s.heap.objs.size f cdv)) → sp A vs H Q E0 →
      ∃ t, PSs (cxN P w K mg base N qual (defScope st) f cdv A outer s H) (defBody st) t ∧ t { nx := fun _ H' => Q .non H', rt := Q } (start N vs) H) : FnOkM P w K mg base (k + 1) f fd ps sp := by
  obtain ⟨oc, od, kV, doc, pm, an, cdv, ct, osl, rfl, lk, hcd⟩ := F.ex
  refine ⟨len, fun A outer s H args us vs Q hr e0 hb r hsp => ?_⟩
  have hl := len _ _ _ _ _ hsp
  have KX : K.In s.heap := e0.mod.kin.keeps fun b o e => (e0.bs b o e).1
  have lim : s.heap.NoLimit := e0.mod.nolimit.keeps fun b o e => (e0.bs b o e).1
  have hkind : ∀ y ∈ ps.zip us, (defScope st).names.lookup y.1 = some .local ∨ ((defScope st).names.lookup y.1 = some .cell ∧ ((cellsFrom (s.heap.objs.size + 1) (defScope st).names []).lookup y.1).isSome = true) := fun ⟨n, v⟩ hy => by
    rcases S.par n (List.of_mem_zip hy).1 with q | q
    · exact .inl q
    · exact .inr ⟨q, PySem.W.cellsFrom_some _ _ _ (.inl q)⟩
  have hdep : A.depth < recursionLimit := by have := hr.dp; omega
  refine codeAny_call_function hdep (KX _ _ lk) rfl S.co S.gen rfl (PySem.W.codeRec_of KX hcd) (hb _ _ _ _ ?_)
  refine wpAny_newFunctionEnv_cells S.kind hkind fun env he s1 x => ?_
  subst he
  refine ⟨lim.keeps x.toInCall.keep, codeAny_func ?_⟩
  obtain ⟨t, ht, hq⟩ := hbody cdv A outer s H vs Q (hr.deeper _) hsp
  have I0 : Inv (cxOf CX0 P w K mg base N qual (defScope st) f cdv { A with handled := none } outer s H E0) [] (start N vs) H s1 :=
    inv_start S rfl ⟨e0.frames, e0.mod, e0.bs, e0.bsz, e0.funs, e0.frf, e0.hok, e0.bare⟩ hl r x
  have I : Inv (cxN P w K mg base N qual (defScope st) f cdv A outer s H) [] (start N vs) H s1 :=
    ⟨⟨I0.ok.mod, I0.ok.kind, I0.ok.glob, I0.ok.blt, I0.ok.above, I0.ok.inj, I0.ok.has, I0.ok.cab, (fun h => nomatch h), I0.ok.frames, I0.ok.stk, I0.ok.exf, I0.ok.bs, I0.ok.bsz, I0.ok.noex, I0.ok.exfs, I0.ok.funs, I0.ok.frf⟩,
      I0.os, I0.bare, I0.base, I0.loc, I0.cell, I0.free, I0.freeC, I0.pin, I0.hok, I0.len⟩
  refine wpAny_mono (ht [] s1 (start N vs) H _ I hq) (fun fl s' hs => ?_) fun e s' hs => False.elim hs
  have fin : ∀ {σ' : St} {H' : Hp} {v : V} {u : Value}, Inv (cxN P w K mg base N qual (defScope st) f cdv A outer s H) [] σ' H' s' → RelV v u → Q v H' → CE outer P w H s Q u s' :=
    fun {σ' H' v u} J rv q => ⟨v, H', J.os, J.bare, J.base, J.hok, rv, q⟩
  cases fl with
  | ret u =>
    obtain ⟨v, σ', H', J, rv, q⟩ := hs
    exact fin J rv q
  | next =>
    obtain ⟨σ', H', J, q⟩ := hs
    exact fin (v := V.non) (u := Value.none) J rfl q
  | brk =>
    obtain ⟨_, _, _, q⟩ := hs
    exact False.elim q
  | cont =>
    obtain ⟨_, _, _, q⟩ := hs
    exact False.elim q
end
def OwnM (P : Program) (w : World) (K : PySem.W.Frag) (mg : Str → Option Value) (base : Heap) (k : Nat) (x : Str) (ps : List Str) (sp : Around → Sp) : Prop :=
  ∃ (f : Addr) (fd : FuncData), FnOkM P w K mg base k f fd ps sp ∧ mg x = some (.ref f) ∧ PySem.W.keepIn K (.ref f) = true ∧ Binds K fd ps []
def tCallQ (A : Around) (sp : Around → Sp) (t : TA) : TE := fun σ H Q => t σ H fun vs H1 => sp A (vs ++ []) H1 Q E0
section
variable {X : Cx} {pos p : Pos} {k : Nat} {x : Str} {ps : List Str} {sp : Around → Sp} {e : Expr} {es : List Expr} {t : TA}
theorem pe_ownM (O : OwnM X.prog X.w X.K X.mg X.base k x ps sp) (hr : RoomN k X.A) (hg : Gl X x) (ha : PA X (e :: es) t) (hdb : (x == ("__debug__" : Str)) = false := by decide)
    (he : starEach (e :: es) X.env = (false, eval e X.env) :: starEach es X.env := by rfl) (hpl : (backTo pos (starEach es X.env)).any (·.1) = false := by rfl) :
    PE X (.Call (.Name x p) (e :: es) [] pos) (tCallQ X.A sp t) := by
  intro pins s σ H Q I h
  obtain ⟨f, fd, F, hm, hk, hb⟩ := O
  refine wpAny_Call_Name_kw (ld_glob I hg hm ?_ hdb)
  refine PySem.W.callWith_K (h₀ := X.base) I.ok.mod.kin hk (thn (ha pos pins s σ H _ I h) fun us s1 ⟨vs, H1, I1, r, q⟩ => ⟨I1.kIn, ?_⟩) he hpl
  have q' : sp X.A vs H1 Q E0 := by
    have z : sp X.A (vs ++ []) H1 Q E0 := q
    rw [List.append_nil] at z
    exact z
  have hl' : (us ++ []).length = ps.length := by rw [List.append_nil, ← r.length]; exact F.len _ _ _ _ _ q'
  have hb' := hb s1 us I1.kIn hl'
  rw [List.append_nil] at hb'
  refine wpAny_call (codeAny_mono (F.run X.A X.stack s1 H1 ⟨us, []⟩ us vs Q hr I1.env0 hb' r q') fun rr s' hq => ?_)
  cases rr with
  | error e => exact False.elim hq
  | ok fl =>
    cases fl with
    | ret u => exact I1.after hq
    | next => exact False.elim hq
    | brk => exact False.elim hq
    | cont => exact False.elim hq
end
/-! ### a range walked -/
structure TurnQ (P : Program) (w : World) (K : PySem.W.Frag) (tg : Expr) (J : It) (fp : List Addr) (it : Addr) (tn : Nat → Heap → Prop) : Prop where
  mem : it ∈ fp
  obj : ∀ i h, tn i h → ∀ b ∈ fp, ∃ o, h.get? b = some o ∧ ∀ v, o.data ≠ .cell v
  keep : ∀ i h h', tn i h → (∀ b ∈ fp, ∀ o, h.get? b = some o → h'.get? b = some o) → tn i h'
  item : ∀ (X : Cx), X.prog = P → X.w = w → X.K = K → ∀ (i : Nat) (pins : List (Addr × Obj)) (s : Shared) (σ : St) (H : Hp) (E : Value → Shared → Prop), QtH X.A H → Inv X pins σ H s → (∀ b ∈ fp, FpOk X pins H b) → tn i s.heap → J.go i H →
    wpAny (model P w) X.A (pyNext (.ref it)) (fun r s1 => ∃ u, r = some u ∧
      wpAny (model P w) X.A (letOwnedTupleGo tg (.ref it) u) (fun _ s2 => ∃ x H', Inv X pins σ H' s2 ∧ RelV x u ∧ J.yld i H x H' ∧ tn (i + 1) s2.heap ∧ ∀ b ∈ fp, H' b = none) E s1) E s
  done : ∀ (X : Cx), X.prog = P → X.w = w → X.K = K → ∀ (i : Nat) (pins : List (Addr × Obj)) (s : Shared) (σ : St) (H : Hp) (E : Value → Shared → Prop), QtH X.A H → Inv X pins σ H s → (∀ b ∈ fp, FpOk X pins H b) → tn i s.heap → J.stop i H →
    wpAny (model P w) X.A (pyNext (.ref it)) (fun r s1 => r = none ∧ Inv X pins σ H s1) E s
  self : ∀ (A : Around) (i : Nat) (s : Shared) (Q : Value → Shared → Prop) (E : Value → Shared → Prop), tn i s.heap → Q (.ref it) s → wpAny (model P w) A (pyIter (.ref it)) Q E s
end Fr

set_option Elab.async false
set_option linter.all false
set_option maxRecDepth 100000
set_option maxHeartbeats 2000000
/-! within an except suite: what is handled is known by way of the wishes; walks, calls, tries. -/
namespace L3
open PySem PySem.Spec L2
open PyProof.Rows hiding St Fr
/-- what is known of the handled exception -/
def EQ (A : Around) : XK := fun _ _ H => Fr.QtH A H
def allZ : Zk := fun _ _ => True
def QB (A : Around) (H0 : Hp) (B : Option Addr) : Prop := Fr.QtH A H0 ∧ ∀ z, A.handled = some (.ref z) → B ≠ some z
section
variable {K : PySem.W.Frag} {A : Around} {F0 H0 F H : Hp} {B : Option Addr} {σ : St} {δ : List Sl} {Z : Zk}
theorem zq (z : ZOk K (EQ A) F0 H0 B Z) (L : Lk K F0 H0 B σ δ F H) (h : ∃ C, Z C δ) : Fr.QtH A H := by
  obtain ⟨C, h⟩ := h
  exact z C _ _ _ _ L h
theorem zok_all (q : QB A H0 B) : ZOk K (EQ A) F0 H0 B allZ := fun _ _ _ _ _ L _ => by
  rcases q.1 with h | ⟨z, C, e1, e2⟩
  · exact .inl h
  · exact .inr ⟨z, C, e1, L.h0 z _ e2 (q.2 z e1)⟩
theorem QtH.qb (q : Fr.QtH A H0) : QB A H0 none := ⟨q, fun _ _ z => by cases z⟩
end
def lspQ (K : PySem.W.Frag) (sp : Sp3) (A : Around) : Sp := fun vs H Q E => ∃ F B δ P Zx, Lk K F H B (vs.map some) δ F H ∧ QB A H B ∧ sp δ P Zx ∧ (∀ r ob v F' H', P r ob → Fin K F H B F' H' ob → Rk K H F' H' r v → Q v H') ∧ (∀ C ob F' H', Zx C ob → Fin K F H B F' H' ob → E (.ref C) none H')
theorem lspQ_lsp {K : PySem.W.Frag} {sp : Sp3} {A : Around} {vs : List V} {H : Hp} {Q : VK} {E : XK} (h : lspQ K sp A vs H Q E) : lsp K sp vs H Q E := by
  obtain ⟨F, B, δ, P, Zx, L, _, r⟩ := h
  exact ⟨F, B, δ, P, Zx, L, r⟩
def OwnM (P : Program) (w : World) (K : PySem.W.Frag) (mg : Str → Option Value) (base : Heap) (k : Nat) (x : Str) (ps : List Str) (sp : Sp3) : Prop := Fr.OwnM P w K mg base k x ps (lspQ K sp)
theorem ownM {P : Program} {w : World} {K : PySem.W.Frag} {mg : Str → Option Value} {base : Heap} {k : Nat} {x : Str} {ps : List Str} {sp : Sp3} (O : Fr.OwnN P w K mg base k x ps (lsp K sp)) : OwnM P w K mg base k x ps sp := by
  obtain ⟨f, fd, F, r⟩ := O
  exact ⟨f, fd, F.m fun _ _ _ _ _ h => lspQ_lsp h, r⟩
theorem OwnM.mono {P : Program} {w : World} {K : PySem.W.Frag} {mg : Str → Option Value} {base : Heap} {k k' : Nat} {x : Str} {ps : List Str} {sp : Sp3} (O : OwnM P w K mg base k x ps sp) (h : k ≤ k') : OwnM P w K mg base k' x ps sp := by
  obtain ⟨f, fd, F, r⟩ := O
  exact ⟨f, fd, ⟨F.len, fun A outer s H args us vs Q hr => F.run A outer s H args us vs Q ⟨by have := hr.dp; omega, by have := hr.un; omega⟩⟩, r⟩
theorem ok3M {P : Program} {w : World} {K : PySem.W.Frag} {mg : Str → Option Value} {base : Heap} {x qual : Str} {st : Stmt} {f : Addr} {fd : FuncData} {N ps : List Str} {k : Nat} {sp : Sp3} (F : Fun K x qual st f fd) (S : FnScope N ps (defScope st))
    (len : ∀ δ Q Z, sp δ Q Z → δ.length = ps.length)
    (hbody : ∀ (cdv : Value) (A : Around) (outer : List Env) (s : Shared) (H : Hp), Fr.RoomN k (A.deeper (PyProof.Rows.envOfC qual (defScope st) s.heap.objs.size f cdv)) →
      ∃ t, B3 (Fr.cxN P w K mg base N qual (defScope st) f cdv A outer s H) (EQ (Fr.cxN P w K mg base N qual (defScope st) f cdv A outer s H).A) (defBody st) t ∧
        ∀ δ Q Z, sp δ Q Z → t allZ { nx := fun δ' => Q (.d .non) (borOf δ'), rt := fun r δ' => Q r (borOf δ') } (δ ++ List.replicate (N.length - ps.length) .un)) :
    Fr.FnOkM P w K mg base (k + 1) f fd ps (lspQ K sp) := by
  have len2 : ∀ A vs H Q E, lspQ K sp A vs H Q E → vs.length = ps.length := fun A vs H Q E ⟨F, B, δ, P', Zx, L, _, h, _⟩ => by
    have := L.len
    rw [List.length_map] at this
    rw [← this]
    exact len δ _ _ h
  refine Fr.okM F S len2 fun cdv A outer s H vs Q hr h => ?_
  have hl := len2 A vs H Q E0 h
  obtain ⟨t, hb, run⟩ := hbody cdv A outer s H hr
  obtain ⟨F', B, δ, P', Zx, L, qb, h, q, qe⟩ := h
  refine ⟨_, hb.h F' H B, _, F', allZ, { nx := fun δ' => P' (.d .non) (borOf δ'), rt := fun r δ' => P' r (borOf δ') }, L.entry (N := N), ?_, ?_⟩
  · exact zok_all qb
  · refine ⟨by rw [hl]; exact run δ P' Zx h, ⟨fun σ' δ' F2 H2 p L2 _ => q _ _ _ F2 H2 p L2.fin Rp.non, fun r v σ' δ' F2 H2 p L2 _ k => q _ _ _ F2 H2 p L2.fin k.rk, fun _ _ _ _ z => z.elim, fun _ _ _ _ z => z.elim⟩⟩
def tClQ (sp : Sp3) (t : T3A) : T3E := fun Z δ Q => t Z δ fun xs δ' => (∃ C, Z C δ') ∧ sp (xs.map Sl.d) (fun r _ => Q r δ') (fun _ _ => False)
def tPrQ (i j : Nat) (t : T3A) : T3S := fun Z En δ => t Z δ fun xs δ' => (∃ C, Z C δ') ∧ match xs with
  | [x, y] => En.nx ((δ'.set i (.d x)).set j (.d y))
  | _ => False
section
variable {X : Cx} {E : XK} {a b e : Expr} {es : List Expr} {pos p : Pos}
theorem e_callM {x : Str} {k : Nat} {ps : List Str} {sp : Sp3} {t : T3A} (O : OwnM X.prog X.w X.K X.mg X.base k x ps sp) (hr : Fr.RoomN k X.A) (hg : Gl X x) (ha : A3 X (EQ X.A) (e :: es) t) (hdb : (x == ("__debug__" : Str)) = false := by decide)
    (he : starEach (e :: es) X.env = (false, eval e X.env) :: starEach es X.env := by rfl) (hpl : (backTo pos (starEach es X.env)).any (·.1) = false := by rfl) : E3 X (EQ X.A) (.Call (.Name x p) (e :: es) [] pos) (tClQ sp t) :=
  ⟨fun F0 H0 B => by
    refine pe_imp (Fr.pe_ownM O hr hg (ha.h F0 H0 B) hdb he hpl) fun σ H Q hh => ex4 hh fun δ F Z P L z w q => ⟨δ, F, Z, _, L, z, w, fun xs δ' vs F' H' p L' s r => ?_⟩
    show lspQ X.K sp X.A (vs ++ []) H' Q E0
    rw [List.append_nil]
    exact ⟨F', none, _, _, _, Lk.args L'.tbF L'.fh r, QtH.qb (zq z L' p.1), p.2, fun rr ob v F2 H2 p2 f2 k2 => q rr δ' v F2 H2 p2 (L'.after f2) (s.trans f2.f0) (L'.rok k2), fun C ob F2 H2 z2 f2 => z2⟩⟩
theorem s_parM (i j : Nat) {x y : Str} {t : T3A} {px py pt : Pos} {kt k2 pt2} (hN : X.N.Nodup) (hi : X.N[i]? = some x) (hj : X.N[j]? = some y) (hij : i ≠ j)
    (hx : X.env.scope.names.lookup x = some .local) (hy : X.env.scope.names.lookup y = some .local) (ha : A3 X (EQ X.A) [a, b] t)
    (hw : swappedStores [.Tuple [.Name x px, .Name y py] kt pt] (.Tuple [a, b] k2 pt2) X.env = pure (some [x, y]) := by rfl)
    (hs : swapsWithSole [.Tuple [.Name x px, .Name y py] kt pt] (.Tuple [a, b] k2 pt2) pos.line X.env = pure false := by rfl) :
    S3 X (EQ X.A) (.Assign [.Tuple [.Name x px, .Name y py] kt pt] (.Tuple [a, b] k2 pt2) pos) (tPrQ i j t) :=
  ⟨fun F0 H0 B => ps_imp (Fr.ps_parQ hN hi hj hij hx hy (ha.h F0 H0 B) hw hs) fun Dn σ H hh => ex4 hh fun δ F Z En L z w ok => ⟨δ, F, Z, _, L, z, w, fun xs δ' vs F' H' p L' s r => ⟨zq z L' p.1, by
    have p := p.2
    cases r with
    | nil => exact p.elim
    | cons r1 r =>
      cases r with
      | nil => exact p.elim
      | cons r2 r =>
        cases r with
        | cons _ _ => exact p.elim
        | nil => exact ⟨_, _, rfl, ok.nx _ _ F' H' p ((L'.set r1).set r2) s⟩⟩⟩⟩
end
/-! ### tries whose clause walks -/
def tTryAM (K : PySem.W.Frag) (i : Nat) (D : Addr) (j : Nat) (sp : Sp3) (t : T3A) (ts : T3S) : T3S := fun _ En δ => t noZ δ fun xs δ' => sp (xs.map Sl.d) (fun r _ => En.nx (δ'.set j r.sl)) (fun C _ => PySem.W.mroIn K C (.ref D) = some true ∧ ts allZ (enG i En) ((δ'.set i (.d (.exc C))).map Sl.dOnly))
/-- what a clause is run at: over a beginning of its own -/
def LSQ (K : PySem.W.Frag) (A : Around) (ts : T3S) : TS := fun Dn σ H => ∃ F0 H0, LS K (EQ A) F0 H0 none ts Dn σ H
section
variable {X : Cx} {E : XK} {n R x y : Str} {rp hpos tp p pos py p1 : Pos} {i j k : Nat} {D : Addr} {b₀ : Stmt} {suite : List Stmt} {t : T3A} {ts : T3S} {e : Expr} {es : List Expr} {ps : List Str} {sp : Sp3}
theorem qb_in {z C : Addr} {H : Hp} : QB (X.inex z).A (upd H z (Fr.ExcO z C)) none := QtH.qb (.inr ⟨z, C, rfl, upd_same⟩)
theorem s_tryAM (O : Own3 X.prog X.w X.K X.mg X.base k x ps sp) (hr : Room k X.A) (hgx : Gl X x) (ha : ∀ Ew, A3 (X.wish Ew) E0 (e :: es) t)
    (hst : X.stack = X.env :: X.outer ∧ X.env.frame = some X.env.locals) (hg : Gl X R) (hm : X.mg R = some (.ref D)) (cz : Fr.ClauseK X.K D) (nd : X.N.Nodup) (ix : X.N[i]? = some n) (lo : X.env.scope.names.lookup n = some .local) (jx : X.N[j]? = some y) (jl : X.env.scope.names.lookup y = some .local)
    (hs : ∀ z, B3 (X.inex z) (EQ (X.inex z).A) (b₀ :: suite) ts) (hdb : (x == ("__debug__" : Str)) = false := by decide) (db : (R == ("__debug__" : Str)) = false := by decide)
    (he : starEach (e :: es) X.env = (false, eval e X.env) :: starEach es X.env := by rfl) (hpl : (backTo pos (starEach es X.env)).any (·.1) = false := by rfl)
    (hsw : swapsWith (.Call (.Name x p) (e :: es) [] pos) (some (.Name y py)) p1.line X.env = pure false := by rfl) :
    S3 X E (.Try [.Assign [.Name y py] (.Call (.Name x p) (e :: es) [] pos) p1] [.ExceptHandler (some (.Name R rp)) (some n) (b₀ :: suite) hpos] [] [] tp) (tTryAM X.K i D j sp t ts) := ⟨fun F0 H0 B => by
  obtain ⟨f, fd, FF, hmx, hk, hb⟩ := O
  intro pins s σ H Dn I h
  obtain ⟨δ, F, Z, En, L, _, w, ok⟩ := h
  have PXX := Fr.px_call (t := LA X.K E0 F0 H0 B t) (p := p) (pos := pos) FF hr hgx hmx hk hb (fun Ew => (ha Ew).h F0 H0 B) hdb he hpl
  have hh : Fr.tXCall (lsp X.K sp) (LA X.K E0 F0 H0 B t) σ H (fun v H2 => Dn.nx (σ.set j (some v)) H2) (Fr.XT2 X i D (fun z => LSQ X.K (X.inex z).A ts) Dn σ) := by
    refine ⟨δ, F, noZ, _, L, fun _ _ _ _ _ _ z => z.elim, w, fun xs δ' vs F' H' p' L' s' r => ?_⟩
    refine ⟨F', none, _, _, _, Lk.args L'.tbF L'.fh r, p', fun rr ob v F2 H2 p2 f2 k2 => ?_, fun C ob F2 H2 z2 f2 => ?_⟩
    · exact ok.nx _ _ F2 H2 p2 ((L'.after f2).setR (L'.rok k2)) (s'.trans f2.f0)
    · refine ⟨C, rfl, z2.1, fun zz hz => ?_⟩
      have M := L'.after f2
      obtain ⟨M1, s1⟩ := M.newD (ho := Fr.ExcO zz C) hz
      have M2 := M1.set (i := i) (v := .ref zz) (x := .exc C) (.exc upd_same)
      have sF : Same F (upd F2 zz (Fr.ExcO zz C)) := (s'.trans f2.f0).trans s1
      exact ⟨_, _, _, _, allZ, enG i En, M2.begin, zok_all qb_in, z2.2, ⟨fun σ' δ' F' H' p M s => ok.nx _ _ F' H' p (M2.rebase M).gone (sF.trans s), fun r v σ' δ' F' H' p M s k => ok.rt r v σ' δ' F' H' p (M2.rebase M) (sF.trans s) (Rok.rebase M2 k), fun σ' δ' F' H' p M s => ok.bk _ _ F' H' p (M2.rebase M).gone (sF.trans s), fun σ' δ' F' H' p M s => ok.ct _ _ F' H' p (M2.rebase M).gone (sF.trans s)⟩⟩
  refine wpAny_Try_except (wpAny_execs_cons (wpAny_Assign_Name (thn (PXX _ pins s σ H _ _ I hh fun H1 s1 v s' I1 c => Fr.caught2 I1 hst c hg hm cz db nd ix lo fun z => ?_) fun v s1 z => ?_) hsw))
  · intro pins s σ H Dn I h
    obtain ⟨F0, H0, h⟩ := h
    exact (hs z).h F0 H0 none pins s σ H Dn I h
  · obtain ⟨u, H2, I2, r, q2⟩ := z
    exact store_ok I2 nd jx (Or.inl jl) r (fun s2 I3 => wpAny_execs_nil (wpAny_execs_nil ⟨_, H2, I3, q2⟩)) (.inr jl)⟩
end
end L3

set_option Elab.async false
set_option linter.all false
/-! The symbols of a level: orbits of pairs of rests, their least pairs. -/
namespace Fr
/-- the numbers from 1 to n without a common divisor with n -/
def fac (n : Nat) : List Nat := ((List.range n).map (· + 1)).filter fun k => Nat.gcd k n == 1
def act (n k : Nat) (p : Nat × Nat) : Nat × Nat := (k * p.1 % n, k * p.2 % n)
def orb (n : Nat) (p : Nat × Nat) : List (Nat × Nat) := (fac n).map fun k => act n k p
def good (n : Nat) (p : Nat × Nat) : Bool := Nat.gcd (Nat.gcd p.1 p.2) n == 1
def ple (p q : Nat × Nat) : Bool := decide (p.1 < q.1) || (decide (p.1 = q.1) && decide (p.2 ≤ q.2))
def isLeast (n : Nat) (p : Nat × Nat) : Bool := good n p && (orb n p).all fun q => ple p q
/-- all pairs of rests, in order: the t-th one is (t / n, t % n) -/
def prs (n t : Nat) : Nat × Nat := (t / n, t % n)
/-- the symbols among the first t pairs -/
def symT (n t : Nat) : List (Nat × Nat) := ((List.range t).map (prs n)).filter (isLeast n)
def syms (n : Nat) : List (Nat × Nat) := symT n (n * n)
/-- the number of the symbol that a pair of rests tells, among some -/
def numIn (n : Nat) (ss : List (Nat × Nat)) (q : Nat × Nat) : Option Nat := ss.findIdx? fun s => (orb n s).contains q
theorem fac_mem {n k : Nat} : k ∈ fac n ↔ (1 ≤ k ∧ k ≤ n ∧ Nat.gcd k n = 1) := by
  unfold fac
  rw [List.mem_filter, List.mem_map]
  constructor
  · rintro ⟨⟨a, ha, rfl⟩, h⟩
    have := List.mem_range.mp ha
    exact ⟨by omega, by omega, by simpa using h⟩
  · rintro ⟨h1, h2, h3⟩
    exact ⟨⟨k - 1, List.mem_range.mpr (by omega), by omega⟩, by simpa using h3⟩
theorem gcd_mod (a n : Nat) : Nat.gcd (a % n) n = Nat.gcd a n := by rw [← Nat.gcd_rec, Nat.gcd_comm]
def facOk (n : Nat) : Bool := (fac n).all fun a => (fac n).any fun b => a * b % n == 1 % n
theorem fac_ok : ∀ n, n ≤ 48 → facOk n = true := by
  have h : ((List.range 49).all fun n => facOk n) = true := by decide +kernel
  intro n hn
  exact List.all_eq_true.mp h n (List.mem_range.mpr (by omega))
theorem fac_inv {n a : Nat} (hn : n ≤ 48) (ha : a ∈ fac n) : ∃ b ∈ fac n, a * b % n = 1 % n := by
  have h := List.all_eq_true.mp (fac_ok n hn) a ha
  obtain ⟨b, hb, e⟩ := List.any_eq_true.mp h
  exact ⟨b, hb, by simpa using e⟩
theorem fac_rest {n a : Nat} (hn : 1 ≤ n) (h : Nat.gcd a n = 1) : ∃ c ∈ fac n, c % n = a % n := by
  by_cases z : a % n = 0
  · refine ⟨n, fac_mem.mpr ⟨hn, Nat.le_refl _, ?_⟩, by rw [z, Nat.mod_self]⟩
    rw [Nat.gcd_self]
    rw [← gcd_mod, z, Nat.gcd_zero_left] at h
    exact h
  · exact ⟨a % n, fac_mem.mpr ⟨by omega, Nat.le_of_lt (Nat.mod_lt _ hn), by rw [gcd_mod]; exact h⟩, Nat.mod_mod _ _⟩
theorem fac_mul {n a b : Nat} (hn : n ≤ 48) (ha : a ∈ fac n) (hb : b ∈ fac n) : ∃ c ∈ fac n, c % n = a * b % n := by
  obtain ⟨a1, a2, a3⟩ := fac_mem.mp ha
  exact fac_rest (by omega) (Nat.Coprime.mul_left a3 (fac_mem.mp hb).2.2)
theorem act_mod {n a b : Nat} (h : a % n = b % n) (p : Nat × Nat) : act n a p = act n b p := by
  unfold act
  rw [Nat.mul_mod a, Nat.mul_mod a p.2, h, ← Nat.mul_mod, ← Nat.mul_mod]
theorem act_act (n a b : Nat) (p : Nat × Nat) : act n a (act n b p) = act n (a * b) p := by
  unfold act
  simp only [Nat.mul_mod_mod, Nat.mul_assoc]
def inR (n : Nat) (p : Nat × Nat) : Prop := p.1 < n ∧ p.2 < n
theorem act_one {n : Nat} {p : Nat × Nat} (h : inR n p) : act n 1 p = p := by
  unfold act
  rw [Nat.one_mul, Nat.one_mul, Nat.mod_eq_of_lt h.1, Nat.mod_eq_of_lt h.2]
theorem act_inR {n k : Nat} (hn : 1 ≤ n) (p : Nat × Nat) : inR n (act n k p) := ⟨Nat.mod_lt _ hn, Nat.mod_lt _ hn⟩
theorem one_fac {n : Nat} (hn : 1 ≤ n) : 1 ∈ fac n := fac_mem.mpr ⟨Nat.le_refl _, hn, Nat.gcd_one_left n⟩
theorem orb_mem {n : Nat} {p q : Nat × Nat} : q ∈ orb n p ↔ ∃ k ∈ fac n, act n k p = q := by
  unfold orb
  rw [List.mem_map]
theorem orb_self {n : Nat} (hn : 1 ≤ n) {p : Nat × Nat} (h : inR n p) : p ∈ orb n p := orb_mem.mpr ⟨1, one_fac hn, act_one h⟩
theorem orb_symm {n : Nat} (hn : 1 ≤ n) (h48 : n ≤ 48) {p q : Nat × Nat} (hp : inR n p) (h : q ∈ orb n p) : p ∈ orb n q := by
  obtain ⟨k, hk, rfl⟩ := orb_mem.mp h
  obtain ⟨b, hb, e⟩ := fac_inv h48 hk
  refine orb_mem.mpr ⟨b, hb, ?_⟩
  rw [act_act, act_mod (show b * k % n = 1 % n by rw [Nat.mul_comm]; exact e), act_one hp]
theorem orb_trans {n : Nat} (h48 : n ≤ 48) {p q r : Nat × Nat} (h1 : q ∈ orb n p) (h2 : r ∈ orb n q) : r ∈ orb n p := by
  obtain ⟨k, hk, rfl⟩ := orb_mem.mp h1
  obtain ⟨j, hj, rfl⟩ := orb_mem.mp h2
  obtain ⟨c, hc, e⟩ := fac_mul h48 hj hk
  exact orb_mem.mpr ⟨c, hc, by rw [act_act, act_mod e]⟩
theorem orb_inR {n : Nat} (hn : 1 ≤ n) {p q : Nat × Nat} (h : q ∈ orb n p) : inR n q := by
  obtain ⟨k, hk, rfl⟩ := orb_mem.mp h
  exact act_inR hn p
theorem ple_iff {p q : Nat × Nat} : ple p q = true ↔ (p.1 < q.1 ∨ (p.1 = q.1 ∧ p.2 ≤ q.2)) := by
  unfold ple
  simp [Bool.or_eq_true, Bool.and_eq_true]
/-- a pair of rests stands at its place -/
def plc (n : Nat) (p : Nat × Nat) : Nat := p.1 * n + p.2
theorem prs_plc {n : Nat} {p : Nat × Nat} (h : inR n p) : prs n (plc n p) = p := by
  unfold prs plc
  have hn : 0 < n := Nat.lt_of_le_of_lt (Nat.zero_le _) h.1
  rw [Nat.mul_comm, Nat.mul_add_div hn, Nat.mul_add_mod, Nat.div_eq_of_lt h.2, Nat.mod_eq_of_lt h.2]
  simp
theorem plc_prs {n t : Nat} : plc n (prs n t) = t := by
  unfold prs plc
  rw [Nat.mul_comm]
  exact Nat.div_add_mod t n
theorem prs_inR {n t : Nat} (h : t < n * n) : inR n (prs n t) := by
  have hn : 0 < n := by
    rcases Nat.eq_zero_or_pos n with z | z
    · subst z; simp at h
    · exact z
  exact ⟨Nat.div_lt_of_lt_mul h, Nat.mod_lt _ hn⟩
theorem ple_plc {n : Nat} {p q : Nat × Nat} (hp : inR n p) (hq : inR n q) : ple p q = true ↔ plc n p ≤ plc n q := by
  rw [ple_iff]
  unfold plc
  constructor
  · rintro (h | ⟨h1, h2⟩)
    · have : (p.1 + 1) * n ≤ q.1 * n := Nat.mul_le_mul_right n h
      rw [Nat.add_mul, Nat.one_mul] at this
      have := hp.2
      omega
    · rw [h1]; omega
  · intro h
    by_cases e : p.1 < q.1
    · exact .inl e
    · refine .inr ?_
      by_cases e2 : p.1 = q.1
      · rw [e2] at h
        exact ⟨e2, by omega⟩
      · have e3 : q.1 + 1 ≤ p.1 := by omega
        have : (q.1 + 1) * n ≤ p.1 * n := Nat.mul_le_mul_right n e3
        rw [Nat.add_mul, Nat.one_mul] at this
        have := hq.2
        omega
/-- the least of an orbit -/
theorem least_ex {n : Nat} (hn : 1 ≤ n) (h48 : n ≤ 48) : ∀ (m : Nat) (p : Nat × Nat), plc n p ≤ m → inR n p → ∃ q ∈ orb n p, (orb n q).all (fun r => ple q r) = true
  | m, p, hm, hp => by
    by_cases h : (orb n p).all (fun r => ple p r) = true
    · exact ⟨p, orb_self hn hp, h⟩
    · have h' : ∃ r ∈ orb n p, ple p r = false := by
        apply Classical.byContradiction
        intro no
        apply h
        rw [List.all_eq_true]
        intro r hr
        cases e : ple p r with
        | true => rfl
        | false => exact absurd ⟨r, hr, e⟩ no
      obtain ⟨r, hr, e⟩ := h'
      have hr' := orb_inR hn hr
      have lt : plc n r < plc n p := by
        apply Nat.lt_of_not_le
        intro z
        rw [(ple_plc hp hr').mpr z] at e
        cases e
      match m, hm with
      | 0, hm => omega
      | m + 1, hm =>
        obtain ⟨q, hq, hl⟩ := least_ex hn h48 m r (by omega) hr'
        exact ⟨q, orb_trans h48 hr hq, hl⟩
theorem good_mod (n a b : Nat) : Nat.gcd (Nat.gcd (a % n) (b % n)) n = Nat.gcd (Nat.gcd a b) n := by
  rw [Nat.gcd_assoc, gcd_mod, Nat.gcd_comm b n, ← Nat.gcd_assoc, gcd_mod, Nat.gcd_assoc, Nat.gcd_comm n b, ← Nat.gcd_assoc]
theorem good_act {n k : Nat} (hk : k ∈ fac n) (p : Nat × Nat) : good n (act n k p) = good n p := by
  unfold good act
  dsimp only
  rw [good_mod, Nat.gcd_mul_left, Nat.Coprime.gcd_mul_left_cancel _ (fac_mem.mp hk).2.2]
theorem good_orb {n : Nat} {p q : Nat × Nat} (h : q ∈ orb n p) : good n q = good n p := by
  obtain ⟨k, hk, rfl⟩ := orb_mem.mp h
  exact good_act hk p
theorem isLeast_iff {n : Nat} {p : Nat × Nat} : isLeast n p = true ↔ (good n p = true ∧ ∀ q ∈ orb n p, ple p q = true) := by
  unfold isLeast
  rw [Bool.and_eq_true, List.all_eq_true]
/-- two least ones of one orbit are the same -/
theorem least_one {n : Nat} (hn : 1 ≤ n) (h48 : n ≤ 48) {p q : Nat × Nat} (hp : inR n p) (lp : isLeast n p = true) (lq : isLeast n q = true) (h : q ∈ orb n p) : p = q := by
  have hq := orb_inR hn h
  have a := (ple_plc hp hq).mp ((isLeast_iff.mp lp).2 q h)
  have b := (ple_plc hq hp).mp ((isLeast_iff.mp lq).2 p (orb_symm hn h48 hp h))
  rw [← prs_plc hp, ← prs_plc hq, Nat.le_antisymm a b]
theorem symT_mem {n t : Nat} {p : Nat × Nat} : p ∈ symT n t ↔ (isLeast n p = true ∧ ∃ i < t, prs n i = p) := by
  unfold symT
  rw [List.mem_filter, List.mem_map]
  constructor
  · rintro ⟨⟨i, hi, e⟩, h⟩
    exact ⟨h, i, List.mem_range.mp hi, e⟩
  · rintro ⟨h, i, hi, e⟩
    exact ⟨⟨i, List.mem_range.mpr hi, e⟩, h⟩
theorem symT_succ (n t : Nat) : symT n (t + 1) = symT n t ++ (if isLeast n (prs n t) = true then [prs n t] else []) := by
  unfold symT
  rw [List.range_succ, List.map_append, List.filter_append]
  by_cases h : isLeast n (prs n t) = true
  · rw [if_pos h]
    simp [h]
  · rw [if_neg h]
    simp [h]
theorem symT_inR {n t : Nat} (ht : t ≤ n * n) {p : Nat × Nat} (h : p ∈ symT n t) : inR n p := by
  obtain ⟨_, i, hi, rfl⟩ := symT_mem.mp h
  exact prs_inR (by omega)
/-- a good pair of rests is told by a symbol that stands no later -/
theorem has_sym {n : Nat} (hn : 1 ≤ n) (h48 : n ≤ 48) {p : Nat × Nat} (hp : inR n p) (g : good n p = true) : ∃ s ∈ symT n (plc n p + 1), p ∈ orb n s := by
  obtain ⟨q, hq, hl⟩ := least_ex hn h48 (plc n p) p (Nat.le_refl _) hp
  have hq' := orb_inR hn hq
  have lq : isLeast n q = true := isLeast_iff.mpr ⟨by rw [good_orb hq]; exact g, fun r hr => List.all_eq_true.mp hl r hr⟩
  have hs := orb_symm hn h48 hp hq
  have := (ple_plc hq' hp).mp ((isLeast_iff.mp lq).2 p hs)
  exact ⟨q, symT_mem.mpr ⟨lq, plc n q, by omega, prs_plc hq'⟩, hs⟩
/-- a pair is new just where it is the least of its orbit -/
theorem new_iff {n t : Nat} (hn : 1 ≤ n) (h48 : n ≤ 48) (ht : t < n * n) : ((numIn n (symT n t) (prs n t)).isNone = true ∧ good n (prs n t) = true) ↔ isLeast n (prs n t) = true := by
  have hp := prs_inR ht
  unfold numIn
  rw [Option.isNone_iff_eq_none, List.findIdx?_eq_none_iff]
  constructor
  · rintro ⟨h, g⟩
    obtain ⟨s, hs, ho⟩ := has_sym hn h48 hp g
    rw [plc_prs, symT_succ] at hs
    rcases List.mem_append.mp hs with hs | hs
    · have := h s hs
      rw [List.contains_iff_mem.mpr ho] at this
      cases this
    · split at hs
      · assumption
      · cases hs
  · intro l
    refine ⟨fun s hs => ?_, (isLeast_iff.mp l).1⟩
    have hsR := symT_inR (Nat.le_of_lt ht) hs
    obtain ⟨ls, i, hi, e⟩ := symT_mem.mp hs
    cases c : (orb n s).contains (prs n t) with
    | false => rfl
    | true =>
      have ho := List.contains_iff_mem.mp c
      have := least_one hn h48 hsR ls l ho
      rw [← e] at this
      have := congrArg (plc n) this
      rw [plc_prs, plc_prs] at this
      omega
/-- the number behind a new symbol -/
theorem numIn_snoc {n : Nat} {ss : List (Nat × Nat)} {s q : Nat × Nat} (dis : ∀ s' ∈ ss, q ∈ orb n s → q ∉ orb n s') : numIn n (ss ++ [s]) q = if (orb n s).contains q = true then some ss.length else numIn n ss q := by
  unfold numIn
  rw [List.findIdx?_append]
  by_cases c : (orb n s).contains q = true
  · rw [if_pos c]
    have : ss.findIdx? (fun s => (orb n s).contains q) = none := List.findIdx?_eq_none_iff.mpr fun s' hs' => by
      cases e : (orb n s').contains q with
      | false => rfl
      | true => exact absurd (List.contains_iff_mem.mp e) (dis s' hs' (List.contains_iff_mem.mp c))
    rw [this]
    simp [List.findIdx?_cons, List.contains_iff_mem.mp c]
  · rw [if_neg c]
    have c' : q ∉ orb n s := fun z => c (List.contains_iff_mem.mpr z)
    simp [List.findIdx?_cons, c']
theorem dis_of {n t : Nat} (hn : 1 ≤ n) (h48 : n ≤ 48) (ht : t < n * n) (l : isLeast n (prs n t) = true) (q : Nat × Nat) : ∀ s' ∈ symT n t, q ∈ orb n (prs n t) → q ∉ orb n s' := by
  intro s' hs' h1 h2
  have hsR := symT_inR (Nat.le_of_lt ht) hs'
  obtain ⟨ls, i, hi, e⟩ := symT_mem.mp hs'
  have h3 := orb_trans h48 h2 (orb_symm hn h48 (prs_inR ht) h1)
  have := least_one hn h48 hsR ls l h3
  rw [← e] at this
  have := congrArg (plc n) this
  rw [plc_prs, plc_prs] at this
  omega
end Fr

set_option Elab.async false
set_option linter.all false
set_option maxRecDepth 100000
set_option maxHeartbeats 8000000
/-! pairs that lie in one orbit: by their cross product -/
namespace Fr
theorem bez (a b : Nat) : ∃ x y : Int, x * a + y * b = (Nat.gcd a b : Nat) := by
  induction a, b using Nat.gcd.induction with
  | H0 n => exact ⟨0, 1, by simp⟩
  | H1 m n hm ih =>
    obtain ⟨x, y, e⟩ := ih
    refine ⟨y - x * (n / m : Nat), x, ?_⟩
    rw [Nat.gcd_rec m n, ← e]
    have h : (n : Int) = (n % m : Nat) + (m : Int) * (n / m : Nat) := by
      have := Nat.mod_add_div n m
      omega
    generalize (n / m : Nat) = q at *
    generalize (n % m : Nat) = r at *
    rw [h]
    grind
end Fr

set_option Elab.async false
set_option linter.all false
set_option maxRecDepth 100000
set_option maxHeartbeats 8000000
/-! turnings -/
namespace Fr
structure Mt where
  a : Int
  b : Int
  c : Int
  d : Int
namespace Mt
def mul (m k : Mt) : Mt := ⟨m.a * k.a + m.b * k.c, m.a * k.b + m.b * k.d, m.c * k.a + m.d * k.c, m.c * k.b + m.d * k.d⟩
def inv (m : Mt) : Mt := ⟨m.d, -m.b, -m.c, m.a⟩
def det (m : Mt) : Int := m.a * m.d - m.b * m.c
def bd (B : Nat) (m : Mt) : Prop := m.a.natAbs < 2 ^ B ∧ m.b.natAbs < 2 ^ B ∧ m.c.natAbs < 2 ^ B ∧ m.d.natAbs < 2 ^ B
theorem det_mul (m k : Mt) : (m.mul k).det = m.det * k.det := by
  unfold mul det
  grind
theorem det_inv (m : Mt) : m.inv.det = m.det := by
  unfold inv det
  grind
theorem bd_inv {B : Nat} {m : Mt} (h : bd B m) : bd B m.inv := ⟨h.2.2.2, by show (-m.b).natAbs < _; rw [Int.natAbs_neg]; exact h.2.1, by show (-m.c).natAbs < _; rw [Int.natAbs_neg]; exact h.2.2.1, h.1⟩
theorem bd_mono {B B' : Nat} {m : Mt} (h : bd B m) (le : B ≤ B') : bd B' m := by
  have : 2 ^ B ≤ 2 ^ B' := Nat.pow_le_pow_right (by decide) le
  obtain ⟨h1, h2, h3, h4⟩ := h
  exact ⟨by omega, by omega, by omega, by omega⟩
theorem bd_two {A B : Nat} {x y z w : Int} (hx : x.natAbs < 2 ^ A) (hy : y.natAbs < 2 ^ B) (hz : z.natAbs < 2 ^ A) (hw : w.natAbs < 2 ^ B) : (x * y + z * w).natAbs < 2 ^ (A + B + 1) := by
  have h1 := Int.natAbs_add_le (x * y) (z * w)
  rw [Int.natAbs_mul, Int.natAbs_mul] at h1
  have h2 : x.natAbs * y.natAbs < 2 ^ A * 2 ^ B := Nat.mul_lt_mul'' hx hy
  have h3 : z.natAbs * w.natAbs < 2 ^ A * 2 ^ B := Nat.mul_lt_mul'' hz hw
  rw [Nat.pow_succ, Nat.pow_add]
  omega
theorem bd_mul {A B : Nat} {m k : Mt} (h : bd A m) (h' : bd B k) : bd (A + B + 1) (m.mul k) :=
  ⟨bd_two h.1 h'.1 h.2.1 h'.2.2.1, bd_two h.1 h'.2.1 h.2.1 h'.2.2.2, bd_two h.2.2.1 h'.1 h.2.2.2 h'.2.2.1, bd_two h.2.2.1 h'.2.1 h.2.2.2 h'.2.2.2⟩
end Mt
/-! ### a pair without a common divisor above a symbol -/
/-! ### shares -/
theorem share_step {x y s ls w r B : Int} (hy : 0 < y) (hr : 0 ≤ r) (e : x = y * w + r) (w0 : 0 ≤ w) (h : (ls.natAbs : Int) * x + (s.natAbs : Int) * y ≤ B) : (((s - w * ls).natAbs : Nat) : Int) * y + (ls.natAbs : Int) * r ≤ B ∧ (((s - w * ls).natAbs : Nat) : Int) ≤ B := by
  have h0 := Int.natAbs_sub_le s (w * ls)
  rw [Int.natAbs_mul] at h0
  have ew : ((w.natAbs * ls.natAbs : Nat) : Int) = w * (ls.natAbs : Int) := by
    rw [Int.natCast_mul, Int.natAbs_of_nonneg w0]
  have h1 : (((s - w * ls).natAbs : Nat) : Int) ≤ (s.natAbs : Int) + w * (ls.natAbs : Int) := by omega
  generalize hN : (((s - w * ls).natAbs : Nat) : Int) = N at *
  have N0 : 0 ≤ N := by omega
  generalize hS : (s.natAbs : Int) = S at *
  generalize hLS : (ls.natAbs : Int) = LS at *
  have LS0 : 0 ≤ LS := by omega
  have h2 := Int.mul_le_mul_of_nonneg_right h1 (Int.le_of_lt hy)
  have e2 : (S + w * LS) * y + LS * r = LS * x + S * y := by
    rw [e]
    grind
  have h3 : N * y + LS * r ≤ B := by omega
  have h4 : 0 ≤ LS * r := Int.mul_nonneg LS0 hr
  have h5 : N * 1 ≤ N * y := Int.mul_le_mul_of_nonneg_left (by omega) N0
  exact ⟨h3, by omega⟩
end Fr

set_option Elab.async false
set_option linter.all false
set_option maxRecDepth 100000
set_option maxHeartbeats 8000000
/-! places in lowest terms; the end of a place -/
namespace Fr
structure IsShort (t b p q : Int) : Prop where
  ex : ∃ g : Int, g ≠ 0 ∧ t = g * p ∧ b = g * q
  co : Int.gcd p q = 1
  sg : 0 < q ∨ (q = 0 ∧ p = 1)
  bp : p.natAbs ≤ t.natAbs
  bq : q.natAbs ≤ b.natAbs
def shS (t b : Int) : Int := if b < 0 ∨ (b = 0 ∧ t < 0) then 0 - (Int.gcd t b : Int) else (Int.gcd t b : Int)
theorem gcd_pos' {t b : Int} (h : t ≠ 0 ∨ b ≠ 0) : 0 < Int.gcd t b := by
  rcases Nat.eq_zero_or_pos (Int.gcd t b) with e | e
  · have h1 := Int.gcd_eq_zero_iff.mp e
    rcases h with h | h
    · exact absurd h1.1 h
    · exact absurd h1.2 h
  · exact e
theorem natAbs_le_mulE {g p : Int} (h : g ≠ 0) : p.natAbs ≤ (g * p).natAbs := by
  rw [Int.natAbs_mul]
  exact Nat.le_mul_of_pos_left _ (by omega)
theorem isShort {t b : Int} (h : t ≠ 0 ∨ b ≠ 0) : IsShort t b (t.fdiv (shS t b)) (b.fdiv (shS t b)) := by
  have gp := gcd_pos' h
  obtain ⟨p0, e1⟩ := Int.gcd_dvd_left (a := t) (b := b)
  obtain ⟨q0, e2⟩ := Int.gcd_dvd_right (a := t) (b := b)
  have co : Int.gcd p0 q0 = 1 := by
    have e : Int.gcd ((Int.gcd t b : Int) * p0) ((Int.gcd t b : Int) * q0) = Int.gcd t b := by rw [← e1, ← e2]
    rw [Int.gcd_mul_left] at e
    have e3 : Int.gcd t b * Int.gcd p0 q0 = Int.gcd t b * 1 := by simpa using e
    exact Nat.eq_of_mul_eq_mul_left gp e3
  generalize hg : ((Int.gcd t b : Nat) : Int) = g at e1 e2
  have g0 : 0 < g := by omega
  have gz : g ≠ 0 := by omega
  have sq : 0 < b ↔ 0 < q0 := by
    rw [e2]
    exact ⟨fun z => Int.pos_of_mul_pos_right z (by omega) , fun z => Int.mul_pos g0 z⟩
  have zq : b = 0 ↔ q0 = 0 := by
    rw [e2]
    exact ⟨fun z => by rcases Int.mul_eq_zero.mp z with z | z <;> omega, fun z => by rw [z, Int.mul_zero]⟩
  have sp : 0 < t ↔ 0 < p0 := by
    rw [e1]
    exact ⟨fun z => Int.pos_of_mul_pos_right z (by omega), fun z => Int.mul_pos g0 z⟩
  have zp : t = 0 ↔ p0 = 0 := by
    rw [e1]
    exact ⟨fun z => by rcases Int.mul_eq_zero.mp z with z | z <;> omega, fun z => by rw [z, Int.mul_zero]⟩
  have one : q0 = 0 → p0.natAbs = 1 := fun z => by
    rw [z, Int.gcd_zero_right] at co
    exact co
  unfold shS
  rw [hg]
  by_cases c : b < 0 ∨ (b = 0 ∧ t < 0)
  · rw [if_pos c]
    have f1 : t.fdiv (0 - g) = -p0 := by
      have : t = (0 - g) * -p0 := by rw [e1]; grind
      rw [this]
      exact Int.mul_fdiv_cancel_left _ (by omega)
    have f2 : b.fdiv (0 - g) = -q0 := by
      have : b = (0 - g) * -q0 := by rw [e2]; grind
      rw [this]
      exact Int.mul_fdiv_cancel_left _ (by omega)
    rw [f1, f2]
    refine ⟨⟨0 - g, by omega, by rw [e1]; grind, by rw [e2]; grind⟩, by rw [Int.gcd_neg, Int.neg_gcd]; exact co, ?_, ?_, ?_⟩
    · omega
    · rw [Int.natAbs_neg, e1]; exact natAbs_le_mulE gz
    · rw [Int.natAbs_neg, e2]; exact natAbs_le_mulE gz
  · rw [if_neg c]
    have f1 : t.fdiv g = p0 := by
      rw [e1]
      exact Int.mul_fdiv_cancel_left _ gz
    have f2 : b.fdiv g = q0 := by
      rw [e2]
      exact Int.mul_fdiv_cancel_left _ gz
    rw [f1, f2]
    refine ⟨⟨g, gz, e1, e2⟩, co, ?_, by rw [e1]; exact natAbs_le_mulE gz, by rw [e2]; exact natAbs_le_mulE gz⟩
    omega
/-! ### ends -/
def endD (n : Nat) (q : Int) : Int := Int.gcd q n
def endM (n : Nat) (q : Int) : Int := Int.gcd (endD n q) ((n : Int) / endD n q)
def endR (n : Nat) (p q : Int) : Int := (p * (q / endD n q)) % endM n q
theorem endD_pos {n : Nat} (hn : 1 ≤ n) (q : Int) : 0 < endD n q ∧ endD n q ≤ n := by
  have h1 : 0 < Int.gcd q n := gcd_pos' (.inr (by omega))
  have h2 : Int.gcd q n ≤ n := by
    have := Int.gcd_dvd_right (a := q) (b := n)
    exact Nat.le_of_dvd hn (Int.natCast_dvd_natCast.mp this)
  unfold endD
  omega
theorem endM_pos {n : Nat} (hn : 1 ≤ n) (q : Int) : 0 < endM n q := by
  have := endD_pos hn q
  have h1 : 0 < Int.gcd (endD n q) ((n : Int) / endD n q) := gcd_pos' (.inl (by omega))
  unfold endM
  omega
theorem mod_same {a b m : Int} (h : m ∣ a - b) : a % m = b % m := by
  obtain ⟨t, ht⟩ := h
  have e : a = b + m * t := by omega
  rw [e, Int.add_mul_emod_self_left]
/-- what is short of a coprime pair is that pair or its mirror -/
theorem short_unit {t b p q : Int} (h : IsShort t b p q) (co : Int.gcd t b = 1) : (p = t ∧ q = b) ∨ (p = -t ∧ q = -b) := by
  obtain ⟨g, g0, e1, e2⟩ := h.ex
  have d : g ∣ ((Int.gcd t b : Nat) : Int) := Int.dvd_coe_gcd ⟨p, e1⟩ ⟨q, e2⟩
  rw [co] at d
  have : g.natAbs = 1 := by
    have := Int.natAbs_dvd_natAbs.mpr d
    exact Nat.dvd_one.mp (by simpa using this)
  rcases Int.natAbs_eq g with e | e
  · rw [this] at e
    left
    subst e
    constructor <;> omega
  · rw [this] at e
    right
    subst e
    constructor <;> omega
end Fr

set_option Elab.async false
set_option linter.all false
set_option maxRecDepth 100000
set_option maxHeartbeats 8000000
/-! which places a level's turnings lead to one another -/
namespace Fr
theorem bezI (a b : Int) : ∃ x y : Int, x * a + y * b = (Int.gcd a b : Nat) := by
  obtain ⟨x, y, e⟩ := bez a.natAbs b.natAbs
  have h : ((Nat.gcd a.natAbs b.natAbs : Nat) : Int) = (Int.gcd a b : Nat) := rfl
  rw [h] at e
  rcases Int.natAbs_eq a with ha | ha <;> rcases Int.natAbs_eq b with hb | hb
  · exact ⟨x, y, by rw [← e, ← ha, ← hb]⟩
  · exact ⟨x, -y, by rw [← e, ← ha]; conv => lhs; rw [hb]
                     grind⟩
  · exact ⟨-x, y, by rw [← e, ← hb]; conv => lhs; rw [ha]
                     grind⟩
  · exact ⟨-x, -y, by rw [← e]; conv => lhs; rw [ha, hb]
                      grind⟩
/-- a congruence that has an answer has one among the rests -/
theorem solve {n : Nat} (hn : 1 ≤ n) {A B : Int} (h : ((Int.gcd A n : Nat) : Int) ∣ B) : ∃ j : Nat, j < n ∧ (n : Int) ∣ B - j * A := by
  obtain ⟨x, y, e⟩ := bezI A n
  obtain ⟨t, ht⟩ := h
  have hn0 : (n : Int) ≠ 0 := by omega
  have k0 := Int.emod_nonneg (t * x) hn0
  have k1 := Int.emod_lt_of_pos (t * x) (show (0 : Int) < n by omega)
  have k2 := Int.emod_add_mul_ediv (t * x) n
  refine ⟨(t * x % n).toNat, by omega, ?_⟩
  rw [Int.toNat_of_nonneg k0]
  generalize t * x % n = r at *
  generalize t * x / n = q at *
  rw [ht, ← e]
  refine ⟨t * y + q * A, ?_⟩
  have : r = t * x - n * q := by omega
  rw [this]
  grind
structure Lft (n : Nat) (q d m r : Int) : Prop where
  d0 : 0 < d
  en : (n : Int) = d * m
  eq : q = d * r
  co : Int.gcd r m = 1
theorem lft {n : Nat} (hn : 1 ≤ n) (q : Int) : ∃ m r, Lft n q (endD n q) m r ∧ (n : Int) / endD n q = m ∧ q / endD n q = r := by
  have d0 := endD_pos hn q
  have dn : endD n q ∣ (n : Int) := Int.gcd_dvd_right ..
  have dq : endD n q ∣ q := Int.gcd_dvd_left ..
  have hd : endD n q = ((Int.gcd q n : Nat) : Int) := rfl
  generalize endD n q = d at *
  obtain ⟨m, em⟩ := dn
  obtain ⟨r, er⟩ := dq
  have dz : d ≠ 0 := by omega
  refine ⟨m, r, ⟨d0.1, em, er, ?_⟩, by rw [em]; exact Int.mul_ediv_cancel_left _ dz, by rw [er]; exact Int.mul_ediv_cancel_left _ dz⟩
  have e : Int.gcd (d * r) (d * m) = Int.gcd q n := by rw [← em, ← er]
  rw [Int.gcd_mul_left] at e
  have h1 : d.natAbs = Int.gcd q n := by omega
  rw [← h1] at e
  have e3 : d.natAbs * Int.gcd r m = d.natAbs * 1 := by omega
  exact Nat.eq_of_mul_eq_mul_left (by omega) e3
theorem co_of {a b x y : Int} (h : x * a + y * b = 1) : Int.gcd a b = 1 := by
  have h1 : ((Int.gcd a b : Nat) : Int) ∣ 1 := by
    rw [← h]
    exact Int.dvd_add (Int.dvd_mul_of_dvd_right (Int.gcd_dvd_left ..)) (Int.dvd_mul_of_dvd_right (Int.gcd_dvd_right ..))
  have := Int.natCast_dvd_natCast.mp (show ((Int.gcd a b : Nat) : Int) ∣ ((1 : Nat) : Int) from h1)
  exact Nat.dvd_one.mp this
theorem to_co {a b : Int} (h : Int.gcd a b = 1) : ∃ x y : Int, x * a + y * b = 1 := by
  obtain ⟨x, y, e⟩ := bezI a b
  rw [h] at e
  exact ⟨x, y, e⟩
/-- the common divisor of d r r' and m where r and r' have none with m -/
theorem gcd_cut {d r r' m : Int} (h : Int.gcd r m = 1) (h' : Int.gcd r' m = 1) : Int.gcd (d * (r * r')) m = Int.gcd d m := by
  obtain ⟨x, y, e⟩ := to_co h
  obtain ⟨x', y', e'⟩ := to_co h'
  refine Nat.dvd_antisymm ?_ ?_
  · refine Int.natCast_dvd_natCast.mp (Int.dvd_coe_gcd ?_ (Int.gcd_dvd_right ..))
    have g1 := Int.gcd_dvd_left (a := d * (r * r')) (b := m)
    have g2 := Int.gcd_dvd_right (a := d * (r * r')) (b := m)
    generalize ((Int.gcd (d * (r * r')) m : Nat) : Int) = g at *
    obtain ⟨s, hs⟩ := g1
    obtain ⟨t, ht⟩ := g2
    have e1 : d = d * ((x * r + y * m) * (x' * r' + y' * m)) := by rw [e, e']; grind
    have e2 : d * ((x * r + y * m) * (x' * r' + y' * m)) = x * x' * (d * (r * r')) + m * (d * (x * r * y' + y * (x' * r' + y' * m))) := by grind
    rw [e1, e2, hs]
    refine ⟨x * x' * s + t * (d * (x * r * y' + y * (x' * r' + y' * m))), ?_⟩
    generalize d * (x * r * y' + y * (x' * r' + y' * m)) = z at *
    rw [ht]
    grind
  · refine Int.natCast_dvd_natCast.mp (Int.dvd_coe_gcd ?_ (Int.gcd_dvd_right ..))
    exact Int.dvd_mul_of_dvd_left (Int.gcd_dvd_left ..)
theorem mod_dvd {a b m : Int} (h : a % m = b % m) : m ∣ a - b := by
  have h1 := Int.emod_add_mul_ediv a m
  have h2 := Int.emod_add_mul_ediv b m
  exact ⟨a / m - b / m, by grind⟩
/-- two places at one end: some power of U between leads the one to the other within the level -/
theorem one_end {n : Nat} (hn : 1 ≤ n) {a c e l a' c' e' l' : Int} (h1 : a * e + l * c = 1) (h2 : a' * e' + l' * c' = 1) (hd : endD n c = endD n c') (hr : endR n a c = endR n a' c') :
    ∃ j : Nat, j < n ∧ (n : Int) ∣ (c' * e - e' * c) - j * (c * c') := by
  refine solve hn ?_
  obtain ⟨m, r, L, em, er⟩ := lft hn c
  obtain ⟨m', r', L', em', er'⟩ := lft hn c'
  have hM : endM n c = ((Int.gcd (endD n c) m : Nat) : Int) := by unfold endM; rw [em]
  have hM' : endM n c' = ((Int.gcd (endD n c) m : Nat) : Int) := by unfold endM; rw [em', ← hd, ← em', ← hd, em]
  unfold endR at hr
  rw [er, er', hM, hM'] at hr
  rw [← hd] at L'
  generalize endD n c = d at *
  obtain ⟨d0, en, ec, co⟩ := L
  obtain ⟨_, en', ec', co'⟩ := L'
  have mm : m' = m := by
    have : d * m' = d * m := by rw [← en, ← en']
    exact Int.eq_of_mul_eq_mul_left (by omega) this
  subst mm
  have g1 := Int.gcd_dvd_left (a := d) (b := m')
  have g2 := Int.gcd_dvd_right (a := d) (b := m')
  have eg : Int.gcd (c * c') n = d.natAbs * Int.gcd d m' := by
    rw [ec, ec', en]
    have : d * r * (d * r') = d * (d * (r * r')) := by grind
    rw [this, Int.gcd_mul_left, gcd_cut co co']
  rw [eg]
  have hz := mod_dvd hr
  have ez : ((d.natAbs * Int.gcd d m' : Nat) : Int) = d * ((Int.gcd d m' : Nat) : Int) := by
    rw [Int.natCast_mul]
    have : ((d.natAbs : Nat) : Int) = d := by omega
    rw [this]
  rw [ez]
  generalize ((Int.gcd d m' : Nat) : Int) = g at *
  obtain ⟨z, hz⟩ := hz
  obtain ⟨u, hu⟩ := g1
  have k1 : c' * e - e' * c = d * (r' * e - e' * r) := by rw [ec, ec']; grind
  rw [k1]
  refine Int.mul_dvd_mul_left d ?_
  -- e e' (a r - a' r') = e' r - e r' modulo g
  refine ⟨r' * e * (l' * u * r') - e' * r * (l * u * r) - e * e' * z + 0 , ?_⟩
  have f1 : a * e = 1 - l * (g * u * r) := by rw [← hu, ← ec]; omega
  have f2 : a' * e' = 1 - l' * (g * u * r') := by rw [← hu, ← ec']; omega
  have f3 : e * e' * (a * r - a' * r') = e * e' * (g * z) := by rw [hz]
  grind
theorem dvd_of_co {d e x : Int} (h : Int.gcd d e = 1) (k : d ∣ x * e) : d ∣ x := by
  obtain ⟨s, t, q⟩ := to_co h
  obtain ⟨z, hz⟩ := k
  exact ⟨x * s + t * z, by grind⟩
theorem endD_dvd {n : Nat} {c c' e e' l a : Int} {j : Int} (h1 : a * e + l * c = 1) (k : (n : Int) ∣ (c' * e - e' * c) - j * (c * c')) : endD n c ∣ endD n c' := by
  have g1 : endD n c ∣ c := Int.gcd_dvd_left ..
  have g2 : endD n c ∣ (n : Int) := Int.gcd_dvd_right ..
  refine Int.dvd_coe_gcd ?_ g2
  generalize endD n c = d at *
  have k2 := Int.dvd_trans g2 k
  obtain ⟨u, hu⟩ := g1
  obtain ⟨z, hz⟩ := k2
  refine dvd_of_co (e := e) (co_of (x := l * u) (y := a) (by rw [← h1, hu]; grind)) ⟨z + e' * u + j * u * c', ?_⟩
  have : c' * e = d * z + e' * c + j * (c * c') := by omega
  rw [this, hu]
  grind
/-- what a power of U between leads within the level is at one end -/
theorem end_one {n : Nat} (hn : 1 ≤ n) {a c e l a' c' e' l' : Int} {j : Int} (h1 : a * e + l * c = 1) (h2 : a' * e' + l' * c' = 1) (k : (n : Int) ∣ (c' * e - e' * c) - j * (c * c')) : endD n c = endD n c' ∧ endR n a c = endR n a' c' := by
  have hd : endD n c = endD n c' := by
    have p1 := endD_pos hn c
    have p2 := endD_pos hn c'
    have q1 := Int.le_of_dvd p2.1 (endD_dvd h1 k)
    have k' : (n : Int) ∣ (c * e' - e * c') - (-j) * (c' * c) := by
      obtain ⟨z, hz⟩ := k
      exact ⟨-z, by grind⟩
    have q2 := Int.le_of_dvd p1.1 (endD_dvd h2 k')
    omega
  refine ⟨hd, ?_⟩
  obtain ⟨m, r, L, em, er⟩ := lft hn c
  obtain ⟨m', r', L', em', er'⟩ := lft hn c'
  have hM : endM n c = ((Int.gcd (endD n c) m : Nat) : Int) := by unfold endM; rw [em]
  have hM' : endM n c' = ((Int.gcd (endD n c) m : Nat) : Int) := by unfold endM; rw [em', ← hd, ← em', ← hd, em]
  unfold endR
  rw [er, er', hM, hM']
  rw [← hd] at L'
  generalize endD n c = d at *
  obtain ⟨d0, en, ec, co⟩ := L
  obtain ⟨_, en', ec', co'⟩ := L'
  have mm : m' = m := by
    have : d * m' = d * m := by rw [← en, ← en']
    exact Int.eq_of_mul_eq_mul_left (by omega) this
  subst mm
  have g1 := Int.gcd_dvd_left (a := d) (b := m')
  have g2 := Int.gcd_dvd_right (a := d) (b := m')
  generalize ((Int.gcd d m' : Nat) : Int) = g at *
  obtain ⟨u, hu⟩ := g1
  obtain ⟨v, hv⟩ := g2
  obtain ⟨z, hz⟩ := k
  have k1 : d * (r' * e - e' * r - j * (d * (r * r'))) = d * (m' * z) := by
    have : d * (m' * z) = (n : Int) * z := by rw [en]; grind
    rw [this, ← hz, ec, ec']
    grind
  have k2 : r' * e - e' * r - j * (d * (r * r')) = m' * z := Int.eq_of_mul_eq_mul_left (by omega) k1
  refine mod_same ?_
  have f1 : a * e = 1 - l * (g * u * r) := by rw [← hu, ← ec]; omega
  have f2 : a' * e' = 1 - l' * (g * u * r') := by rw [← hu, ← ec']; omega
  have k3 : r' * e - e' * r = g * (j * (u * (r * r')) + v * z) := by
    have : r' * e - e' * r = j * (d * (r * r')) + m' * z := by omega
    rw [this, hv]
    conv => lhs; rw [hu]
    grind
  -- a a' (r' e - e' r) = a' r' - a r modulo g
  refine ⟨- (a * a' * (j * (u * (r * r')) + v * z)) - a' * r' * (l * u * r) + a * r * (l' * u * r'), ?_⟩
  have k4 : a * a' * (r' * e - e' * r) = a * a' * (g * (j * (u * (r * r')) + v * z)) := by rw [k3]
  generalize j * (u * (r * r')) + v * z = w at *
  grind
end Fr

set_option Elab.async false
set_option linter.all false
set_option maxRecDepth 100000
set_option maxHeartbeats 8000000
namespace Fr
open PySem L2
local macro_rules | `(tactic| walk_at "rd1") => `(tactic| first
  | refine ⟨_, rfl, ?_⟩
  | refine ⟨_, _, rfl, rfl, ?_⟩
  | refine ⟨_, _, _, _, rfl, rfl, SqL.of (by assumption), rfl, ?_⟩
  | refine ⟨_, _, _, _, rfl, rfl, SqT.of (by assumption), rfl, ?_⟩
  | refine ⟨_, _, _, _, rfl, rfl, (by assumption), rfl, ?_⟩
  | refine ⟨cmb_r (by omega) (by omega), ?_⟩
  | refine ⟨cmb_l (by omega) (by omega), ?_⟩
  | refine ⟨cmb_b (by omega) (by omega), ?_⟩
  | refine ⟨⟨(by assumption : _ < Big), (by assumption : _ < Big)⟩, ?_⟩
  | refine ⟨⟨(by omega : _ < Big), (by omega : _ < Big)⟩, ?_⟩
  | refine ⟨(by omega : (0 : Int) < _), ?_⟩
  | refine ⟨⟨(by omega : (0 : Int) < _), (by omega : _ < (2 ^ 250 : Int))⟩, ?_⟩
  | refine Or.inl ⟨_, rfl, ?_⟩
  | refine Or.inr ⟨_, rfl, ?_⟩
  | refine ⟨_, _, rfl, Or.inl (by assumption), ?_⟩
  | refine ⟨_, _, rfl, Or.inl (SqL.of (by assumption)), ?_⟩
  | refine ⟨_, _, rfl, SqT.of (by assumption), rfl, ?_⟩
  | refine ⟨_, _, rfl, (by assumption), rfl, ?_⟩
  | refine ⟨_, _, rfl, ?_⟩
  | refine ⟨rfl, ?_⟩)
local macro_rules | `(tactic| walk_at "rd") => `(tactic| repeat walk_at "rd1")
def top (i : Nat) : Stmt := PySem.Challenge.pw_fractionroads_k21_apart.main.body.getD i (.Pass ⟨0, 0, 0, 0⟩)
abbrev sPurse : Stmt := top 33
abbrev sTake : Stmt := top 34
/-! ### promises -/
def Purse (H : Hp) (p : Addr) : Prop := ∃ a b : Int, H p = some (.lst [.int a, .int b]) ∧ 0 ≤ a
def spPurse (K : PySem.W.Frag) : Sp := fun vs H Q _ => ∃ (l : Addr) (ns : List Int) (k : Nat), vs = [.ref l, .int k] ∧ SqL K H l (ns.map V.int) ∧ k < 2 ^ 60 ∧ ∀ (p : Addr) (H' : Hp), H p = none → Purse H' p → Same H H' → Q (.ref p) H'
def spTake : Sp := fun vs H Q _ => ∃ (p : Addr) (m : Int), vs = [.ref p, .int m] ∧ Purse H p ∧ 0 < m ∧ m < 2 ^ 250 ∧ ∀ (d : Int) (H' : Hp), 0 ≤ d → d < m → Purse H' p → Keep p H H' → Q (.int d) H'
section
variable {P : Program} {w : World} {K : PySem.W.Frag} {mg : Str → Option Value} {base : Heap} {f : Addr} {fd : FuncData}
theorem scPurse : FnScope ["_law_script", "_law_at", "_law_cell"] ["_law_script", "_law_at"] (defScope sPurse) := ⟨rfl, rfl, rfl, by decide +kernel, rfl, by decide +kernel, by decide +kernel⟩
theorem at_map {ns : List Int} {k : Nat} (h : (k : Int) < (((ns.map V.int).length : Nat) : Int)) : ∃ z : Int, atI (ns.map V.int) (k : Int) = some (.int z) := by
  rw [List.length_map] at h
  have hk : k < ns.length := by omega
  exact ⟨ns[k], atI_nat (by rw [List.getElem?_map, List.getElem?_eq_getElem hk] <;> rfl)⟩
theorem abs_nn (z : Int) : 0 ≤ (if z < 0 then -z else z) := by split <;> omega
theorem ind_nn (c : Bool) : (0 : Int) ≤ (if c = true then 1 else 0) := by cases c <;> decide
theorem ok_purse (F : Fun K "_law_purse" "_law_purse" sPurse f fd) (T : Bi mg) : FnOk P w K mg base CX0 1 f fd ["_law_script", "_law_at"] (spPurse K) := by
  refine F.ok scPurse (fun vs H Q E h => ?_) (fun cdv A outer s H vs Q E hr h => ?_)
  · obtain ⟨l, ns, k, rfl, _⟩ := h
    rfl
  obtain ⟨l, ns, k, rfl, hS, hk, q⟩ := h
  have nd := scPurse.nd
  refine ⟨_, (pss_cons (ps_set (i := 2) (by exact nd) rfl (Or.inl rfl) pe_int) (pss_cons (ps_if (pt_cmpR op_lt (pv 1) (pe_callB call_len_seq rfl T.len PySem.boot_len (pa_cons (pv 0) pa_nil)) (nomark _)) (pss_one (ps_set (i := 2) (by exact nd) rfl (Or.inl rfl) (pe_ix ix_list (pv 0) (pv 1) (fun _ _ => rfl)))) pss_nil) (pss_one (ps_ret (pe_lst (pa_cons (pe_op Fr.op_mulB (pe_callB call_abs rfl T.abs PyProof.Rows.boot_abs (pa_cons (pv 2) pa_nil)) (pe_callTy call_int1 rfl T.int PyProof.Rows.boot_int (pa_cons (pe_cmpR op_ge (pe_callB call_abs rfl T.abs PyProof.Rows.boot_abs (pa_cons (pv 2) pa_nil)) (pe_op op_pow pe_int pe_int) (nomark _)) pa_nil))) (pa_cons (pe_op op_mod (pe_op op_add (pe_op op_add (pe_op Fr.op_mulB (pv 2) pe_int) (pe_op Fr.op_mulB pe_int (pv 1))) pe_int) pe_int) pa_nil))))))), ?_⟩
  walk_at "rd"
  have fin : ∀ z : Int, ∀ p, H p = none → Q (.ref p) (upd H p (.lst [.int ((if z < 0 then -z else z) * (if decide ((10 : Int) ^ (18 : Int).toNat ≤ (if z < 0 then -z else z)) = true then 1 else 0)), .int ((z * 48271 + 7919 * (k : Int) + 17) % 2147483647)])) := fun z p hp =>
    q p _ hp ⟨_, _, upd_same, Int.mul_nonneg (abs_nn z) (ind_nn _)⟩ (Same.new hp)
  refine ite2 (fun c => ?_) (fun c => ?_)
  · obtain ⟨z, hz⟩ := at_map (ns := ns) (k := k) (of_decide_eq_true c)
    refine ⟨_, rfl, _, rfl, _, _, _, _, rfl, rfl, hS, hz, ?_⟩
    walk_at "rd"
    refine ⟨⟨by decide, by decide, by decide⟩, ?_⟩
    walk_at "rd"
    exact ⟨len2, fun p hp => fin z p hp⟩
  · walk_at "rd"
    refine ⟨⟨by decide, by decide, by decide⟩, ?_⟩
    walk_at "rd"
    exact ⟨len2, fun p hp => fin 0 p hp⟩
theorem scTake : FnScope ["_law_purse_here", "_law_many", "_law_digit", "_law_number", "_law_room"] ["_law_purse_here", "_law_many"] (defScope sTake) := ⟨rfl, rfl, rfl, by decide +kernel, rfl, by decide +kernel, by decide +kernel⟩
def muTake (m : Int) (σ : St) (_ : Hp) : Nat := match σ[4]? with
  | some (some (V.int r)) => (m - r).toNat
  | _ => 0
theorem ok_take (F : Fun K "_law_take" "_law_take" sTake f fd) (T : Bi mg) : FnOk P w K mg base CX0 1 f fd ["_law_purse_here", "_law_many"] spTake := by
  refine F.ok scTake (fun vs H Q E h => ?_) (fun cdv A outer s H vs Q E hr h => ?_)
  · obtain ⟨p, m, rfl, _⟩ := h
    rfl
  obtain ⟨p, m, rfl, ⟨a, b, hp, ha⟩, hm, hm2, q⟩ := h
  have nd := scTake.nd
  refine ⟨_, (pss_cons (ps_if (pt_cmpR op_gt (pe_ix ix_list (pv 0) pe_int (fun _ _ => rfl)) pe_int (nomark _)) (pss_cons (ps_set (i := 2) (by exact nd) rfl (Or.inl rfl) (pe_op op_mod (pe_ix ix_list (pv 0) pe_int (fun _ _ => rfl)) (pv 1))) (pss_cons (ps_asg (pe_op Fr.op_fdivP (pe_ix ix_list (pv 0) pe_int (fun _ _ => rfl)) (pv 1)) (pg_sub (pv 0) pe_int set_list)) (pss_one (ps_ret (pv 2))))) pss_nil) (pss_cons (ps_set (i := 3) (by exact nd) rfl (Or.inl rfl) pe_int) (pss_cons (ps_set (i := 4) (by exact nd) rfl (Or.inl rfl) pe_int) (pss_cons (ps_while PassesOwn.never (pt_cmpR op_lt (pv 4) (pv 1) (nomark _)) (pss_cons (ps_asg (pe_op op_mod (pe_op op_add (pe_op Fr.op_mulB (pe_ix ix_list (pv 0) pe_int (fun _ _ => rfl)) pe_int) pe_int) pe_int) (pg_sub (pv 0) pe_int set_list)) (pss_cons (ps_set (i := 3) (by exact nd) rfl (Or.inl rfl) (pe_op op_add (pe_op Fr.op_mulB (pv 3) pe_int) (pe_op op_mod (pe_op Fr.op_fdivP (pe_op op_mod (pe_op Fr.op_mulB (pe_ix ix_list (pv 0) pe_int (fun _ _ => rfl)) pe_int) pe_int) pe_int) pe_int))) (pss_one (ps_set (i := 4) (by exact nd) rfl (Or.inl rfl) (pe_op Fr.op_mulB (pv 4) pe_int)))))) (pss_one (ps_ret (pe_op op_mod (pv 3) (pv 1)))))))), ?_⟩
  walk_at "rd"
  refine ite2 (fun c => ?_) (fun c => ?_)
  · walk_at "rd"
    refine q _ _ (Int.emod_nonneg _ (by omega)) (Int.emod_lt_of_pos _ hm) ⟨_, _, upd_same, Int.ediv_nonneg ha (by omega)⟩ Keep.upd
  · refine while_by (fun σ H' => ∃ a' b' n r : Int, σ = [some (.ref p), some (.int m), none, some (.int n), some (.int r)] ∧ H' p = some (.lst [.int a', .int b']) ∧ 0 ≤ a' ∧ 1 ≤ r ∧ Keep p H H')
      (muTake m) ⟨a, b, 0, 1, rfl, hp, ha, by decide, Keep.refl _ _⟩ ?_ mono_cmp
    rintro σ H1 ⟨a', b', n, r, rfl, h1, h2, h3, h4⟩
    walk_at "rd"
    refine ite2 (fun c => ?_) (fun c => ?_)
    · walk_at "rd"
      refine ⟨_, _, _, _, rfl, rfl, SqL.of upd_same, rfl, ?_⟩
      walk_at "rd"
      refine ⟨⟨_, _, _, _, rfl, upd_same, h2, by omega, h4.trans Keep.upd⟩, ?_⟩
      have c' : r < m := of_decide_eq_true c
      show (m - r * 1073741789).toNat < (m - r).toNat
      omega
    · walk_at "rd"
      exact q _ _ (Int.emod_nonneg _ (by omega)) (Int.emod_lt_of_pos _ hm) ⟨_, _, h1, h2⟩ h4
theorem Purse.new {H : Hp} {p l : Addr} {o : HO} (h : Purse H p) (hl : H l = none) : Purse (upd H l o) p := by
  obtain ⟨a, b, hp, ha⟩ := h
  exact ⟨a, b, by rw [upd_ne (ne_of_none hp hl)]; exact hp, ha⟩
end
end Fr

set_option Elab.async false
set_option linter.all false
set_option maxRecDepth 100000
set_option maxHeartbeats 1000000
namespace Fr
open PySem L2 L3
local macro_rules | `(tactic| walk_at "w") => `(tactic| conv => whnf)
local macro_rules | `(tactic| walk_at "v") => `(tactic| ((conv => whnf); repeat ((refine ⟨_, rfl, ?_⟩); (conv => whnf))))
local macro_rules | `(tactic| walk_at "m") => `(tactic| ((repeat ((conv => whnf); (refine ⟨⟨by assumption, by assumption⟩, ?_⟩))); (conv => whnf)))
abbrev sWholeP : Stmt := top 16
abbrev sDivisor : Stmt := top 17
/-- is it a whole number -/
def isW : D → Bool
  | .int _ => true
  | _ => false
def spWhole : Sp3 := fun δ Q _ => match δ with
  | [.d x] => (tyN x).isSome = true ∧ Q (.d (.bl (isW x))) none
  | _ => False
def spDivisor : Sp3 := fun δ Q _ => match δ with
  | [.d (.int a), .d (.int b)] => Q (.d (.int (Int.gcd a b))) none
  | _ => False
/-! ### the purse over data -/
theorem take3 {P : Program} {w : World} {K : PySem.W.Frag} {mg : Str → Option Value} {base : Heap} {k : Nat} {f : Addr} {fd : FuncData} {ps : List Str} (F : FnOk P w K mg base CX0 k f fd ps spTake) : FnOk P w K mg base (CX1 P w) k f fd ps (lsp K sp3Take) := by
  refine FnOk.imp (cx1_of F) fun vs H Q E ⟨F0, B, δ, P', Zx, L, h, q, _⟩ => ?_
  obtain ⟨m, rfl, ⟨m1, m2⟩, h⟩ := iv_pi h
  obtain ⟨v1, v2, rfl⟩ := Lk.two L
  obtain ⟨a, e1, hB, fn, x, y, hh, x0⟩ := L.sl 0 _ rfl
  obtain ⟨v, e2, r2⟩ := L.sl 1 _ rfl
  have e1' : v1 = .ref a := by simpa using e1
  have e2' : v2 = v := by simpa using e2
  subst e1' e2'
  cases r2
  refine ⟨a, m, rfl, ⟨x, y, hh, x0⟩, m1, m2, fun d H' d0 d1 ⟨x', y', hh', x0'⟩ kp => ?_⟩
  refine q _ _ _ F0 H' (h d d0 d1) ⟨fun b u e => ?_, Same.refl _, fun b u e n => kp b u e fun z => n (by rw [hB, z]), fun _ _ => rfl, fun b e => ?_, fun o e => ?_⟩ (.int d)
  · exact kp b u (L.fh _ _ e) fun z => by rw [z, fn] at e; cases e
  · rw [hB] at e
    cases e
    rw [hh']
    exact fun z => by cases z
  · cases e
    exact ⟨a, hB, fn, x', y', hh', x0'⟩
theorem purse3 {P : Program} {w : World} {K : PySem.W.Frag} {mg : Str → Option Value} {base : Heap} {k : Nat} {f : Addr} {fd : FuncData} {ps : List Str} (F : FnOk P w K mg base CX0 k f fd ps (spPurse K)) : FnOk P w K mg base (CX1 P w) k f fd ps (lsp K sp3Purse) := by
  refine FnOk.imp (cx1_of F) fun vs H Q E ⟨F0, B, δ, P', Zx, L, h, q, _⟩ => ?_
  obtain ⟨ns, j, rfl, ⟨j0, j1⟩, h⟩ := iv_si h
  obtain ⟨v1, v2, rfl⟩ := Lk.two L
  obtain ⟨u1, e1, r1⟩ := L.sl 0 _ rfl
  obtain ⟨u2, e2, r2⟩ := L.sl 1 _ rfl
  have e1' : v1 = u1 := by simpa using e1
  have e2' : v2 = u2 := by simpa using e2
  subst e1' e2'
  cases r2
  cases r1 with
  | scr sq =>
    refine ⟨_, ns, j.toNat, (by rw [Int.toNat_of_nonneg j0]), L.fh.seq sq, by omega, fun p H' hp ⟨x, y, hh, x0⟩ sm => ?_⟩
    refine q _ _ _ F0 H' h ⟨L.fh.trans sm, Same.refl _, fun b u e _ => sm b u e, fun _ _ => rfl, fun b e => ?_, fun o e => by cases e⟩ ⟨p, rfl, L.fh.free hp, hp, x, y, hh, x0⟩
    cases eb : H b with
    | none => exact absurd eb (L.bt b e).2
    | some u => rw [sm b u eb]; exact fun z => by cases z
section
variable {P : Program} {w : World} {K : PySem.W.Frag} {mg : Str → Option Value} {base : Heap} {f : Addr} {fd : FuncData}
theorem scWholeP : FnScope ["thing"] ["thing"] (defScope sWholeP) := ⟨rfl, rfl, rfl, by decide +kernel, rfl, by decide +kernel, by decide +kernel⟩
theorem ok_wholeP (F : Fun K "is_whole" "is_whole" sWholeP f fd) (T : Bt mg) : FnOk P w K mg base (CX1 P w) 1 f fd ["thing"] (lsp K spWhole) := by
  refine ok3 F scWholeP (fun δ Q Z h => ln_d h) fun cdv A outer s H E hr => ?_
  have nd := scWholeP.nd
  refine ⟨_, (b_one (s_ret (D3.toE (d_and (d_isiN 0 rfl T.isinstance rfl T.int PyProof.Rows.boot_int) (d_one (d_not (d_isiN 0 rfl T.isinstance rfl T.bool PyProof.Rows.boot_bool))))))), fun δ Q Z h => ?_⟩
  obtain ⟨x, rfl, h1, q⟩ := iv_d h
  cases x <;> first | exact q | cases h1
theorem scDivisor : FnScope ["one", "other"] ["one", "other"] (defScope sDivisor) := ⟨rfl, rfl, rfl, by decide +kernel, rfl, by decide +kernel, by decide +kernel⟩
theorem ok_divisor (F : Fun K "common_divisor" "common_divisor" sDivisor f fd) (T : Bt mg) : FnOk P w K mg base (CX1 P w) 1 f fd ["one", "other"] (lsp K spDivisor) := by
  refine ok3 F scDivisor (fun δ Q Z h => ln_ii h) fun cdv A outer s H E hr => ?_
  have nd := scDivisor.nd
  refine ⟨_, (b_cons (s_while PassesOwn.leaving (c_cmp op_ne r_ne (dv 1) d_int (nomark _)) (b_one (s_par 0 1 rfl (by exact nd) rfl rfl (by decide) rfl rfl (a_cons (dv 1) (a_cons (d_op op_modN r_modN (dv 0) (dv 1)) a_nil Fr.star_bin) Fr.star_name)))) (b_one (s_ret (D3.toE (d_callB call_abs cr_abs rfl T.abs PyProof.Rows.boot_abs (a_cons (dv 0) a_nil Fr.star_name)))))), fun δ Q Z h => ?_⟩
  obtain ⟨a, b, rfl, q⟩ := iv_ii h
  refine ⟨fun m δ => ∃ x y : Int, δ = [.d (.int x), .d (.int y)] ∧ Int.gcd x y = Int.gcd a b ∧ m = y.natAbs, ⟨_, a, b, rfl, rfl, rfl⟩, ?_⟩
  rintro m δ ⟨x, y, rfl, g, rfl⟩
  walk_at "w"
  refine brn (fun c => ?_) (fun c => ?_)
  · walk_at "w"
    refine ⟨c, _, natAbs_fmod c, y, x.fmod y, rfl, ?_, rfl⟩
    rw [← g]
    exact gcd_fmod' x y
  · subst c
    have e2 : ((Int.gcd a b : Nat) : Int) = if x < 0 then -x else x := by
      rw [← g, Int.gcd_zero_right]
      split <;> omega
    have q' : Q (.d (.int (Int.gcd a b))) none := q
    rw [e2] at q'
    exact q'
end
end Fr

set_option Elab.async false
set_option linter.all false
set_option maxRecDepth 100000
set_option maxHeartbeats 1000000
namespace Fr
open PySem L2 L3
local macro_rules | `(tactic| walk_at "w") => `(tactic| conv => whnf)
local macro_rules | `(tactic| walk_at "v") => `(tactic| ((conv => whnf); repeat ((refine ⟨_, rfl, ?_⟩); (conv => whnf))))
local macro_rules | `(tactic| walk_at "m") => `(tactic| ((repeat ((conv => whnf); (refine ⟨⟨by assumption, by assumption⟩, ?_⟩))); (conv => whnf)))
abbrev sIsLevel : Stmt := top 28
abbrev sLevelNumber : Stmt := top 29
abbrev sSymNum : Stmt := top 30
abbrev sLInit : Stmt := inClass (top 31) 0
abbrev sLNumber : Stmt := inClass (top 31) 1
/-! ### data -/
def natD (k : Nat) : D := .int (k : Int)
def prD (p : Nat × Nat) : D := .tup [natD p.1, natD p.2]
def prsD (ps : List (Nat × Nat)) : List D := ps.map prD
def lvl : D → Bool
  | .int i => decide (1 ≤ i) && decide (i ≤ 48)
  | _ => false
def kyN (p : Nat × Nat) : List Key := [Sum.inl (p.1 : Int), Sum.inl (p.2 : Int)]
/-- the dict of the numbers, told by some symbols -/
def NumsT (n : Nat) (ss : List (Nat × Nat)) (kvs : List (List Key × D)) : Prop := ∀ p : Nat × Nat, valD kvs (kyN p) = (numIn n ss p).map natD
def NumsOk (n : Nat) (kvs : List (List Key × D)) : Prop := NumsT n (syms n) kvs
def levF (n : Nat) (kvs : List (List Key × D)) : List (Str × D) := [("modulus", natD n), ("all_symbols", .lst (prsD (syms n))), ("pair_numbers", .dT kvs)]
def IsLev (C : Addr) (n : Nat) (x : D) : Prop := ∃ kvs, x = .obj C (levF n kvs) ∧ NumsOk n kvs ∧ 1 ≤ n ∧ n ≤ 48
structure LevC (K : PySem.W.Frag) (C : Addr) : Prop where
  cl : Cls K C
  n_modulus : NoAttr K C "modulus"
  n_all_symbols : NoAttr K C "all_symbols"
  n_pair_numbers : NoAttr K C "pair_numbers"
theorem valD_put {κ : Type} [DecidableEq κ] (kvs : List (κ × D)) (k j : κ) (x : D) : valD (putT kvs k x) j = if j = k then some x else valD kvs j := by
  have rep : ∀ kvs : List (κ × D), valD (kvs.map (fun kv => if kv.1 = k then (kv.1, x) else kv)) j = if j = k then (valD kvs j).map (fun _ => x) else valD kvs j := by
    intro kvs
    induction kvs with
    | nil => simp [valD]
    | cons p r ih =>
      obtain ⟨a, y⟩ := p
      rw [List.map_cons]
      by_cases h : a = k
      · rw [if_pos (show (a, y).1 = k from h)]
        show (if a = j then some x else valD _ j) = _
        by_cases hj : a = j
        · rw [if_pos hj]
          have : j = k := by rw [← hj, h]
          rw [if_pos this]
          show some x = Option.map _ (if a = j then some y else valD r j)
          rw [if_pos hj]
          rfl
        · rw [if_neg hj, ih]
          show _ = if j = k then Option.map _ (if a = j then some y else valD r j) else (if a = j then some y else valD r j)
          rw [if_neg hj]
      · rw [if_neg (show ¬ (a, y).1 = k from h)]
        show (if a = j then some y else valD _ j) = _
        by_cases hj : a = j
        · rw [if_pos hj]
          have : ¬ j = k := by rw [← hj]; exact h
          rw [if_neg this]
          show some y = (if a = j then some y else valD r j)
          rw [if_pos hj]
        · rw [if_neg hj, ih]
          show _ = if j = k then Option.map _ (if a = j then some y else valD r j) else (if a = j then some y else valD r j)
          rw [if_neg hj]
  have snoc : ∀ kvs : List (κ × D), valD (kvs ++ [(k, x)]) j = match valD kvs j with
      | some y => some y
      | none => if j = k then some x else none := by
    intro kvs
    induction kvs with
    | nil =>
      show (if k = j then some x else none) = if j = k then some x else none
      by_cases h : k = j
      · rw [if_pos h, if_pos h.symm]
      · rw [if_neg h, if_neg (Ne.symm h)]
    | cons p r ih =>
      obtain ⟨a, y⟩ := p
      show (if a = j then some y else valD (r ++ [(k, x)]) j) = match (if a = j then some y else valD r j) with
        | some y => some y
        | none => if j = k then some x else none
      by_cases h : a = j
      · rw [if_pos h, if_pos h]
      · rw [if_neg h, if_neg h, ih]
  unfold putT
  by_cases h : (valD kvs k).isSome = true
  · rw [if_pos h, rep]
    by_cases hj : j = k
    · rw [if_pos hj, if_pos hj, hj]
      obtain ⟨y, e⟩ := Option.isSome_iff_exists.mp h
      rw [e]
      rfl
    · rw [if_neg hj, if_neg hj]
  · rw [if_neg h, snoc]
    by_cases hj : j = k
    · rw [if_pos hj, hj]
      have : valD kvs k = none := by
        cases e : valD kvs k with
        | none => rfl
        | some y => rw [e] at h; exact absurd rfl h
      rw [this]
      simp
    · rw [if_neg hj]
      cases valD kvs j <;> simp [hj]
theorem putT_len {κ : Type} [DecidableEq κ] (kvs : List (κ × D)) (k : κ) (x : D) : (putT kvs k x).length ≤ kvs.length + 1 := by
  unfold putT
  split
  · simp
  · simp
/-- all pairs of an orbit are given a number -/
def putAll (n : Nat) (p : Nat × Nat) (i : D) : List Nat → List (List Key × D) → List (List Key × D)
  | [], kvs => kvs
  | k :: ks, kvs => putAll n p i ks (putT kvs (kyN (act n k p)) i)
theorem kyN_inj {p q : Nat × Nat} (h : kyN p = kyN q) : p = q := by
  unfold kyN at h
  injection h with h1 h2
  injection h2 with h2 _
  injection h1 with h1
  injection h2 with h2
  exact Prod.ext (by omega) (by omega)
theorem putAll_val (n : Nat) (p : Nat × Nat) (i : D) (q : Nat × Nat) : ∀ (ks : List Nat) (kvs : List (List Key × D)), valD (putAll n p i ks kvs) (kyN q) = if (ks.map fun k => act n k p).contains q = true then some i else valD kvs (kyN q)
  | [], kvs => by simp [putAll]
  | k :: ks, kvs => by
    show valD (putAll n p i ks (putT kvs (kyN (act n k p)) i)) (kyN q) = _
    rw [putAll_val n p i q ks, valD_put]
    by_cases h : act n k p = q
    · subst h
      simp
    · have h1 : ¬ kyN q = kyN (act n k p) := fun z => h (kyN_inj z).symm
      rw [if_neg h1, List.map_cons, List.contains_cons]
      have : (q == act n k p) = false := by simpa using fun z => h z.symm
      rw [this, Bool.false_or]
theorem putAll_len (n : Nat) (p : Nat × Nat) (i : D) : ∀ (ks : List Nat) (kvs : List (List Key × D)), (putAll n p i ks kvs).length ≤ kvs.length + ks.length
  | [], kvs => Nat.le_refl _
  | k :: ks, kvs => by
    have h1 := putAll_len n p i ks (putT kvs (kyN (act n k p)) i)
    have h2 := putT_len kvs (kyN (act n k p)) i
    show (putAll n p i ks (putT kvs (kyN (act n k p)) i)).length ≤ kvs.length + (ks.length + 1)
    omega
theorem fac_len (n : Nat) : (fac n).length ≤ n := by
  unfold fac
  exact Nat.le_trans (List.length_filter_le _ _) (by simp)
theorem symT_len (n t : Nat) : (symT n t).length ≤ t := by
  unfold symT
  exact Nat.le_trans (List.length_filter_le _ _) (by simp)
/-- a step of the loop: the pair is new -/
theorem nums_new {n t : Nat} (hn : 1 ≤ n) (h48 : n ≤ 48) (ht : t < n * n) (l : isLeast n (prs n t) = true) {kvs : List (List Key × D)} (h : NumsT n (symT n t) kvs) : NumsT n (symT n (t + 1)) (putAll n (prs n t) (natD (symT n t).length) (fac n) kvs) := by
  intro q
  rw [putAll_val, symT_succ, if_pos l, numIn_snoc (dis_of hn h48 ht l q), h q]
  show (if (orb n (prs n t)).contains q = true then _ else _) = _
  by_cases c : (orb n (prs n t)).contains q = true
  · rw [if_pos c, if_pos c]; rfl
  · rw [if_neg c, if_neg c]
theorem nums_old {n t : Nat} (l : ¬ isLeast n (prs n t) = true) {kvs : List (List Key × D)} (h : NumsT n (symT n t) kvs) : NumsT n (symT n (t + 1)) kvs := by
  rw [symT_succ, if_neg l, List.append_nil]
  exact h
theorem rng_mem {x : D} {lo : Int} {n : Nat} (h : x ∈ rngD lo n) : ∃ k : Int, x = .int k := by
  unfold rngD at h
  obtain ⟨i, _, e⟩ := List.mem_map.mp h
  exact ⟨_, e.symm⟩
def fcF (n : Nat) : D → Option D
  | .int i => if Int.gcd i n = 1 then some (.int i) else none
  | _ => none
theorem facD (n : Nat) : (rngD 1 n).filterMap (fcF n) = (fac n).map natD := by
  unfold rngD fac
  rw [List.filterMap_map, ← List.filterMap_eq_filter, List.map_filterMap, List.filterMap_map]
  congr 1
  funext i
  show (if Int.gcd (1 + (i : Int)) n = 1 then some (D.int (1 + (i : Int))) else none) = _
  have e : Int.gcd (1 + (i : Int)) n = Nat.gcd (i + 1) n := by
    rw [Int.add_comm]
    rfl
  rw [e]
  have e2 : (1 : Int) + (i : Int) = ((i + 1 : Nat) : Int) := by omega
  rw [e2]
  by_cases c : Nat.gcd (i + 1) n = 1
  · simp [c, natD, Option.guard]
  · simp [c, Option.guard]
theorem putAll_snoc (n : Nat) (p : Nat × Nat) (i : D) (k : Nat) : ∀ (ks : List Nat) (kvs : List (List Key × D)), putAll n p i (ks ++ [k]) kvs = putT (putAll n p i ks kvs) (kyN (act n k p)) i
  | [], _ => rfl
  | _ :: ks, kvs => putAll_snoc n p i k ks _
theorem take_snoc {α : Type} {l : List α} {i : Nat} {x : α} (h : l[i]? = some x) : l.take (i + 1) = l.take i ++ [x] := by
  rw [List.take_add_one, h]
  rfl
/-- the state between two turns -/
def LoopI (n t : Nat) (s4 : Sl) (δ : List Sl) : Prop := ∃ s1 kvs s5 s6, δ = [.d (natD n), s1, .own (.lst (prsD (symT n t))), .own (.dT kvs), s4, s5, s6] ∧ (s1 = .own (.lst ((fac n).map natD)) ∨ s1 = .d (.lst ((fac n).map natD))) ∧ NumsT n (symT n t) kvs ∧ kvs.length ≤ t * n
/-! ### promises -/
def spIsLevel : Sp3 := fun δ Q _ => match δ with
  | [.d x] => (tyN x).isSome = true ∧ Q (.d (.bl (lvl x))) none
  | _ => False
def spLevelNumber (gN : Addr) : Sp3 := fun δ Q Z => match δ with
  | [.d x] => (tyN x).isSome = true ∧ (lvl x = true → Q (.d x) none) ∧ (lvl x = false → Z gN none)
  | _ => False
def spSymNum : Sp3 := fun δ Q _ => match δ with
  | [.d (.int i)] => ∃ n : Nat, i = n ∧ 1 ≤ n ∧ n ≤ 48 ∧ ∀ kvs ob, NumsOk n kvs → Q (.d (.tup [.lst (prsD (syms n)), .dT kvs])) ob
  | _ => False
def spLInit (C gN : Addr) : Sp3 := fun δ Q Z => match δ with
  | [.bor (.ins C' []), .d x] => C' = C ∧ (tyN x).isSome = true ∧ (∀ n : Nat, x = natD n → 1 ≤ n → n ≤ 48 → ∀ kvs, NumsOk n kvs → Q (.d .non) (some (.ins C (levF n kvs)))) ∧ (lvl x = false → ∀ ob, Z gN ob)
  | _ => False
def spLNumber (C : Addr) : Sp3 := fun δ Q _ => match δ with
  | [.d x] => ∃ n, IsLev C n x ∧ Q (.d (natD n)) none
  | _ => False
section
variable {P : Program} {w : World} {K : PySem.W.Frag} {mg : Str → Option Value} {base : Heap} {f : Addr} {fd : FuncData}
theorem scIsLevel : FnScope ["thing"] ["thing"] (defScope sIsLevel) := ⟨rfl, rfl, rfl, by decide +kernel, rfl, by decide +kernel, by decide +kernel⟩
theorem ok_isLevel (F : Fun K "is_level" "is_level" sIsLevel f fd) (T : Bt mg) {tk : Tok} (mL : mg "LAST_LEVEL" = some (.int 48 tk)) (Ois_whole : Own3 P w K mg base 1 "is_whole" ["thing"] spWhole) : FnOk P w K mg base (CX1 P w) 2 f fd ["thing"] (lsp K spIsLevel) := by
  refine ok3 F scIsLevel (fun δ Q Z h => ln_d h) fun cdv A outer s H E hr => ?_
  have nd := scIsLevel.nd
  refine ⟨_, (b_one (s_ret (D3.toE (d_and (E3.toD (e_call Ois_whole Fr.pass_on hr rfl (a_cons (dv 0) a_nil Fr.star_name))) (d_one (d_chain op_le op_le r_le r_le d_int (dv 0) (d_globI rfl mL))))))), fun δ Q Z h => ?_⟩
  obtain ⟨x, rfl, h1, q⟩ := iv_d h
  cases x with
  | int i =>
    refine ⟨rfl, ?_⟩
    walk_at "w"
    refine brd (fun c => ?_) (fun c => ?_)
    · walk_at "w"
      have e : lvl (.int i) = decide (i ≤ 48) := by show (decide (1 ≤ i) && decide (i ≤ 48)) = _; rw [decide_eq_true c]; rfl
      rw [e] at q
      exact q
    · walk_at "w"
      have e : lvl (.int i) = false := by show (decide (1 ≤ i) && decide (i ≤ 48)) = _; rw [decide_eq_false c]; rfl
      rw [e] at q
      exact q
  | _ => first | exact ⟨rfl, q⟩ | cases h1
theorem scLevelNumber : FnScope ["thing"] ["thing"] (defScope sLevelNumber) := ⟨rfl, rfl, rfl, by decide +kernel, rfl, by decide +kernel, by decide +kernel⟩
theorem ok_levelNumber (F : Fun K "level_number" "level_number" sLevelNumber f fd) (T : Bt mg) {gN : Addr} (m_NoLevel : mg "NoLevel" = some (.ref gN)) (q_NoLevel : PySem.W.excIn K gN bmVE "ValueError.__new__" = true) (Ois_level : Own3 P w K mg base 2 "is_level" ["thing"] spIsLevel) :
    FnOk P w K mg base (CX1 P w) 3 f fd ["thing"] (lsp K (spLevelNumber gN)) := by
  refine ok3 F scLevelNumber (fun δ Q Z h => ln_d h) fun cdv A outer s H E hr => ?_
  have nd := scLevelNumber.nd
  refine ⟨_, (b_cons (s_if (c_not (c_val (E3.toD (e_call Ois_level Fr.pass_on hr rfl (a_cons (dv 0) a_nil Fr.star_name))))) (b_one (s_raise rfl m_NoLevel q_NoLevel (a_cons d_str a_nil Fr.star_const))) b_nil) (b_one (s_ret (e_move 0)))), fun δ Q Z h => ?_⟩
  obtain ⟨x, rfl, h1, q, z⟩ := iv_d h
  refine ⟨h1, ?_⟩
  walk_at "w"
  refine br (fun c => ?_) (fun c => ?_)
  · have c' : lvl x = false := by simpa using c
    exact z c'
  · have c' : lvl x = true := by simpa using c
    exact q c'
theorem scSymNum : FnScope ["n", "factors", "symbols", "numbers", "u", "v", "k"] ["n"] (defScope sSymNum) := ⟨rfl, rfl, rfl, by decide +kernel, rfl, by decide +kernel, by decide +kernel⟩
theorem ok_symNum (F : Fun K "symbols_numbered" "symbols_numbered" sSymNum f fd) (T : Bt mg) (Ocommon_divisor : Own3 P w K mg base 1 "common_divisor" ["one", "other"] spDivisor) : FnOk P w K mg base (CX1 P w) 2 f fd ["n"] (lsp K spSymNum) := by
  refine ok3 F scSymNum (fun δ Q Z h => ln_i h) fun cdv A outer s H E hr => ?_
  have nd := scSymNum.nd
  have hu := units1 hr
  refine ⟨_, (b_cons (s_comp 1 (by exact nd) rfl (Or.inl rfl) rfl (I3.toC (i_range2 rfl T.range (a_cons d_int (a_cons (d_op op_add r_add (dv 0) d_int) a_nil Fr.star_bin) Fr.star_const))) (Fr.frokV (xs := ["k"]) (fr := [("n", 0)]) (sc := defScope sSymNum) (N := ["n", "factors", "symbols", "numbers", "u", "v", "k"]) rfl rfl (by decide +kernel)) (fun _ _ _ _ => (g_name 0 (show List.Nodup [("k" : Str), ("n" : Str)] by decide +kernel) rfl (Or.inl rfl))) (fun _ _ _ _ => p_st1 rfl (D3.toE (dv 0)) (c_cmp op_eq r_eq (E3.toD (e_call Ocommon_divisor Fr.pass1 hr rfl (a_cons (dv 0) (a_cons (dv 1) a_nil Fr.star_name) Fr.star_name))) d_int (nomark _)))) (b_cons (s_set 2 (by exact nd) rfl (Or.inl rfl) (e_lst a_nil)) (b_cons (s_set 3 (by exact nd) rfl (Or.inl rfl) e_dnewT) (b_cons (s_for PassesOwn.leaving rfl (i_range1 rfl T.range (a_cons (dv 0) a_nil Fr.star_name)) (g_name 4 (by exact nd) rfl (Or.inl rfl)) (b_one (s_for PassesOwn.leaving rfl (i_range1 rfl T.range (a_cons (dv 0) a_nil Fr.star_name)) (g_name 5 (by exact nd) rfl (Or.inl rfl)) (b_one (s_if (W3.toC (w_and (c_pc (q_dnotin 3 hu (a_cons (dv 4) (a_cons (dv 5) a_nil Fr.star_name) Fr.star_name)) rfl) (w_and1 (c_cmp op_eq r_eq (E3.toD (e_call Ocommon_divisor Fr.pass_on hr rfl (a_cons (E3.toD (e_call Ocommon_divisor Fr.pass_on hr rfl (a_cons (dv 4) (a_cons (dv 5) a_nil Fr.star_name) Fr.star_name))) (a_cons (dv 0) a_nil Fr.star_name) Fr.star_call))) d_int (nomark _))))) (b_cons (s_for PassesOwn.leaving rfl (i_list (dv 1)) (g_name 6 (by exact nd) rfl (Or.inl rfl)) (b_one (s_dput 3 hu (a_cons (d_op op_mod r_mod (d_op Fr.op_mulW r_mul (dv 6) (dv 4)) (dv 0)) (a_cons (d_op op_mod r_mod (d_op Fr.op_mulW r_mul (dv 6) (dv 5)) (dv 0)) a_nil Fr.star_bin) Fr.star_bin) (d_lenN 2 rfl T.len)))) (b_one (s_append 2 (d_tup (a_cons (dv 4) (a_cons (dv 5) a_nil Fr.star_name) Fr.star_name))))) b_nil))))) (b_one (s_ret (D3.toE (d_tup (a_cons (dv 2) (a_cons (dv 3) a_nil Fr.star_name) Fr.star_name))))))))), fun δ Q Z h => ?_⟩
  obtain ⟨i, rfl, n, e, n1, n2, q⟩ := iv_i h
  subst e
  walk_at "w"
  refine ⟨⟨⟨by decide, by decide⟩, ⟨by omega, by omega⟩⟩, ?_⟩
  walk_at "w"
  have en : ((n : Int) + 1 - 1).toNat = n := by omega
  rw [en]
  refine ⟨by rw [rngD_len]; omega, compL_fmap (l := [.d (.int (n : Int))]) rfl (fcF n) (fun x hx P p => ?_) ?_⟩
  · obtain ⟨k, rfl⟩ := rng_mem hx
    walk_at "w"
    refine brd (fun c => ?_) (fun c => ?_)
    · have c' : Int.gcd k n = 1 := by omega
      have e : fcF n (.int k) = some (.int k) := if_pos c'
      rw [e] at p
      exact p
    · have c' : ¬ Int.gcd k n = 1 := by omega
      have e : fcF n (.int k) = none := if_neg c'
      rw [e] at p
      exact p
  rw [facD]
  walk_at "w"
  refine ⟨⟨by omega, by omega⟩, ?_⟩
  have en2 : ((n : Int)).toNat = n := by omega
  dsimp only
  rw [en2]
  have len48 : n * n * n ≤ 110592 := by
    have h1 : n * n ≤ 48 * 48 := Nat.mul_le_mul n2 n2
    exact Nat.le_trans (Nat.mul_le_mul h1 n2) (by decide)
  have nn : n * n ≤ 2304 := Nat.mul_le_mul n2 n2
  refine forL_range (fun u δ => ∃ s4, LoopI n (u * n) s4 δ) ⟨.un, .own (.lst ((fac n).map natD)), [], .un, .un, (by rw [Nat.zero_mul]; rfl), .inl rfl, (by rw [Nat.zero_mul]; exact fun p => rfl), (by simp)⟩ ?_ ?_
  · rintro u δ N hu' ⟨s4, s1, kvs, s5, s6, rfl, hs1, hk, hl⟩ hN
    rw [Int.zero_add]
    walk_at "w"
    refine ⟨⟨by omega, by omega⟩, ?_⟩
    dsimp only
    rw [en2]
    refine forL_range (fun v δ => LoopI n (u * n + v) (.d (natD u)) δ) ⟨_, kvs, _, _, rfl, hs1, hk, hl⟩ ?_ ?_
    · rintro v δ N2 hv ⟨s1, kvs, s5, s6, rfl, hs1, hk, hl⟩ hN2
      rw [Int.zero_add]
      have ht : u * n + v < n * n := by
        have : (u + 1) * n ≤ n * n := Nat.mul_le_mul_right n hu'
        rw [Nat.add_mul, Nat.one_mul] at this
        omega
      have ep : prs n (u * n + v) = (u, v) := prs_plc (n := n) (p := (u, v)) ⟨hu', hv⟩
      have hnew := new_iff n1 n2 ht
      rw [ep] at hnew
      have hval := hk (u, v)
      have lsym := symT_len n (u * n + v)
      have ltn : (u * n + v) * n ≤ n * n * n := Nat.mul_le_mul_right n (Nat.le_of_lt ht)
      walk_at "w"
      refine br (fun c1 => ?_) (fun c1 => ?_)
      · have c1' : numIn n (symT n (u * n + v)) (u, v) = none := by
          cases e : numIn n (symT n (u * n + v)) (u, v) with
          | none => rfl
          | some j =>
            rw [e] at hval
            have c2 : (!(valD kvs (kyN (u, v))).isSome) = true := c1
            rw [hval] at c2
            cases c2
        walk_at "w"
        refine brd (fun c2 => ?_) (fun c2 => ?_)
        · have g : good n (u, v) = true := by
            have : Nat.gcd (Nat.gcd u v) n = 1 := by
              have z : ((Int.gcd ((Int.gcd (u : Int) (v : Int) : Nat) : Int) (n : Int) : Nat) : Int) = 1 := c2
              have z2 : Int.gcd ((Int.gcd (u : Int) (v : Int) : Nat) : Int) (n : Int) = 1 := by omega
              exact z2
            unfold good
            simpa using this
          have l := hnew.mp ⟨by rw [c1']; rfl, g⟩
          have knew := nums_new n1 n2 ht (by rw [ep]; exact l) hk
          rw [ep] at knew
          have hs1' : ∃ δ0 : List Sl, δ0 = [.d (natD n), .d (.lst ((fac n).map natD)), .own (.lst (prsD (symT n (u * n + v)))), .own (.dT kvs), .d (natD u), .d (natD v), s6] ∧ (∀ Qf : List D → List Sl → Prop, Qf ((fac n).map natD) δ0 → tIL (tN 1) (fun C δ' => Z C (borOf δ')) [.d (natD n), s1, .own (.lst (prsD (symT n (u * n + v)))), .own (.dT kvs), .d (natD u), .d (natD v), s6] Qf) := by
            refine ⟨_, rfl, fun Qf h => ?_⟩
            rcases hs1 with rfl | rfl <;> exact h
          obtain ⟨δ0, e0, hI⟩ := hs1'
          refine hI _ ?_
          subst e0
          refine forL_inv (fun i δ => ∃ s6, δ = [.d (natD n), .d (.lst ((fac n).map natD)), .own (.lst (prsD (symT n (u * n + v)))), .own (.dT (putAll n (u, v) (natD (symT n (u * n + v)).length) ((fac n).take i) kvs)), .d (natD u), .d (natD v), s6]) ⟨_, rfl⟩ ?_ ?_
          · rintro i x δ N3 hx ⟨s6, rfl⟩ hN3
            rw [List.getElem?_map] at hx
            obtain ⟨k, hk1, rfl⟩ := Option.map_eq_some_iff.mp hx
            have lt := (List.getElem?_eq_some_iff.mp hk1).1
            have kf := fac_mem.mp (List.mem_of_getElem? hk1)
            walk_at "w"
            refine ⟨⟨fitN (by omega), fitN (by omega)⟩, ?_⟩
            walk_at "w"
            refine ⟨(by show (0 : Int) < (n : Int); omega), ?_⟩
            walk_at "w"
            refine ⟨⟨fitN (by omega), fitN (by omega)⟩, ?_⟩
            walk_at "w"
            refine ⟨(by show (0 : Int) < (n : Int); omega), ?_⟩
            walk_at "w"
            have fl := fac_len n
            refine ⟨?_, hN3 _ ⟨.d (natD k), ?_⟩⟩
            · have := putAll_len n (u, v) (natD (symT n (u * n + v)).length) ((fac n).take i) kvs
              rw [List.length_take] at this
              omega
            · have et : (fac n).take (i + 1) = (fac n).take i ++ [k] := take_snoc hk1
              rw [et, putAll_snoc]
              have el : (prsD (symT n (u * n + v))).length = (symT n (u * n + v)).length := List.length_map _
              rw [← el]
              rfl
          · rintro δ ⟨s6, rfl⟩
            rw [List.length_map, List.take_length]
            walk_at "w"
            have el : (prsD (symT n (u * n + v))).length = (symT n (u * n + v)).length := List.length_map _
            have es : symT n (u * n + v + 1) = symT n (u * n + v) ++ [(u, v)] := by rw [symT_succ, ep, if_pos l]
            refine ⟨by have := el; omega, hN2 _ ⟨.d (.lst ((fac n).map natD)), putAll n (u, v) (natD (symT n (u * n + v)).length) (fac n) kvs, .d (natD v), s6, ?_, .inr rfl, knew, ?_⟩⟩
            · show _ = [_, _, Sl.own (Ob.lst (prsD (symT n (u * n + v + 1)))), _, _, _, _]
              rw [es]
              unfold prsD
              rw [List.map_append]
              rfl
            · have := putAll_len n (u, v) (natD (symT n (u * n + v)).length) (fac n) kvs
              have := fac_len n
              show _ ≤ (u * n + v + 1) * n
              rw [Nat.add_mul (u * n + v) 1 n]
              omega
        · have l : ¬ isLeast n (u, v) = true := fun z => by
            have g := (hnew.mpr z).2
            unfold good at g
            have g' : Nat.gcd (Nat.gcd u v) n = 1 := by simpa using g
            apply c2
            show ((Int.gcd ((Int.gcd (u : Int) (v : Int) : Nat) : Int) (n : Int) : Nat) : Int) = 1
            have z2 : Int.gcd ((Int.gcd (u : Int) (v : Int) : Nat) : Int) (n : Int) = 1 := g'
            rw [z2]
            rfl
          refine hN2 _ ⟨s1, kvs, .d (natD v), s6, ?_, hs1, nums_old (t := u * n + v) (by rw [ep]; exact l) hk, ?_⟩
          · show _ = [_, _, Sl.own (Ob.lst (prsD (symT n (u * n + v + 1)))), _, _, _, _]
            rw [symT_succ, ep, if_neg l, List.append_nil]
            rfl
          · show _ ≤ (u * n + v + 1) * n
            rw [Nat.add_mul (u * n + v) 1 n]
            omega
      · have l : ¬ isLeast n (u, v) = true := fun z => by
          have g := (hnew.mpr z).1
          have g2 : numIn n (symT n (u * n + v)) (u, v) = none := by simpa using g
          rw [g2] at hval
          have c2 : (!(valD kvs (kyN (u, v))).isSome) = false := c1
          rw [hval] at c2
          cases c2
        refine hN2 _ ⟨s1, kvs, .d (natD v), s6, ?_, hs1, nums_old (t := u * n + v) (by rw [ep]; exact l) hk, ?_⟩
        · show _ = [_, _, Sl.own (Ob.lst (prsD (symT n (u * n + v + 1)))), _, _, _, _]
          rw [symT_succ, ep, if_neg l, List.append_nil]
          rfl
        · show _ ≤ (u * n + v + 1) * n
          rw [Nat.add_mul (u * n + v) 1 n]
          omega
    · rintro δ h
      refine hN _ ⟨.d (natD u), ?_⟩
      rw [Nat.add_mul, Nat.one_mul]
      exact h
  · rintro δ ⟨s4, s1, kvs, s5, s6, rfl, hs1, hk, hl⟩
    exact q kvs _ hk
theorem scLInit : FnScope ["self", "n"] ["self", "n"] (defScope sLInit) := ⟨rfl, rfl, rfl, by decide +kernel, rfl, by decide +kernel, by decide +kernel⟩
theorem lvl_nat {x : D} (h : lvl x = true) : ∃ n : Nat, x = natD n ∧ 1 ≤ n ∧ n ≤ 48 := by
  cases x with
  | int i =>
    have h' : (decide (1 ≤ i) && decide (i ≤ 48)) = true := h
    simp only [Bool.and_eq_true, decide_eq_true_eq] at h'
    refine ⟨i.toNat, ?_, by omega, by omega⟩
    unfold natD
    congr 1
    omega
  | _ => cases h
theorem ok_lInit (F : Fun K "__init__" "Level.__init__" sLInit f fd) (T : Bt mg) {C gN : Addr} (TLevel : LevC K C) (Olevel_number : Own3 P w K mg base 3 "level_number" ["thing"] (spLevelNumber gN)) (Osymbols_numbered : Own3 P w K mg base 3 "symbols_numbered" ["n"] spSymNum) :
    FnOk P w K mg base (CX1 P w) 4 f fd ["self", "n"] (lsp K (spLInit C gN)) := by
  refine ok3 F scLInit (fun δ Q Z h => match δ, h with | [.bor (.ins C' []), .d x], _ => rfl) fun cdv A outer s H E hr => ?_
  have nd := scLInit.nd
  refine ⟨_, (b_cons (s_fld 0 TLevel.cl TLevel.n_modulus (E3.toD (e_call Olevel_number Fr.pass_on hr rfl (a_cons (dv 1) a_nil Fr.star_name)))) (b_one (s_asg (E3.toD (e_call Osymbols_numbered Fr.pass_on hr rfl (a_cons (d_fldN 0 TLevel.cl TLevel.n_modulus) a_nil))) (g_tup (n := 2) rfl (gs_cons (g_fld 0 TLevel.cl TLevel.n_all_symbols) (gs_cons (g_fld 0 TLevel.cl TLevel.n_pair_numbers) gs_nil)))))), fun δ Q Z h => ?_⟩
  match δ, h with
  | [.bor (.ins C' []), .d x], ⟨e, h1, q, z⟩ =>
    subst e
    refine ⟨h1, fun hl => ?_, fun hl => z hl _⟩
    obtain ⟨n, rfl, n1, n2⟩ := lvl_nat hl
    walk_at "w"
    refine ⟨rfl, by decide, rfl, natD n, rfl, n, rfl, n1, n2, fun kvs ob hk => ?_⟩
    walk_at "w"
    refine ⟨rfl, (show 1 < 100 by decide), ?_⟩
    walk_at "w"
    refine ⟨rfl, (show 2 < 100 by decide), ?_⟩
    exact q n rfl n1 n2 kvs hk
theorem scLNumber : FnScope ["self"] ["self"] (defScope sLNumber) := ⟨rfl, rfl, rfl, by decide +kernel, rfl, by decide +kernel, by decide +kernel⟩
theorem ok_lNumber (F : Fun K "number" "Level.number" sLNumber f fd) (T : Bt mg) {C : Addr} (TLevel : LevC K C) : FnOk P w K mg base (CX1 P w) 1 f fd ["self"] (lsp K (spLNumber C)) := by
  refine ok3 F scLNumber (fun δ Q Z h => ln_d h) fun cdv A outer s H E hr => ?_
  have nd := scLNumber.nd
  refine ⟨_, (b_one (s_ret (D3.toE (d_fldN 0 TLevel.cl TLevel.n_modulus)))), fun δ Q Z h => ?_⟩
  obtain ⟨x, rfl, n, hx, q⟩ := iv_d h
  obtain ⟨kvs, rfl, hk, n1, n2⟩ := hx
  exact ⟨rfl, natD n, rfl, q⟩
end
end Fr

set_option Elab.async false
set_option linter.all false
set_option maxRecDepth 100000
set_option maxHeartbeats 1000000
namespace Fr
open PySem L2 L3
local macro_rules | `(tactic| walk_at "w") => `(tactic| conv => whnf)
local macro_rules | `(tactic| walk_at "v") => `(tactic| ((conv => whnf); repeat ((refine ⟨_, rfl, ?_⟩); (conv => whnf))))
local macro_rules | `(tactic| walk_at "m") => `(tactic| ((repeat ((conv => whnf); (refine ⟨⟨by assumption, by assumption⟩, ?_⟩))); (conv => whnf)))
abbrev sLWhole : Stmt := top 35
abbrev sLIsPair : Stmt := top 36
abbrev sLCommon : Stmt := top 37
abbrev sLSize : Stmt := top 40
def isPr : D → Bool
  | .tup [a, b] => isW a && isW b
  | _ => false
def spIsPair : Sp3 := fun δ Q _ => match δ with
  | [.d x] => (tyN x).isSome = true ∧ (∀ xs, x = .tup xs → ∀ y ∈ xs, (tyN y).isSome = true) ∧ Q (.d (.bl (isPr x))) none
  | _ => False
def spSize : Sp3 := fun δ Q _ => match δ with
  | [.bor .pu] => ∀ n : Nat, 1 ≤ n → n ≤ 48 → Q (.d (.int (n : Int))) (some .pu)
  | _ => False
section
variable {P : Program} {w : World} {K : PySem.W.Frag} {mg : Str → Option Value} {base : Heap} {f : Addr} {fd : FuncData}
theorem scLWhole : FnScope ["_law_thing"] ["_law_thing"] (defScope sLWhole) := ⟨rfl, rfl, rfl, by decide +kernel, rfl, by decide +kernel, by decide +kernel⟩
theorem ok_lWhole (F : Fun K "_law_whole" "_law_whole" sLWhole f fd) (T : Bt mg) : FnOk P w K mg base (CX1 P w) 1 f fd ["_law_thing"] (lsp K spWhole) := by
  refine ok3 F scLWhole (fun δ Q Z h => ln_d h) fun cdv A outer s H E hr => ?_
  have nd := scLWhole.nd
  refine ⟨_, (b_one (s_ret (D3.toE (d_and (d_isiN 0 rfl T.isinstance rfl T.int PyProof.Rows.boot_int) (d_one (d_not (d_isiN 0 rfl T.isinstance rfl T.bool PyProof.Rows.boot_bool))))))), fun δ Q Z h => ?_⟩
  obtain ⟨x, rfl, h1, q⟩ := iv_d h
  cases x <;> first | exact q | cases h1
theorem scLIsPair : FnScope ["_law_thing"] ["_law_thing"] (defScope sLIsPair) := ⟨rfl, rfl, rfl, by decide +kernel, rfl, by decide +kernel, by decide +kernel⟩
theorem ok_lIsPair (F : Fun K "_law_is_pair" "_law_is_pair" sLIsPair f fd) (T : Bt mg) (O_law_whole : Own3 P w K mg base 1 "_law_whole" ["_law_thing"] spWhole) : FnOk P w K mg base (CX1 P w) 2 f fd ["_law_thing"] (lsp K spIsPair) := by
  refine ok3 F scLIsPair (fun δ Q Z h => ln_d h) fun cdv A outer s H E hr => ?_
  have nd := scLIsPair.nd
  refine ⟨_, (b_one (s_ret (D3.toE (d_and (d_isiN 0 rfl T.isinstance rfl T.tuple PyProof.Rows.boot_tuple) (d_and (d_cmp op_eq r_eq (d_callB call_len_seq cr_len rfl T.len PySem.boot_len (a_cons (dv 0) a_nil Fr.star_name)) d_int (nomark _)) (d_and (E3.toD (e_call O_law_whole Fr.pass_on hr rfl (a_cons (d_ixT (dv 0) d_int) a_nil))) (d_one (E3.toD (e_call O_law_whole Fr.pass_on hr rfl (a_cons (d_ixT (dv 0) d_int) a_nil)))))))))), fun δ Q Z h => ?_⟩
  obtain ⟨x, rfl, h1, h2, q⟩ := iv_d h
  cases x with
  | tup xs =>
    walk_at "w"
    refine brd (fun c => ?_) (fun c => ?_)
    · match xs, c, h2, q with
      | [a, b], _, h2, q =>
        have ha := h2 _ rfl a (by simp)
        have hb := h2 _ rfl b (by simp)
        refine ⟨a, rfl, ha, ?_⟩
        walk_at "w"
        have e : isPr (.tup [a, b]) = (isW a && isW b) := rfl
        rw [e] at q
        refine br (fun c1 => ?_) (fun c1 => ?_)
        · rw [c1] at q
          exact ⟨b, rfl, hb, q⟩
        · rw [c1] at q
          exact q
      | [], c, _, _ => cases c
      | [_], c, _, _ => cases c
      | _ :: _ :: _ :: _, c, _, _ => exact absurd c (by simp; omega)
    · have e : isPr (.tup xs) = false := by
        match xs, c with
        | [a, b], c => exact absurd rfl c
        | [], _ => rfl
        | [_], _ => rfl
        | _ :: _ :: _ :: _, _ => rfl
      rw [e] at q
      exact q
  | _ => first | exact q | cases h1
theorem scLCommon : FnScope ["_law_one", "_law_other"] ["_law_one", "_law_other"] (defScope sLCommon) := ⟨rfl, rfl, rfl, by decide +kernel, rfl, by decide +kernel, by decide +kernel⟩
theorem ok_lCommon (F : Fun K "_law_common" "_law_common" sLCommon f fd) (T : Bt mg) : FnOk P w K mg base (CX1 P w) 1 f fd ["_law_one", "_law_other"] (lsp K spDivisor) := by
  refine ok3 F scLCommon (fun δ Q Z h => ln_ii h) fun cdv A outer s H E hr => ?_
  have nd := scLCommon.nd
  refine ⟨_, (b_cons (s_par 0 1 rfl (by exact nd) rfl rfl (by decide) rfl rfl (a_cons (d_callB call_abs cr_abs rfl T.abs PyProof.Rows.boot_abs (a_cons (dv 0) a_nil Fr.star_name)) (a_cons (d_callB call_abs cr_abs rfl T.abs PyProof.Rows.boot_abs (a_cons (dv 1) a_nil Fr.star_name)) a_nil Fr.star_call) Fr.star_call)) (b_cons (s_while PassesOwn.leaving (c_cmp op_gt r_gt (dv 1) d_int (nomark _)) (b_one (s_par 0 1 rfl (by exact nd) rfl rfl (by decide) rfl rfl (a_cons (dv 1) (a_cons (d_op op_mod r_mod (dv 0) (dv 1)) a_nil Fr.star_bin) Fr.star_name)))) (b_one (s_ret (e_move 0))))), fun δ Q Z h => ?_⟩
  obtain ⟨a, b, rfl, q⟩ := iv_ii h
  walk_at "w"
  refine ⟨fun m δ => ∃ x y : Int, δ = [.d (.int x), .d (.int y)] ∧ 0 ≤ x ∧ 0 ≤ y ∧ Int.gcd x y = Int.gcd a b ∧ m = y.natAbs, ⟨_, _, _, rfl, abs_nn a, abs_nn b, gcd_abs a b, rfl⟩, ?_⟩
  rintro m δ ⟨x, y, rfl, x0, y0, g, rfl⟩
  walk_at "w"
  refine brd (fun c => ?_) (fun c => ?_)
  · walk_at "w"
    have h1 := Int.emod_nonneg x (show y ≠ 0 by omega)
    have h2 := Int.emod_lt_of_pos x c
    refine ⟨c, _, (by omega), y, x % y, rfl, y0, h1, ?_, rfl⟩
    rw [← g]
    exact gcd_emod' x y
  · have e : y = 0 := by omega
    subst e
    have e2 : ((Int.gcd a b : Nat) : Int) = x := by
      rw [← g, Int.gcd_zero_right]
      omega
    have q' : Q (.d (.int (Int.gcd a b))) none := q
    rw [e2] at q'
    exact q'
theorem scLSize : FnScope ["_law_purse_here", "_law_some"] ["_law_purse_here"] (defScope sLSize) := ⟨rfl, rfl, rfl, by decide +kernel, rfl, by decide +kernel, by decide +kernel⟩
theorem ok_lSize (F : Fun K "_law_size" "_law_size" sLSize f fd) (T : Bt mg) (O_law_take : Own3 P w K mg base 1 "_law_take" ["_law_purse_here", "_law_many"] sp3Take) : FnOk P w K mg base (CX1 P w) 2 f fd ["_law_purse_here"] (lsp K spSize) := by
  refine ok3 F scLSize (fun δ Q Z h => ln_p h) fun cdv A outer s H E hr => ?_
  have nd := scLSize.nd
  refine ⟨_, (b_cons (s_set 1 (by exact nd) rfl (Or.inl rfl) (e_lst (a_cons d_int (a_cons d_int (a_cons d_int (a_cons d_int (a_cons d_int (a_cons d_int (a_cons d_int (a_cons d_int (a_cons d_int (a_cons d_int (a_cons d_int (a_cons d_int (a_cons d_int (a_cons d_int (a_cons d_int (a_cons d_int (a_cons d_int (a_cons d_int (a_cons d_int (a_cons d_int (a_cons d_int (a_cons d_int a_nil Fr.star_const) Fr.star_const) Fr.star_const) Fr.star_const) Fr.star_const) Fr.star_const) Fr.star_const) Fr.star_const) Fr.star_const) Fr.star_const) Fr.star_const) Fr.star_const) Fr.star_const) Fr.star_const) Fr.star_const) Fr.star_const) Fr.star_const) Fr.star_const) Fr.star_const) Fr.star_const) Fr.star_const) Fr.star_const))) (b_cons (s_if (c_cmp op_eq r_eq (E3.toD (e_callB 0 O_law_take Fr.pass_on hr rfl (a_cons d_int a_nil Fr.star_const))) d_int (nomark _)) (b_one (s_ret (D3.toE (d_ixN 1 (E3.toD (e_callB 0 O_law_take Fr.pass_on hr rfl (a_cons d_int a_nil Fr.star_const))))))) b_nil) (b_one (s_ret (D3.toE (d_op op_add r_add d_int (E3.toD (e_callB 0 O_law_take Fr.pass_on hr rfl (a_cons d_int a_nil Fr.star_const))))))))), fun δ Q Z h => ?_⟩
  obtain ⟨rfl, q⟩ := iv_p h
  walk_at "w"
  refine ⟨⟨by decide, by decide⟩, fun d d0 d1 => ?_⟩
  walk_at "w"
  refine brd (fun c => ?_) (fun c => ?_)
  · walk_at "w"
    refine ⟨⟨by decide, by decide⟩, fun j j0 j1 => ?_⟩
    walk_at "w"
    have hj : j.toNat < 22 := by omega
    have : ∃ n : Nat, ([1, 2, 3, 4, 5, 6, 8, 9, 11, 12, 16, 18, 24, 25, 27, 30, 32, 36, 42, 45, 47, 48] : List Nat)[j.toNat]? = some n ∧ 1 ≤ n ∧ n ≤ 48 := by
      refine ⟨_, List.getElem?_eq_getElem hj, ?_⟩
      have all : ∀ x ∈ ([1, 2, 3, 4, 5, 6, 8, 9, 11, 12, 16, 18, 24, 25, 27, 30, 32, 36, 42, 45, 47, 48] : List Nat), 1 ≤ x ∧ x ≤ 48 := by decide
      exact all _ (List.getElem_mem hj)
    obtain ⟨n, hn, n1, n2⟩ := this
    refine ⟨.int (n : Int), ?_, q n n1 n2⟩
    have e : j = (j.toNat : Int) := by omega
    rw [e]
    refine atI_nat ?_
    have h2 : (([1, 2, 3, 4, 5, 6, 8, 9, 11, 12, 16, 18, 24, 25, 27, 30, 32, 36, 42, 45, 47, 48] : List Nat).map fun k : Nat => D.int (k : Int))[j.toNat]? = some (.int (n : Int)) := by
      rw [List.getElem?_map, hn]
      rfl
    exact h2
  · walk_at "w"
    refine ⟨⟨by decide, by decide⟩, fun j j0 j1 => ?_⟩
    walk_at "w"
    have := q (1 + j).toNat (by omega) (by omega)
    rw [Int.toNat_of_nonneg (by omega)] at this
    exact this
end
end Fr

set_option Elab.async false
set_option linter.all false
set_option maxRecDepth 100000
set_option maxHeartbeats 1000000
namespace Fr
open PySem L2 L3
local macro_rules | `(tactic| walk_at "w") => `(tactic| conv => whnf)
local macro_rules | `(tactic| walk_at "v") => `(tactic| ((conv => whnf); repeat ((refine ⟨_, rfl, ?_⟩); (conv => whnf))))
local macro_rules | `(tactic| walk_at "m") => `(tactic| ((repeat ((conv => whnf); (refine ⟨⟨by assumption, by assumption⟩, ?_⟩))); (conv => whnf)))
def mtD (m : Mt) : D := .tup [.tup [.int m.a, .int m.b], .tup [.int m.c, .int m.d]]
theorem fitB {B : Nat} {x : Int} (h : x.natAbs < 2 ^ B) (hB : B ≤ 65536) : Fit x := Nat.lt_of_lt_of_le h (Nat.pow_le_pow_right (by decide) hB)
def spMul : Sp3 := fun δ Q _ => match δ with
  | [.d x, .d y] => ∃ m k : Mt, x = mtD m ∧ y = mtD k ∧ m.bd 30000 ∧ k.bd 30000 ∧ Q (.d (mtD (m.mul k))) none
  | _ => False
def spBack : Sp3 := fun δ Q _ => match δ with
  | [.d x] => ∃ m : Mt, x = mtD m ∧ Q (.d (mtD m.inv)) none
  | _ => False
section
variable {P : Program} {w : World} {K : PySem.W.Frag} {mg : Str → Option Value} {base : Heap} {f : Addr} {fd : FuncData}
abbrev sMul : Stmt := top 20
theorem scMul : FnScope ["one", "other", "a", "b", "c", "d", "e", "f", "g", "h"] ["one", "other"] (defScope sMul) := ⟨rfl, rfl, rfl, by decide +kernel, rfl, by decide +kernel, by decide +kernel⟩
theorem ok_mul (F : Fun K "multiplied" "multiplied" sMul f fd) (T : Bt mg) : FnOk P w K mg base (CX1 P w) 1 f fd ["one", "other"] (lsp K spMul) := by
  refine ok3 F scMul (fun δ Q Z h => ln_dd h) fun cdv A outer s H E hr => ?_
  have nd := scMul.nd
  refine ⟨_, (b_cons (s_asg (dv 0) (g_tup (n := 2) rfl (gs_cons (g_tup (n := 2) rfl (gs_cons (g_name 2 (by exact nd) rfl (Or.inl rfl)) (gs_cons (g_name 3 (by exact nd) rfl (Or.inl rfl)) gs_nil))) (gs_cons (g_tup (n := 2) rfl (gs_cons (g_name 4 (by exact nd) rfl (Or.inl rfl)) (gs_cons (g_name 5 (by exact nd) rfl (Or.inl rfl)) gs_nil))) gs_nil)))) (b_cons (s_asg (dv 1) (g_tup (n := 2) rfl (gs_cons (g_tup (n := 2) rfl (gs_cons (g_name 6 (by exact nd) rfl (Or.inl rfl)) (gs_cons (g_name 7 (by exact nd) rfl (Or.inl rfl)) gs_nil))) (gs_cons (g_tup (n := 2) rfl (gs_cons (g_name 8 (by exact nd) rfl (Or.inl rfl)) (gs_cons (g_name 9 (by exact nd) rfl (Or.inl rfl)) gs_nil))) gs_nil)))) (b_one (s_ret (D3.toE (d_tup (a_cons (d_tup (a_cons (d_op op_add r_add (d_op Fr.op_mulW r_mul (dv 2) (dv 6)) (d_op Fr.op_mulW r_mul (dv 3) (dv 8))) (a_cons (d_op op_add r_add (d_op Fr.op_mulW r_mul (dv 2) (dv 7)) (d_op Fr.op_mulW r_mul (dv 3) (dv 9))) a_nil Fr.star_bin) Fr.star_bin)) (a_cons (d_tup (a_cons (d_op op_add r_add (d_op Fr.op_mulW r_mul (dv 4) (dv 6)) (d_op Fr.op_mulW r_mul (dv 5) (dv 8))) (a_cons (d_op op_add r_add (d_op Fr.op_mulW r_mul (dv 4) (dv 7)) (d_op Fr.op_mulW r_mul (dv 5) (dv 9))) a_nil Fr.star_bin) Fr.star_bin)) a_nil Fr.star_tup) Fr.star_tup))))))), fun δ Q Z h => ?_⟩
  obtain ⟨x, y, rfl, m, k, e1, e2, ⟨a1, a2, a3, a4⟩, ⟨b1, b2, b3, b4⟩, q⟩ := iv_dd h
  subst e1 e2
  have h65 : 30000 ≤ 65536 := by decide
  walk_at "w"
  refine ⟨⟨fitB a1 h65, fitB b1 h65⟩, ?_⟩
  walk_at "w"
  refine ⟨⟨fitB a2 h65, fitB b3 h65⟩, ?_⟩
  walk_at "w"
  refine ⟨⟨fitB a1 h65, fitB b2 h65⟩, ?_⟩
  walk_at "w"
  refine ⟨⟨fitB a2 h65, fitB b4 h65⟩, ?_⟩
  walk_at "w"
  refine ⟨⟨fitB a3 h65, fitB b1 h65⟩, ?_⟩
  walk_at "w"
  refine ⟨⟨fitB a4 h65, fitB b3 h65⟩, ?_⟩
  walk_at "w"
  refine ⟨⟨fitB a3 h65, fitB b2 h65⟩, ?_⟩
  walk_at "w"
  refine ⟨⟨fitB a4 h65, fitB b4 h65⟩, ?_⟩
  exact q
abbrev sBack : Stmt := top 21
theorem scBack : FnScope ["turning", "a", "b", "c", "d"] ["turning"] (defScope sBack) := ⟨rfl, rfl, rfl, by decide +kernel, rfl, by decide +kernel, by decide +kernel⟩
theorem ok_back (F : Fun K "back" "back" sBack f fd) (T : Bt mg) : FnOk P w K mg base (CX1 P w) 1 f fd ["turning"] (lsp K spBack) := by
  refine ok3 F scBack (fun δ Q Z h => ln_d h) fun cdv A outer s H E hr => ?_
  have nd := scBack.nd
  refine ⟨_, (b_cons (s_asg (dv 0) (g_tup (n := 2) rfl (gs_cons (g_tup (n := 2) rfl (gs_cons (g_name 1 (by exact nd) rfl (Or.inl rfl)) (gs_cons (g_name 2 (by exact nd) rfl (Or.inl rfl)) gs_nil))) (gs_cons (g_tup (n := 2) rfl (gs_cons (g_name 3 (by exact nd) rfl (Or.inl rfl)) (gs_cons (g_name 4 (by exact nd) rfl (Or.inl rfl)) gs_nil))) gs_nil)))) (b_one (s_ret (D3.toE (d_tup (a_cons (d_tup (a_cons (dv 4) (a_cons (d_neg (dv 2)) a_nil Fr.star_un) Fr.star_name)) (a_cons (d_tup (a_cons (d_neg (dv 3)) (a_cons (dv 1) a_nil Fr.star_name) Fr.star_un)) a_nil Fr.star_tup) Fr.star_tup)))))), fun δ Q Z h => ?_⟩
  obtain ⟨x, rfl, m, e1, q⟩ := iv_d h
  subst e1
  exact q
end
/-! ### shares -/
structure ShI (a b x y s ls t lt : Int) : Prop where
  x0 : 0 ≤ x
  y0 : 0 ≤ y
  xm : x ≤ a + b
  ym : y ≤ a + b
  e1 : s * a + t * b = x
  e2 : ls * a + lt * b = y
  g : Int.gcd x y = Int.gcd a b
  m1 : (ls.natAbs : Int) * x + (s.natAbs : Int) * y ≤ b
  m2 : (lt.natAbs : Int) * x + (t.natAbs : Int) * y ≤ a
  s1 : (s.natAbs : Int) ≤ b + 1
  s2 : (ls.natAbs : Int) ≤ b + 1
  t1 : (t.natAbs : Int) ≤ a + 1
  t2 : (lt.natAbs : Int) ≤ a + 1
theorem ShI.step {a b x y s ls t lt : Int} (h : ShI a b x y s ls t lt) (hy : 0 < y) : ShI a b y (x % y) ls (s - x / y * ls) lt (t - x / y * lt) := by
  have r0 := Int.emod_nonneg x (show y ≠ 0 by omega)
  have r1 := Int.emod_lt_of_pos x hy
  have w0 : 0 ≤ x / y := Int.ediv_nonneg h.x0 (by omega)
  have e := Int.emod_add_mul_ediv x y
  have g0 : Int.gcd y (x % y) = Int.gcd a b := by
    rw [← h.g]
    exact gcd_emod' x y
  obtain ⟨x0, y0, xm, ym, e1, e2, g, m1, m2, s1, s2, t1, t2⟩ := h
  have A := share_step (s := s) (ls := ls) (w := x / y) (r := x % y) hy r0 (by omega) w0 m1
  have B := share_step (s := t) (ls := lt) (w := x / y) (r := x % y) hy r0 (by omega) w0 m2
  refine ⟨y0, r0, ym, by omega, e2, ?_, g0, A.1, B.1, s2, by have := A.2; omega, t2, by have := B.2; omega⟩
  generalize x / y = q at *
  generalize x % y = r at *
  grind
section
variable {P : Program} {w : World} {K : PySem.W.Frag} {mg : Str → Option Value} {base : Heap} {f : Addr} {fd : FuncData}
end
section
variable {P : Program} {w : World} {K : PySem.W.Frag} {mg : Str → Option Value} {base : Heap} {f : Addr} {fd : FuncData}
abbrev sLHas : Stmt := inClass (top 31) 2
def spLHas (C : Addr) : Sp3 := fun δ Q _ => match δ with
  | [.d x, .d y] => ∃ (n : Nat) (m : Mt), IsLev C n x ∧ y = mtD m ∧ Q (.d (.bl (decide (m.c % n = 0)))) none
  | _ => False
theorem scLHas : FnScope ["self", "turning"] ["self", "turning"] (defScope sLHas) := ⟨rfl, rfl, rfl, by decide +kernel, rfl, by decide +kernel, by decide +kernel⟩
theorem ok_lHas (F : Fun K "has" "Level.has" sLHas f fd) (T : Bt mg) {C : Addr} (TLevel : LevC K C) : FnOk P w K mg base (CX1 P w) 1 f fd ["self", "turning"] (lsp K (spLHas C)) := by
  refine ok3 F scLHas (fun δ Q Z h => ln_dd h) fun cdv A outer s H E hr => ?_
  have nd := scLHas.nd
  refine ⟨_, (b_one (s_ret (D3.toE (d_cmp op_eq r_eq (d_op op_mod r_mod (d_ixT (d_ixT (dv 1) d_int) d_int) (d_fldN 0 TLevel.cl TLevel.n_modulus)) d_int (nomark _))))), fun δ Q Z h => ?_⟩
  obtain ⟨x, y, rfl, n, m, hx, e, q⟩ := iv_dd h
  subst e
  obtain ⟨kvs, rfl, hk, n1, n2⟩ := id hx
  walk_at "w"
  refine ⟨.tup [.int m.c, .int m.d], rfl, ?_⟩
  walk_at "w"
  refine ⟨.int m.c, rfl, ?_⟩
  walk_at "w"
  refine ⟨rfl, natD n, rfl, (by show (0 : Int) < (n : Int); omega), ?_⟩
  exact q
end
end Fr

set_option Elab.async false
set_option linter.all false
set_option maxRecDepth 100000
set_option maxHeartbeats 1000000
namespace Fr
open PySem L2 L3
local macro_rules | `(tactic| walk_at "w") => `(tactic| conv => whnf)
local macro_rules | `(tactic| walk_at "v") => `(tactic| ((conv => whnf); repeat ((refine ⟨_, rfl, ?_⟩); (conv => whnf))))
local macro_rules | `(tactic| walk_at "m") => `(tactic| ((repeat ((conv => whnf); (refine ⟨⟨by assumption, by assumption⟩, ?_⟩))); (conv => whnf)))
def pairD (p q : Int) : D := .tup [.int p, .int q]
def mtE (m : Mt) : D := .tup [.tup [.int m.a, .int m.b], .tup [.int m.c, .int m.d]]
theorem fitE {B : Nat} {x : Int} (h : x.natAbs < 2 ^ B) (hB : B ≤ 65536) : Fit x := Nat.lt_of_lt_of_le h (Nat.pow_le_pow_right (by decide) hB)
def spLEnd : Sp3 := fun δ Q _ => match δ with
  | [.d (.int i), .d y] => ∃ (n : Nat) (p q : Int), i = n ∧ 1 ≤ n ∧ n ≤ 48 ∧ y = pairD p q ∧ p.natAbs < 2 ^ 300 ∧ q.natAbs < 2 ^ 300 ∧ ∀ ob, Q (.d (pairD (endD n q) (endR n p q))) ob
  | _ => False
def spShort : Sp3 := fun δ Q _ => match δ with
  | [.d (.int t), .d (.int b)] => (t ≠ 0 ∨ b ≠ 0) ∧ t.natAbs < 2 ^ 240 ∧ b.natAbs < 2 ^ 240 ∧ ∀ p q : Int, IsShort t b p q → ∀ ob, Q (.d (pairD p q)) ob
  | _ => False
theorem pow_mono {x : Int} {A B : Nat} (h : x.natAbs < 2 ^ A) (le : A ≤ B) : x.natAbs < 2 ^ B := Nat.lt_of_lt_of_le h (Nat.pow_le_pow_right (by decide) le)
theorem div_abs {q d : Int} {B : Nat} (hd : 0 < d) (h : q.natAbs < 2 ^ B) : (q / d).natAbs < 2 ^ (B + 1) := by
  have h1 : (q / d).natAbs ≤ q.natAbs := Int.natAbs_ediv_le_natAbs q d
  rw [Nat.pow_succ]
  omega
theorem gcd_le_abs {t b : Int} (h : t ≠ 0 ∨ b ≠ 0) : (Int.gcd t b : Int) ≤ t.natAbs + b.natAbs := by
  rcases h with h | h
  · have := Nat.le_of_dvd (by omega) (Int.natAbs_dvd_natAbs.mpr (Int.gcd_dvd_left (a := t) (b := b)))
    simp at this
    omega
  · have := Nat.le_of_dvd (by omega) (Int.natAbs_dvd_natAbs.mpr (Int.gcd_dvd_right (a := t) (b := b)))
    simp at this
    omega
section
variable {P : Program} {w : World} {K : PySem.W.Frag} {mg : Str → Option Value} {base : Heap} {f : Addr} {fd : FuncData}
abbrev sLEnd : Stmt := top 43
theorem scLEnd : FnScope ["_law_n", "_law_spot_here", "_law_d"] ["_law_n", "_law_spot_here"] (defScope sLEnd) := ⟨rfl, rfl, rfl, by decide +kernel, rfl, by decide +kernel, by decide +kernel⟩
abbrev sShort : Stmt := top 38
theorem scShort : FnScope ["_law_top", "_law_bottom", "_law_part"] ["_law_top", "_law_bottom"] (defScope sShort) := ⟨rfl, rfl, rfl, by decide +kernel, rfl, by decide +kernel, by decide +kernel⟩
theorem ok_short (F : Fun K "_law_short" "_law_short" sShort f fd) (T : Bt mg) (O_law_common : Own3 P w K mg base 1 "_law_common" ["_law_one", "_law_other"] spDivisor) : FnOk P w K mg base (CX1 P w) 2 f fd ["_law_top", "_law_bottom"] (lsp K spShort) := by
  refine ok3 F scShort (fun δ Q Z h => ln_ii h) fun cdv A outer s H E hr => ?_
  have nd := scShort.nd
  refine ⟨_, (b_cons (s_set 2 (by exact nd) rfl (Or.inl rfl) (e_call O_law_common Fr.pass_on hr rfl (a_cons (dv 0) (a_cons (dv 1) a_nil Fr.star_name) Fr.star_name))) (b_cons (s_if (W3.toC (w_or (c_cmp op_lt r_lt (dv 1) d_int (nomark _)) (w_or1 (W3.toC (w_and (c_cmp op_eq r_eq (dv 1) d_int (nomark _)) (w_and1 (c_cmp op_lt r_lt (dv 0) d_int (nomark _)))))))) (b_one (s_set 2 (by exact nd) rfl (Or.inl rfl) (D3.toE (d_op op_sub r_sub d_int (dv 2))))) b_nil) (b_one (s_ret (D3.toE (d_tup (a_cons (d_op Fr.op_fdivZ r_fdivZ (dv 0) (dv 2)) (a_cons (d_op Fr.op_fdivZ r_fdivZ (dv 1) (dv 2)) a_nil Fr.star_bin) Fr.star_bin))))))), fun δ Q Z h => ?_⟩
  obtain ⟨t, b, rfl, h0, bt, bb, q⟩ := iv_ii h
  have gp := gcd_pos' h0
  have gl := gcd_le_abs h0
  have p2 : (2 : Nat) ^ 240 + 2 ^ 240 < 2 ^ 250 := by decide
  have q := q _ _ (isShort h0)
  have s0 : shS t b ≠ 0 ∧ (shS t b).natAbs < 2 ^ 250 := by
    unfold shS
    split <;> omega
  unfold shS at q s0
  walk_at "w"
  refine brd (fun c => ?_) (fun c => ?_)
  · rw [if_pos (Or.inl c)] at q s0
    walk_at "w"
    refine ⟨s0, ?_⟩
    walk_at "w"
    exact ⟨s0, q _⟩
  · walk_at "w"
    refine brd (fun c2 => ?_) (fun c2 => ?_)
    · walk_at "w"
      refine brd (fun c3 => ?_) (fun c3 => ?_)
      · rw [if_pos (Or.inr ⟨c2, c3⟩)] at q s0
        walk_at "w"
        refine ⟨s0, ?_⟩
        walk_at "w"
        exact ⟨s0, q _⟩
      · rw [if_neg (by omega)] at q s0
        walk_at "w"
        refine ⟨s0, ?_⟩
        walk_at "w"
        exact ⟨s0, q _⟩
    · rw [if_neg (by omega)] at q s0
      walk_at "w"
      refine ⟨s0, ?_⟩
      walk_at "w"
      exact ⟨s0, q _⟩
abbrev sLeads : Stmt := top 41
theorem scLeads : FnScope ["_law_turning", "_law_spot_here", "_law_a", "_law_b", "_law_c", "_law_d"] ["_law_turning", "_law_spot_here"] (defScope sLeads) := ⟨rfl, rfl, rfl, by decide +kernel, rfl, by decide +kernel, by decide +kernel⟩
end
end Fr

set_option Elab.async false
set_option linter.all false
set_option maxRecDepth 100000
set_option maxHeartbeats 1000000
namespace Fr
open PySem L2 L3
local macro_rules | `(tactic| walk_at "w") => `(tactic| conv => whnf)
local macro_rules | `(tactic| walk_at "v") => `(tactic| ((conv => whnf); repeat ((refine ⟨_, rfl, ?_⟩); (conv => whnf))))
local macro_rules | `(tactic| walk_at "m") => `(tactic| ((repeat ((conv => whnf); (refine ⟨⟨by assumption, by assumption⟩, ?_⟩))); (conv => whnf)))
def spSpot : Sp3 := fun δ Q _ => match δ with
  | [.bor .pu] => ∀ p q : Int, Int.gcd p q = 1 → (0 < q ∨ (q = 0 ∧ p = 1)) → p.natAbs < 2 ^ 200 → q.natAbs < 2 ^ 200 → Q (.d (pairD p q)) (some .pu)
  | _ => False
abbrev sSpot : Stmt := top 39
theorem gcd_det {a b c d : Int} (h : a * d - b * c = 1 ∨ a * d - b * c = -1) : Int.gcd c d = 1 := by
  have g1 := Int.gcd_dvd_left (a := c) (b := d)
  have g2 := Int.gcd_dvd_right (a := c) (b := d)
  have h3 : ((Int.gcd c d : Nat) : Int) ∣ a * d - b * c := Int.dvd_sub (Int.dvd_mul_of_dvd_right g2) (Int.dvd_mul_of_dvd_right g1)
  have h4 : ((Int.gcd c d : Nat) : Int) ∣ 1 := by
    rcases h with h | h
    · rw [h] at h3; exact h3
    · rw [h] at h3; exact Int.dvd_neg.mp h3
  have := Int.natCast_dvd_natCast.mp (show ((Int.gcd c d : Nat) : Int) ∣ ((1 : Nat) : Int) from h4)
  exact Nat.dvd_one.mp this
theorem step_bd {m c a : Int} {B : Nat} (m0 : m.natAbs ≤ 60) (hc : c.natAbs < 2 ^ B) (ha : a.natAbs < 2 ^ B) : (m * c + a).natAbs < 2 ^ (B + 7) := by
  have h1 := Int.natAbs_add_le (m * c) a
  rw [Int.natAbs_mul] at h1
  have h2 : m.natAbs * c.natAbs ≤ 60 * c.natAbs := Nat.mul_le_mul_right _ m0
  rw [Nat.pow_add]
  omega
section
variable {P : Program} {w : World} {K : PySem.W.Frag} {mg : Str → Option Value} {base : Heap} {f : Addr} {fd : FuncData}
theorem scSpot : FnScope ["_law_purse_here", "_law_sort", "_law_one", "_law_other", "_law_turn", "_law_many", "_law_size_here"] ["_law_purse_here"] (defScope sSpot) := ⟨rfl, rfl, rfl, by decide +kernel, rfl, by decide +kernel, by decide +kernel⟩
theorem ok_spot (F : Fun K "_law_spot" "_law_spot" sSpot f fd) (T : Bt mg) (O_law_take : Own3 P w K mg base 2 "_law_take" ["_law_purse_here", "_law_many"] sp3Take) (O_law_short : Own3 P w K mg base 2 "_law_short" ["_law_top", "_law_bottom"] spShort) : FnOk P w K mg base (CX1 P w) 3 f fd ["_law_purse_here"] (lsp K spSpot) := by
  refine ok3 F scSpot (fun δ Q Z h => ln_p h) fun cdv A outer s H E hr => ?_
  have nd := scSpot.nd
  refine ⟨_, (b_cons (s_set 1 (by exact nd) rfl (Or.inl rfl) (e_callB 0 O_law_take Fr.pass_on hr rfl (a_cons d_int a_nil Fr.star_const))) (b_cons (s_if (c_cmp op_eq r_eq (dv 1) d_int (nomark _)) (b_one (s_ret (D3.toE (d_tup (a_cons d_int (a_cons d_int a_nil Fr.star_const) Fr.star_const))))) b_nil) (b_cons (s_if (c_cmp op_eq r_eq (dv 1) d_int (nomark _)) (b_cons (s_asg (d_tup (a_cons d_int (a_cons d_int a_nil Fr.star_const) Fr.star_const)) (g_tup (n := 2) rfl (gs_cons (g_name 2 (by exact nd) rfl (Or.inl rfl)) (gs_cons (g_name 3 (by exact nd) rfl (Or.inl rfl)) gs_nil)))) (b_cons (s_for PassesOwn.leaving rfl (i_range1 rfl T.range (a_cons (E3.toD (e_callB 0 O_law_take Fr.pass_on hr rfl (a_cons d_int a_nil Fr.star_const))) a_nil Fr.star_call)) (g_name 4 (by exact nd) rfl (Or.inl rfl)) (b_one (s_par 2 3 rfl (by exact nd) rfl rfl (by decide) rfl rfl (a_cons (dv 3) (a_cons (d_op op_add r_add (dv 2) (dv 3)) a_nil Fr.star_bin) Fr.star_name)))) (b_one (s_ret (e_call O_law_short Fr.pass_on hr rfl (a_cons (d_op op_add r_add (d_op Fr.op_mulW r_mul (d_op op_sub r_sub (E3.toD (e_callB 0 O_law_take Fr.pass_on hr rfl (a_cons d_int a_nil Fr.star_const))) d_int) (dv 3)) (dv 2)) (a_cons (dv 3) a_nil Fr.star_name) Fr.star_bin)))))) b_nil) (b_cons (s_if (c_cmp op_eq r_eq (dv 1) d_int (nomark _)) (b_cons (s_par 2 3 rfl (by exact nd) rfl rfl (by decide) rfl rfl (a_cons (d_tup (a_cons d_int (a_cons d_int a_nil Fr.star_const) Fr.star_const)) (a_cons (d_tup (a_cons (d_op op_sub r_sub (E3.toD (e_callB 0 O_law_take Fr.pass_on hr rfl (a_cons d_int a_nil Fr.star_const))) d_int) (a_cons d_int a_nil Fr.star_const) Fr.star_bin)) a_nil Fr.star_tup) Fr.star_tup)) (b_cons (s_for PassesOwn.leaving rfl (i_range1 rfl T.range (a_cons (E3.toD (e_callB 0 O_law_take Fr.pass_on hr rfl (a_cons d_int a_nil Fr.star_const))) a_nil Fr.star_call)) (g_name 4 (by exact nd) rfl (Or.inl rfl)) (b_cons (s_set 5 (by exact nd) rfl (Or.inl rfl) (D3.toE (d_op op_add r_add d_int (E3.toD (e_callB 0 O_law_take Fr.pass_on hr rfl (a_cons (d_ixL (E3.toD (e_lst (a_cons d_int (a_cons d_int a_nil Fr.star_const) Fr.star_const))) (d_op op_mod r_mod (dv 4) d_int)) a_nil)))))) (b_one (s_par 2 3 rfl (by exact nd) rfl rfl (by decide) rfl rfl (a_cons (dv 3) (a_cons (d_tup (a_cons (d_op op_add r_add (d_op Fr.op_mulW r_mul (dv 5) (d_ixT (dv 3) d_int)) (d_ixT (dv 2) d_int)) (a_cons (d_op op_add r_add (d_op Fr.op_mulW r_mul (dv 5) (d_ixT (dv 3) d_int)) (d_ixT (dv 2) d_int)) a_nil Fr.star_bin) Fr.star_bin)) a_nil Fr.star_tup) Fr.star_name))))) (b_one (s_ret (e_move 3))))) b_nil) (b_cons (s_set 6 (by exact nd) rfl (Or.inl rfl) (D3.toE (d_ixL (E3.toD (e_lst (a_cons d_int (a_cons d_int (a_cons d_int (a_cons (d_op op_pow r_pow d_int d_int) (a_cons (d_op op_sub r_sub (d_op op_pow r_pow d_int d_int) d_int) a_nil Fr.star_bin) Fr.star_bin) Fr.star_const) Fr.star_const) Fr.star_const))) (d_op op_sub r_sub (dv 1) d_int)))) (b_one (s_ret (e_call O_law_short Fr.pass_on hr rfl (a_cons (d_op op_sub r_sub (E3.toD (e_callB 0 O_law_take Fr.pass_on hr rfl (a_cons (d_op op_add r_add (d_op Fr.op_mulW r_mul d_int (dv 6)) d_int) a_nil Fr.star_bin))) (dv 6)) (a_cons (d_op op_add r_add d_int (E3.toD (e_callB 0 O_law_take Fr.pass_on hr rfl (a_cons (dv 6) a_nil Fr.star_name)))) a_nil Fr.star_bin) Fr.star_bin))))))))), fun δ Q Z h => ?_⟩
  obtain ⟨rfl, q⟩ := iv_p h
  walk_at "w"
  refine ⟨⟨by decide, by decide⟩, fun sort s0 s1 => ?_⟩
  walk_at "w"
  refine brd (fun c => ?_) (fun c => ?_)
  · exact q 1 0 (by decide) (.inr ⟨rfl, rfl⟩) (by decide) (by decide)
  walk_at "w"
  refine brd (fun c1 => ?_) (fun c1 => ?_)
  · walk_at "w"
    refine ⟨⟨by decide, by decide⟩, fun r r0 r1 => ?_⟩
    walk_at "w"
    refine ⟨⟨by omega, by omega⟩, ?_⟩
    refine forL_range (fun u δ => ∃ (a b : Int) (s4 : Sl), δ = [.bor .pu, .d (.int sort), .d (.int a), .d (.int b), s4, .un, .un] ∧ 1 ≤ a ∧ 1 ≤ b ∧ a.natAbs < 2 ^ (1 + u) ∧ b.natAbs < 2 ^ (1 + u)) ⟨1, 1, _, rfl, by decide, by decide, by decide, by decide⟩ ?_ ?_
    · rintro u δ N hu' ⟨a, b, s4, rfl, a1, b1, ha, hb⟩ hN
      refine hN _ ⟨b, a + b, _, rfl, b1, by omega, pow_mono hb (by omega), ?_⟩
      rw [← Nat.add_assoc, Nat.pow_succ]
      omega
    · rintro δ ⟨a, b, s4, rfl, a1, b1, ha, hb⟩
      have ha' := pow_mono ha (show 1 + r.toNat ≤ 150 by omega)
      have hb' := pow_mono hb (show 1 + r.toNat ≤ 150 by omega)
      walk_at "w"
      refine ⟨⟨by decide, by decide⟩, fun x x0 x1 => ?_⟩
      walk_at "w"
      refine ⟨⟨fitI (by omega), fitE hb' (by decide)⟩, ?_⟩
      walk_at "w"
      have bt := step_bd (m := x - 3) (B := 150) (by omega) hb' ha'
      refine ⟨.inr (by omega), pow_mono bt (by decide), pow_mono hb' (by decide), fun p' q' hs ob => ?_⟩
      refine q p' q' hs.co hs.sg ?_ ?_
      · have := hs.bp
        have := pow_mono bt (show 150 + 7 ≤ 200 by decide)
        omega
      · have := hs.bq
        have := pow_mono hb' (show 150 ≤ 200 by decide)
        omega
  walk_at "w"
  refine brd (fun c2 => ?_) (fun c2 => ?_)
  · walk_at "w"
    refine ⟨⟨by decide, by decide⟩, fun x x0 x1 => ?_⟩
    walk_at "w"
    refine ⟨⟨by decide, by decide⟩, fun r r0 r1 => ?_⟩
    walk_at "w"
    refine ⟨⟨by omega, by omega⟩, ?_⟩
    refine forL_range (fun u δ => ∃ (a b c d : Int) (s4 s5 : Sl), δ = [.bor .pu, .d (.int sort), .d (pairD a b), .d (pairD c d), s4, s5, .un] ∧ (a * d - b * c = 1 ∨ a * d - b * c = -1) ∧ 0 ≤ b ∧ 1 ≤ d ∧ a.natAbs < 2 ^ (6 + 7 * u) ∧ b.natAbs < 2 ^ (6 + 7 * u) ∧ c.natAbs < 2 ^ (6 + 7 * u) ∧ d.natAbs < 2 ^ (6 + 7 * u)) ⟨1, 0, x - 20, 1, _, _, rfl, .inl (by omega), by decide, by decide, by decide, by decide, by show (x - 20).natAbs < 64; omega, by decide⟩ ?_ ?_
    · rintro u δ N hu' ⟨a, b, c, d, s4, s5, rfl, hd, b0, d1, ha, hb, hc, hdd⟩ hN
      rw [Int.zero_add]
      walk_at "w"
      refine ⟨(by show (0 : Int) < 2; decide), ?_⟩
      obtain ⟨z, hz, z1, z2⟩ : ∃ z : Int, atI [D.int 3, D.int 60] ((u : Int) % 2) = some (.int z) ∧ 1 ≤ z ∧ z < 61 := by
        rcases (show (u : Int) % 2 = 0 ∨ (u : Int) % 2 = 1 by omega) with e | e
        · rw [e]; exact ⟨3, rfl, by decide, by decide⟩
        · rw [e]; exact ⟨60, rfl, by decide, by decide⟩
      walk_at "w"
      refine ⟨.int z, hz, ?_⟩
      walk_at "w"
      refine ⟨⟨by omega, by omega⟩, fun y y0 y1 => ?_⟩
      have fm : Fit (1 + y) := fitI (by omega)
      have B : 6 + 7 * u ≤ 200 := by omega
      walk_at "w"
      refine ⟨.int c, rfl, ⟨fm, fitE (pow_mono hc B) (by decide)⟩, ?_⟩
      walk_at "w"
      refine ⟨.int a, rfl, ?_⟩
      walk_at "w"
      refine ⟨.int d, rfl, ⟨fm, fitE (pow_mono hdd B) (by decide)⟩, ?_⟩
      walk_at "w"
      refine ⟨.int b, rfl, ?_⟩
      walk_at "w"
      have eB : 6 + 7 * (u + 1) = 6 + 7 * u + 7 := by omega
      have pd : 1 ≤ (1 + y) * d := Int.mul_pos (show 0 < 1 + y by omega) (by omega)
      refine hN _ ⟨c, d, (1 + y) * c + a, (1 + y) * d + b, _, _, rfl, ?_, by omega, by omega, pow_mono hc (by omega), pow_mono hdd (by omega), ?_, ?_⟩
      · have e : c * ((1 + y) * d + b) - d * ((1 + y) * c + a) = -(a * d - b * c) := by grind
        rw [e]
        omega
      · rw [eB]; exact step_bd (by omega) hc ha
      · rw [eB]; exact step_bd (by omega) hdd hb
    · rintro δ ⟨a, b, c, d, s4, s5, rfl, hd, b0, d1, ha, hb, hc, hdd⟩
      exact q c d (gcd_det hd) (.inl (by omega)) (pow_mono hc (by omega)) (pow_mono hdd (by omega))
  walk_at "w"
  refine ⟨⟨by decide, by decide, by decide⟩, ?_⟩
  walk_at "w"
  refine ⟨⟨by decide, by decide, by decide⟩, ?_⟩
  obtain ⟨z, hz, z1, z2⟩ : ∃ z : Int, atI [D.int 9, D.int 40, D.int 1000, D.int (10 ^ (15 : Int).toNat), D.int (10 ^ (30 : Int).toNat - 1)] (sort - 3) = some (.int z) ∧ 1 ≤ z ∧ z < 2 ^ 110 := by
    rcases (show sort = 3 ∨ sort = 4 ∨ sort = 5 ∨ sort = 6 ∨ sort = 7 by omega) with e | e | e | e | e
    · subst e; exact ⟨9, rfl, by decide, by decide⟩
    · subst e; exact ⟨40, rfl, by decide, by decide⟩
    · subst e; exact ⟨1000, rfl, by decide, by decide⟩
    · subst e; exact ⟨10 ^ (15 : Int).toNat, rfl, by decide, by decide⟩
    · subst e; exact ⟨10 ^ (30 : Int).toNat - 1, rfl, by decide, by decide⟩
  walk_at "w"
  refine ⟨.int z, hz, ?_⟩
  have p1 : (2 : Int) ^ 110 = 1298074214633706907132624082305024 := by decide
  have fz : Fit z := fitE (B := 111) (by have : (2 : Nat) ^ 111 = 2596148429267413814265248164610048 := by decide
                                         omega) (by decide)
  walk_at "w"
  refine ⟨⟨fitI (by decide), fz⟩, ?_⟩
  refine ⟨⟨by omega, by omega⟩, fun x x0 x1 => ?_⟩
  walk_at "w"
  refine ⟨⟨by omega, by omega⟩, fun y y0 y1 => ?_⟩
  walk_at "w"
  have P2 : (2 : Nat) ^ 111 = 2596148429267413814265248164610048 := by decide
  have bx : (x - z).natAbs < 2 ^ 111 := by omega
  have by1 : (1 + y).natAbs < 2 ^ 111 := by omega
  refine ⟨.inr (by omega), pow_mono bx (by decide), pow_mono by1 (by decide), fun p' q' hs ob => ?_⟩
  refine q p' q' hs.co hs.sg ?_ ?_
  · have := hs.bp
    have := pow_mono bx (show 111 ≤ 200 by decide)
    omega
  · have := hs.bq
    have := pow_mono by1 (show 111 ≤ 200 by decide)
    omega
end
abbrev sNear : Stmt := top 44
def spNear : Sp3 := fun δ Q _ => match δ with
  | [.bor .pu, .d (.int i)] => ∃ n : Nat, i = n ∧ 1 ≤ n ∧ n ≤ 48 ∧ ∀ p q : Int, Int.gcd p q = 1 → (0 < q ∨ (q = 0 ∧ p = 1)) → p.natAbs < 2 ^ 200 → q.natAbs < 2 ^ 200 → Q (.d (pairD p q)) (some .pu)
  | _ => False
def dwF (n : Nat) : D → Option D
  | .int i => if (n : Int) % i = 0 then some (.int i) else none
  | _ => none
theorem dw_mem {n : Nat} {x : D} (h : x ∈ (rngD 1 n).filterMap (dwF n)) : ∃ k : Int, x = .int k ∧ 1 ≤ k ∧ k ≤ n := by
  obtain ⟨y, hy, e⟩ := List.mem_filterMap.mp h
  unfold rngD at hy
  obtain ⟨i, hi, rfl⟩ := List.mem_map.mp hy
  have hi' := List.mem_range.mp hi
  by_cases c : (n : Int) % (1 + (i : Int)) = 0
  · have : dwF n (.int (1 + (i : Int))) = some (.int (1 + (i : Int))) := if_pos c
    rw [this] at e
    cases e
    exact ⟨_, rfl, by omega, by omega⟩
  · have : dwF n (.int (1 + (i : Int))) = none := if_neg c
    rw [this] at e
    cases e
theorem dw_len {n : Nat} (hn : 1 ≤ n) : 1 ≤ ((rngD 1 n).filterMap (dwF n)).length ∧ ((rngD 1 n).filterMap (dwF n)).length ≤ n := by
  constructor
  · refine List.length_pos_of_mem (a := D.int 1) (List.mem_filterMap.mpr ⟨.int 1, ?_, ?_⟩)
    · unfold rngD
      exact List.mem_map.mpr ⟨0, List.mem_range.mpr hn, rfl⟩
    · exact if_pos (Int.emod_one _)
  · exact Nat.le_trans (List.length_filterMap_le _ _) (by rw [rngD_len]; exact Nat.le_refl _)
section
variable {P : Program} {w : World} {K : PySem.W.Frag} {mg : Str → Option Value} {base : Heap} {f : Addr} {fd : FuncData}
theorem scNear : FnScope ["_law_purse_here", "_law_n", "_law_some"] ["_law_purse_here", "_law_n"] (defScope sNear) := ⟨rfl, rfl, rfl, by decide +kernel, rfl, by decide +kernel, by decide +kernel⟩
theorem ok_near (F : Fun K "_law_near" "_law_near" sNear f fd) (T : Bt mg) (O_law_take : Own3 P w K mg base 2 "_law_take" ["_law_purse_here", "_law_many"] sp3Take) (O_law_short : Own3 P w K mg base 2 "_law_short" ["_law_top", "_law_bottom"] spShort) : FnOk P w K mg base (CX1 P w) 3 f fd ["_law_purse_here", "_law_n"] (lsp K spNear) := by
  refine ok3 F scNear (fun δ Q Z h => ln_pi h) fun cdv A outer s H E hr => ?_
  have nd := scNear.nd
  have hu := units1 hr
  refine ⟨_, (b_cons (s_comp 2 (by exact nd) rfl (Or.inl rfl) rfl (I3.toC (i_range2 rfl T.range (a_cons d_int (a_cons (d_op op_add r_add (dv 1) d_int) a_nil Fr.star_bin) Fr.star_const))) (Fr.frokV (xs := ["_law_d"]) (fr := [("_law_n", 1)]) (sc := defScope sNear) (N := ["_law_purse_here", "_law_n", "_law_some"]) rfl rfl (by decide +kernel)) (fun _ _ _ _ => (g_name 0 (show List.Nodup [("_law_d" : Str), ("_law_n" : Str)] by decide +kernel) rfl (Or.inl rfl))) (fun _ _ _ _ => p_st1 rfl (D3.toE (dv 0)) (c_cmp op_eq r_eq (d_op op_mod r_mod (dv 1) (dv 0)) d_int (nomark _)))) (b_one (s_ret (e_call O_law_short Fr.pass_on hr rfl (a_cons (d_op op_sub r_sub (E3.toD (e_callB 0 O_law_take Fr.pass_on hr rfl (a_cons d_int a_nil Fr.star_const))) d_int) (a_cons (d_ixN 2 (E3.toD (e_callB 0 O_law_take Fr.pass_on hr rfl (a_cons (d_lenN 2 rfl T.len) a_nil Fr.star_call)))) a_nil) Fr.star_bin))))), fun δ Q Z h => ?_⟩
  obtain ⟨i, rfl, n, e, n1, n2, q⟩ := iv_pi h
  subst e
  walk_at "w"
  refine ⟨⟨⟨by decide, by decide⟩, ⟨by omega, by omega⟩⟩, ?_⟩
  walk_at "w"
  have en : ((n : Int) + 1 - 1).toNat = n := by omega
  rw [en]
  refine ⟨by rw [rngD_len]; omega, compL_fmap (l := [.d (.int (n : Int))]) rfl (dwF n) (fun x hx P p => ?_) ?_⟩
  · unfold rngD at hx
    obtain ⟨k, hk, rfl⟩ := List.mem_map.mp hx
    walk_at "w"
    refine ⟨(by show (0 : Int) < 1 + (k : Int); omega), ?_⟩
    walk_at "w"
    refine brd (fun c => ?_) (fun c => ?_)
    · have e : dwF n (.int (1 + (k : Int))) = some (.int (1 + (k : Int))) := if_pos c
      rw [e] at p
      exact p
    · have e : dwF n (.int (1 + (k : Int))) = none := if_neg c
      rw [e] at p
      exact p
  have ln := dw_len n1
  have mm := fun x => dw_mem (n := n) (x := x)
  generalize (rngD 1 n).filterMap (dwF n) = ds at ln mm
  walk_at "w"
  refine ⟨⟨by decide, by decide⟩, fun x x0 x1 => ?_⟩
  walk_at "w"
  refine ⟨⟨by omega, by omega⟩, fun j j0 j1 => ?_⟩
  have hj : j.toNat < ds.length := by omega
  obtain ⟨k, ek, k1, k2⟩ := mm _ (List.getElem_mem hj)
  walk_at "w"
  refine ⟨.int k, ?_, ?_⟩
  · have e : j = (j.toNat : Int) := by omega
    rw [e]
    refine atI_nat ?_
    rw [List.getElem?_eq_getElem hj, ek]
  walk_at "w"
  have bx : (x - 100).natAbs < 2 ^ 14 := by omega
  have bb : k.natAbs < 2 ^ 14 := by omega
  refine ⟨.inr (by omega), pow_mono bx (by decide), pow_mono bb (by decide), fun p' q' hs ob => ?_⟩
  refine q p' q' hs.co hs.sg ?_ ?_
  · have := hs.bp
    have := pow_mono bx (show 14 ≤ 200 by decide)
    omega
  · have := hs.bq
    have := pow_mono bb (show 14 ≤ 200 by decide)
    omega
end
end Fr

set_option Elab.async false
set_option linter.all false
set_option maxRecDepth 100000
set_option maxHeartbeats 1000000
namespace Fr
open PySem L2 L3
local macro_rules | `(tactic| walk_at "w") => `(tactic| conv => whnf)
local macro_rules | `(tactic| walk_at "v") => `(tactic| ((conv => whnf); repeat ((refine ⟨_, rfl, ?_⟩); (conv => whnf))))
local macro_rules | `(tactic| walk_at "m") => `(tactic| ((repeat ((conv => whnf); (refine ⟨⟨by assumption, by assumption⟩, ?_⟩))); (conv => whnf)))
abbrev sSharesW : Stmt := top 18
def spSharesW : Sp3 := fun δ Q _ => match δ with
  | [.d (.int a), .d (.int b)] => a.natAbs < 2 ^ 230 ∧ (0 ≤ b ∧ b < 2 ^ 230) ∧ ∀ s t : Int, s * a + t * b = Int.gcd a b → (s.natAbs : Int) ≤ b + 1 → (t.natAbs : Int) ≤ a.natAbs + 2 * b + 1 → ∀ ob, Q (.d (.tup [.int s, .int t])) ob
  | _ => False
structure ShW (a b A M x y s ls t lt : Int) : Prop where
  x0 : 0 ≤ x
  y0 : 0 ≤ y
  xm : x ≤ M
  ym : y ≤ M
  e1 : s * a + t * b = x
  e2 : ls * a + lt * b = y
  g : Int.gcd x y = Int.gcd a b
  m1 : (ls.natAbs : Int) * x + (s.natAbs : Int) * y ≤ b
  m2 : (lt.natAbs : Int) * x + (t.natAbs : Int) * y ≤ A
  s1 : (s.natAbs : Int) ≤ b + 1
  s2 : (ls.natAbs : Int) ≤ b + 1
  t1 : (t.natAbs : Int) ≤ A + 1
  t2 : (lt.natAbs : Int) ≤ A + 1
theorem ShW.step {a b A M x y s ls t lt : Int} (h : ShW a b A M x y s ls t lt) (hy : 0 < y) : ShW a b A M y (x % y) ls (s - x / y * ls) lt (t - x / y * lt) := by
  have r0 := Int.emod_nonneg x (show y ≠ 0 by omega)
  have r1 := Int.emod_lt_of_pos x hy
  have w0 : 0 ≤ x / y := Int.ediv_nonneg h.x0 (by omega)
  have e := Int.emod_add_mul_ediv x y
  have g0 : Int.gcd y (x % y) = Int.gcd a b := by
    rw [← h.g]
    exact gcd_emod' x y
  obtain ⟨x0, y0, xm, ym, e1, e2, g, m1, m2, s1, s2, t1, t2⟩ := h
  have A' := share_step (s := s) (ls := ls) (w := x / y) (r := x % y) hy r0 (by omega) w0 m1
  have B' := share_step (s := t) (ls := lt) (w := x / y) (r := x % y) hy r0 (by omega) w0 m2
  refine ⟨y0, r0, ym, by omega, e2, ?_, g0, A'.1, B'.1, s2, by have := A'.2; omega, t2, by have := B'.2; omega⟩
  generalize x / y = q at *
  generalize x % y = r at *
  grind
theorem ShW.first {a b : Int} (hb : 0 < b) : ShW a b (a.natAbs + 2 * b) b b (a % b) 0 (1 - a / b * 0) 1 (0 - a / b * 1) := by
  have r0 := Int.emod_nonneg a (show b ≠ 0 by omega)
  have r1 := Int.emod_lt_of_pos a hb
  have e := Int.emod_add_mul_ediv a b
  have g0 : Int.gcd b (a % b) = Int.gcd a b := gcd_emod' a b
  have k1 : (((0 - a / b * 1).natAbs : Nat) : Int) * b ≤ a.natAbs + b := by
    have h1 : (((0 - a / b * 1).natAbs : Nat) : Int) * b = (((b * (a / b)).natAbs : Nat) : Int) := by
      rw [Int.natAbs_mul, Int.natCast_mul]
      have : (0 - a / b * 1).natAbs = (a / b).natAbs := by omega
      rw [this, Int.mul_comm]
      congr 1
      omega
    rw [h1]
    omega
  have k2 : (((0 - a / b * 1).natAbs : Nat) : Int) * 1 ≤ (((0 - a / b * 1).natAbs : Nat) : Int) * b := Int.mul_le_mul_of_nonneg_left (by omega) (by omega)
  generalize hq : (((0 - a / b * 1).natAbs : Nat) : Int) = q at *
  refine ⟨by omega, r0, by omega, by omega, by omega, ?_, g0, ?_, ?_, by simp; omega, ?_, by simp; omega, by omega⟩
  · generalize a / b = z at *
    generalize a % b = r at *
    grind
  · have : ((1 - a / b * 0).natAbs : Int) = 1 := by simp
    rw [this]
    simp
  · rw [hq]
    simp
    omega
  · have : ((1 - a / b * 0).natAbs : Int) = 1 := by simp
    rw [this]
    omega
section
variable {P : Program} {w : World} {K : PySem.W.Frag} {mg : Str → Option Value} {base : Heap} {f : Addr} {fd : FuncData}
theorem scSharesW : FnScope ["one", "other", "s", "later_s", "t", "later_t", "whole", "rest"] ["one", "other"] (defScope sSharesW) := ⟨rfl, rfl, rfl, by decide +kernel, rfl, by decide +kernel, by decide +kernel⟩
theorem fit240 {x B : Int} (h : (x.natAbs : Int) ≤ B) (hB : B ≤ 2 ^ 240) : Fit x := by
  have : x.natAbs < 2 ^ 241 := by
    have e : (2 : Int) ^ 240 = ((2 ^ 240 : Nat) : Int) := by norm_cast
    have : (2 : Nat) ^ 240 < 2 ^ 241 := Nat.pow_lt_pow_right (by decide) (by decide)
    omega
  exact fitB this (by decide)
theorem ok_sharesW (F : Fun K "shares" "shares" sSharesW f fd) (T : Bt mg) : FnOk P w K mg base (CX1 P w) 1 f fd ["one", "other"] (lsp K spSharesW) := by
  refine ok3 F scSharesW (fun δ Q Z h => ln_ii h) fun cdv A outer s H E hr => ?_
  have nd := scSharesW.nd
  refine ⟨_, (b_cons (s_asg (d_tup (a_cons d_int (a_cons d_int a_nil Fr.star_const) Fr.star_const)) (g_tup (n := 2) rfl (gs_cons (g_name 2 (by exact nd) rfl (Or.inl rfl)) (gs_cons (g_name 3 (by exact nd) rfl (Or.inl rfl)) gs_nil)))) (b_cons (s_asg (d_tup (a_cons d_int (a_cons d_int a_nil Fr.star_const) Fr.star_const)) (g_tup (n := 2) rfl (gs_cons (g_name 4 (by exact nd) rfl (Or.inl rfl)) (gs_cons (g_name 5 (by exact nd) rfl (Or.inl rfl)) gs_nil)))) (b_cons (s_while PassesOwn.leaving (c_cmp op_ne r_ne (dv 1) d_int (nomark _)) (b_cons (s_asg (d_divmod rfl T.divmod PyProof.Rows.boot_divmod (a_cons (dv 0) (a_cons (dv 1) a_nil Fr.star_name) Fr.star_name)) (g_tup (n := 2) rfl (gs_cons (g_name 6 (by exact nd) rfl (Or.inl rfl)) (gs_cons (g_name 7 (by exact nd) rfl (Or.inl rfl)) gs_nil)))) (b_cons (s_par 0 1 rfl (by exact nd) rfl rfl (by decide) rfl rfl (a_cons (dv 1) (a_cons (dv 7) a_nil Fr.star_name) Fr.star_name)) (b_cons (s_par 2 3 rfl (by exact nd) rfl rfl (by decide) rfl rfl (a_cons (dv 3) (a_cons (d_op op_sub r_sub (dv 2) (d_op Fr.op_mulW r_mul (dv 6) (dv 3))) a_nil Fr.star_bin) Fr.star_name)) (b_one (s_par 4 5 rfl (by exact nd) rfl rfl (by decide) rfl rfl (a_cons (dv 5) (a_cons (d_op op_sub r_sub (dv 4) (d_op Fr.op_mulW r_mul (dv 6) (dv 5))) a_nil Fr.star_bin) Fr.star_name))))))) (b_cons (s_if (c_cmp op_lt r_lt (dv 0) d_int (nomark _)) (b_one (s_ret (D3.toE (d_tup (a_cons (d_neg (dv 2)) (a_cons (d_neg (dv 4)) a_nil Fr.star_un) Fr.star_un))))) b_nil) (b_one (s_ret (D3.toE (d_tup (a_cons (dv 2) (a_cons (dv 4) a_nil Fr.star_name) Fr.star_name))))))))), fun δ Q Z h => ?_⟩
  obtain ⟨a, b, rfl, a1, ⟨b0, b1⟩, q⟩ := iv_ii h
  have p2 : (2 : Int) ^ 230 * 4 + 2 ≤ 2 ^ 240 := by decide
  have p3 : (2 : Int) ^ 230 < 2 ^ 250 := by decide
  have pa : (a.natAbs : Int) < 2 ^ 230 := by
    have e : (2 : Int) ^ 230 = ((2 ^ 230 : Nat) : Int) := by norm_cast
    omega
  walk_at "w"
  refine ⟨fun m δ => (∃ s6 s7, δ = [.d (.int a), .d (.int b), .d (.int 1), .d (.int 0), .d (.int 0), .d (.int 1), s6, s7] ∧ m = b.natAbs + 1) ∨ ∃ x y s ls t lt s6 s7, δ = [.d (.int x), .d (.int y), .d (.int s), .d (.int ls), .d (.int t), .d (.int lt), s6, s7] ∧ ShW a b (a.natAbs + 2 * b) b x y s ls t lt ∧ m = y.natAbs, ⟨_, .inl ⟨_, _, rfl, rfl⟩⟩, ?_⟩
  rintro m δ (⟨s6, s7, rfl, rfl⟩ | ⟨x, y, s, ls, t, lt, s6, s7, rfl, I, rfl⟩)
  · walk_at "w"
    refine brn (fun c => ?_) (fun c => ?_)
    · have hy : 0 < b := by omega
      have w1 : (a / b).natAbs ≤ a.natAbs := Int.natAbs_ediv_le_natAbs a b
      have r1 := Int.emod_lt_of_pos a hy
      have r0 := Int.emod_nonneg a (show b ≠ 0 by omega)
      have fw : Fit (a / b) := fit240 (B := a.natAbs) (by omega) (by omega)
      walk_at "w"
      refine ⟨⟨hy, by omega⟩, ?_⟩
      walk_at "w"
      refine ⟨⟨fw, fitI (by decide)⟩, ?_⟩
      walk_at "w"
      refine ⟨⟨fw, fitI (by decide)⟩, ?_⟩
      walk_at "w"
      exact ⟨_, (show (a % b).natAbs < b.natAbs + 1 by omega), .inr ⟨b, a % b, _, _, _, _, _, _, rfl, ShW.first hy, rfl⟩⟩
    · subst c
      walk_at "w"
      refine brd (fun c => ?_) (fun c => ?_)
      · refine q (-1) (-0) ?_ (by decide) ?_ _
        · rw [Int.gcd_zero_right]; omega
        · show ((0 : Nat) : Int) ≤ _
          omega
      · refine q 1 0 ?_ (by decide) ?_ _
        · rw [Int.gcd_zero_right]; omega
        · show ((0 : Nat) : Int) ≤ _
          omega
  have I0 := I
  obtain ⟨x0, y0, xm, ym, e1, e2, g, m1, m2, s1, s2, t1, t2⟩ := I
  walk_at "w"
  refine brn (fun c => ?_) (fun c => ?_)
  · have hy : 0 < y := by omega
    have r0 := Int.emod_nonneg x (show y ≠ 0 by omega)
    have r1 := Int.emod_lt_of_pos x hy
    have w0 : 0 ≤ x / y := Int.ediv_nonneg x0 (by omega)
    have w1 : x / y ≤ x := Int.ediv_le_self _ x0
    have fw : Fit (x / y) := fit240 (B := b) (by omega) (by omega)
    walk_at "w"
    refine ⟨⟨hy, by omega⟩, ?_⟩
    walk_at "w"
    refine ⟨⟨fw, fit240 s2 (by omega)⟩, ?_⟩
    walk_at "w"
    refine ⟨⟨fw, fit240 t2 (by omega)⟩, ?_⟩
    walk_at "w"
    exact ⟨_, (show (x % y).natAbs < y.natAbs by omega), .inr ⟨y, x % y, _, _, _, _, _, _, rfl, I0.step hy, rfl⟩⟩
  · subst c
    have eg : ((Int.gcd a b : Nat) : Int) = x := by
      rw [← g, Int.gcd_zero_right]
      omega
    walk_at "w"
    refine brd (fun c => absurd c (by omega)) (fun _ => ?_)
    exact q s t (by rw [eg]; exact e1) s1 t1 _
end
abbrev sShift : Stmt := top 22
def spShift : Sp3 := fun δ Q _ => match δ with
  | [.d (.int k)] => Q (.d (mtD ⟨1, k, 0, 1⟩)) none
  | _ => False
abbrev sTTo : Stmt := top 23
def spTTo : Sp3 := fun δ Q _ => match δ with
  | [.d y] => ∃ a c : Int, y = pairD a c ∧ a.natAbs < 2 ^ 230 ∧ (0 ≤ c ∧ c < 2 ^ 230) ∧ Int.gcd a c = 1 ∧ ∀ l d : Int, a * d + l * c = 1 → Mt.bd 240 ⟨a, -l, c, d⟩ → ∀ ob, Q (.d (mtD ⟨a, -l, c, d⟩)) ob
  | _ => False
abbrev sLeading : Stmt := top 25
/-- a place of bounded numbers -/
structure Spt (p q : Int) : Prop where
  co : Int.gcd p q = 1
  sg : 0 < q ∨ (q = 0 ∧ p = 1)
  bp : p.natAbs < 2 ^ 230
  bq : q.natAbs < 2 ^ 230
theorem Spt.q0 {p q : Int} (h : Spt p q) : 0 ≤ q ∧ q < 2 ^ 230 := by
  have e : (2 : Int) ^ 230 = ((2 ^ 230 : Nat) : Int) := by norm_cast
  have := h.sg
  have := h.bq
  omega
def spLeading (C gA : Addr) : Sp3 := fun δ Q Z => match δ with
  | [.d x, .d y, .d z] => ∃ (n : Nat) (p q p' q' : Int), IsLev C n x ∧ y = pairD p q ∧ z = pairD p' q' ∧ Spt p q ∧ Spt p' q' ∧
      (∀ m : Mt, m.det = 1 → m.c % n = 0 → m.bd 1000 → m.a * p + m.b * q = p' → m.c * p + m.d * q = q' → endD n q = endD n q' ∧ endR n p q = endR n p' q' → ∀ ob, Q (.d (mtD m)) ob) ∧ (¬ (endD n q = endD n q' ∧ endR n p q = endR n p' q') → ∀ ob, Z gA ob)
  | _ => False
section
variable {P : Program} {w : World} {K : PySem.W.Frag} {mg : Str → Option Value} {base : Heap} {f : Addr} {fd : FuncData}
theorem scShift : FnScope ["number"] ["number"] (defScope sShift) := ⟨rfl, rfl, rfl, by decide +kernel, rfl, by decide +kernel, by decide +kernel⟩
theorem ok_shift (F : Fun K "shift" "shift" sShift f fd) (T : Bt mg) : FnOk P w K mg base (CX1 P w) 1 f fd ["number"] (lsp K spShift) := by
  refine ok3 F scShift (fun δ Q Z h => ln_i h) fun cdv A outer s H E hr => ?_
  have nd := scShift.nd
  refine ⟨_, (b_one (s_ret (D3.toE (d_tup (a_cons (d_tup (a_cons d_int (a_cons (dv 0) a_nil Fr.star_name) Fr.star_const)) (a_cons (d_tup (a_cons d_int (a_cons d_int a_nil Fr.star_const) Fr.star_const)) a_nil Fr.star_tup) Fr.star_tup))))), fun δ Q Z h => ?_⟩
  obtain ⟨k, rfl, q⟩ := iv_i h
  exact q
theorem scTTo : FnScope ["spot", "a", "c", "d", "lack"] ["spot"] (defScope sTTo) := ⟨rfl, rfl, rfl, by decide +kernel, rfl, by decide +kernel, by decide +kernel⟩
theorem ok_tTo (F : Fun K "turning_to" "turning_to" sTTo f fd) (T : Bt mg) (Oshares : Own3 P w K mg base 1 "shares" ["one", "other"] spSharesW) : FnOk P w K mg base (CX1 P w) 2 f fd ["spot"] (lsp K spTTo) := by
  refine ok3 F scTTo (fun δ Q Z h => ln_d h) fun cdv A outer s H E hr => ?_
  have nd := scTTo.nd
  refine ⟨_, (b_cons (s_asg (dv 0) (g_tup (n := 2) rfl (gs_cons (g_name 1 (by exact nd) rfl (Or.inl rfl)) (gs_cons (g_name 2 (by exact nd) rfl (Or.inl rfl)) gs_nil)))) (b_cons (s_asg (E3.toD (e_call Oshares Fr.pass_on hr rfl (a_cons (dv 1) (a_cons (dv 2) a_nil Fr.star_name) Fr.star_name))) (g_tup (n := 2) rfl (gs_cons (g_name 3 (by exact nd) rfl (Or.inl rfl)) (gs_cons (g_name 4 (by exact nd) rfl (Or.inl rfl)) gs_nil)))) (b_one (s_ret (D3.toE (d_tup (a_cons (d_tup (a_cons (dv 1) (a_cons (d_neg (dv 4)) a_nil Fr.star_un) Fr.star_name)) (a_cons (d_tup (a_cons (dv 2) (a_cons (dv 3) a_nil Fr.star_name) Fr.star_name)) a_nil Fr.star_tup) Fr.star_tup))))))), fun δ Q Z h => ?_⟩
  obtain ⟨y, rfl, a, c, e, ba, ⟨c0, c1⟩, g, q⟩ := iv_d h
  subst e
  have pw : ((2 ^ 230 : Nat) : Int) = (2 : Int) ^ 230 := by norm_cast
  have pn : (2 : Nat) ^ 230 * 4 + 2 < 2 ^ 240 := by decide
  walk_at "w"
  refine ⟨ba, ⟨c0, c1⟩, fun s t e h1 h2 ob => ?_⟩
  rw [g] at e
  refine q t s (by rw [← show s * a + t * c = 1 from e]; grind) ⟨?_, ?_, ?_, ?_⟩ _
  · show a.natAbs < _
    omega
  · show (-t).natAbs < _
    omega
  · show c.natAbs < _
    omega
  · show s.natAbs < _
    omega
theorem scLeading : FnScope ["level", "one", "other", "first_back", "second", "number", "turning"] ["level", "one", "other"] (defScope sLeading) := ⟨rfl, rfl, rfl, by decide +kernel, rfl, by decide +kernel, by decide +kernel⟩
theorem ok_leading (F : Fun K "leading" "leading" sLeading f fd) (T : Bt mg) {C gA : Addr} (m_Apart : mg "Apart" = some (.ref gA)) (q_Apart : PySem.W.excIn K gA bmVE "ValueError.__new__" = true) (MLevel_number : MtOk P w K mg base 2 C "number" ["self"] (spLNumber C)) (MLevel_has : MtOk P w K mg base 2 C "has" ["self", "turning"] (spLHas C))
    (Oback : Own3 P w K mg base 2 "back" ["turning"] spBack) (Oturning_to : Own3 P w K mg base 2 "turning_to" ["spot"] spTTo) (Oshift : Own3 P w K mg base 2 "shift" ["number"] spShift) (Omultiplied : Own3 P w K mg base 2 "multiplied" ["one", "other"] spMul) :
    FnOk P w K mg base (CX1 P w) 3 f fd ["level", "one", "other"] (lsp K (spLeading C gA)) := by
  refine ok3 F scLeading (fun δ Q Z h => ln_ddd h) fun cdv A outer s H E hr => ?_
  have nd := scLeading.nd
  refine ⟨_, (b_cons (s_set 3 (by exact nd) rfl (Or.inl rfl) (e_call Oback Fr.pass_on hr rfl (a_cons (E3.toD (e_call Oturning_to Fr.pass_on hr rfl (a_cons (dv 1) a_nil Fr.star_name))) a_nil Fr.star_call))) (b_cons (s_set 4 (by exact nd) rfl (Or.inl rfl) (e_call Oturning_to Fr.pass_on hr rfl (a_cons (dv 2) a_nil Fr.star_name))) (b_cons (s_for PassesOwn.leaving rfl (i_range1 rfl T.range (a_cons (E3.toD (e_meth0 MLevel_number Fr.pass_on hr (dv 0))) a_nil Fr.star_call)) (g_name 5 (by exact nd) rfl (Or.inl rfl)) (b_cons (s_set 6 (by exact nd) rfl (Or.inl rfl) (e_call Omultiplied Fr.pass_on hr rfl (a_cons (E3.toD (e_call Omultiplied Fr.pass_on hr rfl (a_cons (dv 4) (a_cons (E3.toD (e_call Oshift Fr.pass_on hr rfl (a_cons (dv 5) a_nil Fr.star_name))) a_nil Fr.star_call) Fr.star_name))) (a_cons (dv 3) a_nil Fr.star_name) Fr.star_call))) (b_one (s_if (c_val (E3.toD (e_meth MLevel_has Fr.pass_on hr (dv 0) (a_cons (dv 6) a_nil Fr.star_name)))) (b_one (s_ret (e_move 6))) b_nil)))) (b_one (s_raise rfl m_Apart q_Apart (a_cons d_str a_nil Fr.star_const)))))), fun δ Q Z h => ?_⟩
  obtain ⟨x, y, z, rfl, n, p, q, p', q', hx, e1, e2, S1, S2, k, kz⟩ := iv_ddd h
  subst e1 e2
  obtain ⟨kvs, rfl, hk, n1, n2⟩ := id hx
  have b30 : ∀ {m : Mt}, m.bd 240 → m.bd 30000 := fun h => Mt.bd_mono h (by decide)
  walk_at "w"
  refine ⟨p, q, rfl, S1.bp, S1.q0, S1.co, fun l d h1 b1 ob => ?_⟩
  walk_at "w"
  refine ⟨_, rfl, ?_⟩
  walk_at "w"
  refine ⟨p', q', rfl, S2.bp, S2.q0, S2.co, fun l' d' h2 b2 ob => ?_⟩
  walk_at "w"
  refine ⟨⟨rfl, rfl⟩, n, hx, ?_⟩
  walk_at "w"
  refine ⟨⟨by omega, by omega⟩, ?_⟩
  dsimp only
  rw [Int.toNat_natCast]
  refine forL_range (fun u δ => (∃ s5 s6 : Sl, δ = [.d (.obj C (levF n kvs)), .d (pairD p q), .d (pairD p' q'), .d (mtD (Mt.inv ⟨p, -l, q, d⟩)), .d (mtD ⟨p', -l', q', d'⟩), s5, s6]) ∧ ∀ i : Nat, i < u → ¬ (n : Int) ∣ (q' * d - d' * q) - i * (q * q')) ⟨⟨_, _, rfl⟩, fun i hi => absurd hi (by omega)⟩ ?_ ?_
  · rintro u δ N hu' ⟨⟨s5, s6, rfl⟩, no⟩ hN
    rw [Int.zero_add]
    have bs : Mt.bd 10 ⟨1, (u : Int), 0, 1⟩ := ⟨by show (1 : Int).natAbs < _; decide, by show ((u : Int)).natAbs < _; omega, by show (0 : Int).natAbs < _; decide, by show (1 : Int).natAbs < _; decide⟩
    have bm1 := Mt.bd_mul b2 bs
    have bi := Mt.bd_inv b1
    have bm2 := Mt.bd_mul bm1 bi
    generalize hm : (Mt.mul (Mt.mul ⟨p', -l', q', d'⟩ ⟨1, (u : Int), 0, 1⟩) (Mt.inv ⟨p, -l, q, d⟩)) = m at bm2
    have ec : m.c = (q' * d - d' * q) - u * (q * q') := by
      rw [← hm]
      show (q' * 1 + d' * 0) * d + (q' * (u : Int) + d' * 1) * -q = _
      grind
    walk_at "w"
    refine ⟨_, _, rfl, rfl, b30 b2, Mt.bd_mono bs (by decide), ?_⟩
    walk_at "w"
    refine ⟨_, _, rfl, rfl, Mt.bd_mono bm1 (by decide), b30 bi, ?_⟩
    rw [hm]
    walk_at "w"
    refine ⟨⟨rfl, rfl⟩, n, m, hx, rfl, ?_⟩
    walk_at "w"
    refine brd (fun c => ?_) (fun c => ?_)
    · have cd := Int.dvd_of_emod_eq_zero c
      rw [ec] at cd
      refine k m ?_ c (Mt.bd_mono bm2 (by decide)) ?_ ?_ (end_one n1 h1 h2 cd) _
      · rw [← hm, Mt.det_mul, Mt.det_mul, Mt.det_inv]
        show (p' * d' - -l' * q') * (1 * 1 - (u : Int) * 0) * (p * d - -l * q) = 1
        have e1 : p' * d' - -l' * q' = 1 := by rw [← h2]; grind
        have e2 : p * d - -l * q = 1 := by rw [← h1]; grind
        rw [e1, e2]
        omega
      · rw [← hm]
        show ((p' * 1 + -l' * 0) * d + (p' * (u : Int) + -l' * 1) * -q) * p + ((p' * 1 + -l' * 0) * - -l + (p' * (u : Int) + -l' * 1) * p) * q = p'
        have : p' = p' * (p * d + l * q) := by rw [h1, Int.mul_one]
        grind
      · rw [← hm]
        show ((q' * 1 + d' * 0) * d + (q' * (u : Int) + d' * 1) * -q) * p + ((q' * 1 + d' * 0) * - -l + (q' * (u : Int) + d' * 1) * p) * q = q'
        have : q' = q' * (p * d + l * q) := by rw [h1, Int.mul_one]
        grind
    · refine hN _ ⟨⟨_, _, rfl⟩, fun i hi z => ?_⟩
      rcases Nat.lt_or_ge i u with h | h
      · exact no i h z
      · have : i = u := by omega
        subst this
        rw [← ec] at z
        exact c (Int.emod_eq_zero_of_dvd z)
  · rintro δ ⟨⟨s5, s6, rfl⟩, no⟩
    walk_at "w"
    refine kz (fun ⟨hd, hr'⟩ => ?_) _
    obtain ⟨j, hj, hz⟩ := one_end n1 h1 h2 hd hr'
    exact no j hj hz
end
end Fr

set_option Elab.async false
set_option linter.all false
set_option maxRecDepth 100000
set_option maxHeartbeats 1000000
namespace Fr
open PySem L2 L3
local macro_rules | `(tactic| walk_at "w") => `(tactic| conv => whnf)
local macro_rules | `(tactic| walk_at "v") => `(tactic| ((conv => whnf); repeat ((refine ⟨_, rfl, ?_⟩); (conv => whnf))))
local macro_rules | `(tactic| walk_at "m") => `(tactic| ((repeat ((conv => whnf); (refine ⟨⟨by assumption, by assumption⟩, ?_⟩))); (conv => whnf)))
theorem pairP (p q : Int) : ∀ xs, pairD p q = .tup xs → ∀ y ∈ xs, (tyN y).isSome = true := by
  intro xs e y hy
  cases e
  rcases List.mem_cons.mp hy with rfl | hy
  · rfl
  · rcases List.mem_cons.mp hy with rfl | hy
    · rfl
    · cases hy
theorem co_ne' {a b : Int} (co : Int.gcd a b = 1) : a ≠ 0 ∨ b ≠ 0 := by
  by_cases h : a = 0
  · right
    intro z
    rw [h, z] at co
    cases co
  · exact .inl h
section
variable {P : Program} {w : World} {K : PySem.W.Frag} {mg : Str → Option Value} {base : Heap} {f : Addr} {fd : FuncData}
def spLeadsW : Sp3 := fun δ Q _ => match δ with
  | [.d x, .d y] => ∃ (m : Mt) (p q : Int), x = mtE m ∧ y = pairD p q ∧ m.bd 2000 ∧ p.natAbs < 2 ^ 230 ∧ q.natAbs < 2 ^ 230 ∧ (m.a * p + m.b * q).natAbs < 2 ^ 240 ∧ (m.c * p + m.d * q).natAbs < 2 ^ 240 ∧ (m.a * p + m.b * q ≠ 0 ∨ m.c * p + m.d * q ≠ 0) ∧ ∀ p' q' : Int, IsShort (m.a * p + m.b * q) (m.c * p + m.d * q) p' q' → ∀ ob, Q (.d (pairD p' q')) ob
  | _ => False
theorem ok_leadsW (F : Fun K "_law_leads" "_law_leads" sLeads f fd) (T : Bt mg) (O_law_short : Own3 P w K mg base 2 "_law_short" ["_law_top", "_law_bottom"] spShort) : FnOk P w K mg base (CX1 P w) 3 f fd ["_law_turning", "_law_spot_here"] (lsp K spLeadsW) := by
  refine ok3 F scLeads (fun δ Q Z h => ln_dd h) fun cdv A outer s H E hr => ?_
  have nd := scLeads.nd
  refine ⟨_, (b_cons (s_asg (dv 0) (g_tup (n := 2) rfl (gs_cons (g_tup (n := 2) rfl (gs_cons (g_name 2 (by exact nd) rfl (Or.inl rfl)) (gs_cons (g_name 3 (by exact nd) rfl (Or.inl rfl)) gs_nil))) (gs_cons (g_tup (n := 2) rfl (gs_cons (g_name 4 (by exact nd) rfl (Or.inl rfl)) (gs_cons (g_name 5 (by exact nd) rfl (Or.inl rfl)) gs_nil))) gs_nil)))) (b_one (s_ret (e_call O_law_short Fr.pass_on hr rfl (a_cons (d_op op_add r_add (d_op Fr.op_mulW r_mul (dv 2) (d_ixT (dv 1) d_int)) (d_op Fr.op_mulW r_mul (dv 3) (d_ixT (dv 1) d_int))) (a_cons (d_op op_add r_add (d_op Fr.op_mulW r_mul (dv 4) (d_ixT (dv 1) d_int)) (d_op Fr.op_mulW r_mul (dv 5) (d_ixT (dv 1) d_int))) a_nil Fr.star_bin) Fr.star_bin))))), fun δ Q Z h => ?_⟩
  obtain ⟨x, y, rfl, m, p, q, e1, e2, ⟨a1, a2, a3, a4⟩, bp, bq, b1, b2, h0, k⟩ := iv_dd h
  subst e1 e2
  have f1 := fitE a1 (by decide)
  have f2 := fitE a2 (by decide)
  have f3 := fitE a3 (by decide)
  have f4 := fitE a4 (by decide)
  have fp := fitE bp (by decide)
  have fq := fitE bq (by decide)
  walk_at "w"
  refine ⟨.int p, rfl, ⟨f1, fp⟩, ?_⟩
  walk_at "w"
  refine ⟨.int q, rfl, ⟨f2, fq⟩, ?_⟩
  walk_at "w"
  refine ⟨.int p, rfl, ⟨f3, fp⟩, ?_⟩
  walk_at "w"
  refine ⟨.int q, rfl, ⟨f4, fq⟩, ?_⟩
  walk_at "w"
  exact ⟨h0, b1, b2, fun p' q' hs ob => k p' q' hs _⟩
end
end Fr

set_option Elab.async false
set_option linter.all false
set_option maxRecDepth 100000
set_option maxHeartbeats 1000000
namespace Fr
open PySem L2 L3
local macro_rules | `(tactic| walk_at "w") => `(tactic| conv => whnf)
local macro_rules | `(tactic| walk_at "v") => `(tactic| ((conv => whnf); repeat ((refine ⟨_, rfl, ?_⟩); (conv => whnf))))
local macro_rules | `(tactic| walk_at "m") => `(tactic| ((repeat ((conv => whnf); (refine ⟨⟨by assumption, by assumption⟩, ?_⟩))); (conv => whnf)))
abbrev sKind : Stmt := top 42
theorem boot_VE : bootBuiltins "ValueError" = some (.type "ValueError") := by decide +kernel
section
variable {P : Program} {w : World} {K : PySem.W.Frag} {mg : Str → Option Value} {base : Heap} {f : Addr} {fd : FuncData}
/-! ### the kind of an exception -/
structure Cls12 (mg : Str → Option Value) (c1 c2 c3 c4 c5 c6 c7 c8 c9 c10 c11 c12 : Addr) : Prop where
  m1 : mg "NoPlace" = some (.ref c1)
  m2 : mg "NoLevel" = some (.ref c2)
  m3 : mg "NoSymbol" = some (.ref c3)
  m4 : mg "NoEnd" = some (.ref c4)
  m5 : mg "Apart" = some (.ref c5)
  m6 : mg "NoRow" = some (.ref c6)
  m7 : mg "NotClosed" = some (.ref c7)
  m8 : mg "NoDeed" = some (.ref c8)
  m9 : mg "NoPart" = some (.ref c9)
  m10 : mg "NoForm" = some (.ref c10)
  m11 : mg "NoText" = some (.ref c11)
  m12 : mg "NoName" = some (.ref c12)
  ve : mg "ValueError" = none
def kdB (j i : Nat) : Bool := decide (i = j)
def kdL (j : Nat) : List Bool := [kdB j 0, kdB j 1, kdB j 2, kdB j 3, kdB j 4, kdB j 5, kdB j 6, kdB j 7, kdB j 8, kdB j 9, kdB j 10, kdB j 11]
theorem kd_facts : ∀ j : Nat, j < 12 → (kdL j).countP id = 1 ∧ (kdL j)[j]? = some true ∧ ∀ m < j, (kdL j)[m]? = some false := by decide
theorem scKind : FnScope ["_law_e", "_law_names", "_law_kinds"] ["_law_e"] (defScope sKind) := ⟨rfl, rfl, rfl, by decide +kernel, rfl, by decide +kernel, by decide +kernel⟩
theorem ok_kind {c1 c2 c3 c4 c5 c6 c7 c8 c9 c10 c11 c12 : Addr} (F : Fun K "_law_kind" "_law_kind" sKind f fd) (T : Bt mg) (Z : Cls12 mg c1 c2 c3 c4 c5 c6 c7 c8 c9 c10 c11 c12) : FnOkN P w K mg base 1 f fd ["_law_e"] (lsp K (L3.spKind K [c1, c2, c3, c4, c5, c6, c7, c8, c9, c10, c11, c12])) := by
  refine ok3N F scKind (fun δ Q Z h => match δ, h with | [.d (.exc C)], _ => rfl) fun cdv A outer s H hr => ?_
  have nd := scKind.nd
  refine ⟨_, (b_cons (s_set 1 (by exact nd) rfl (Or.inl rfl) (e_lst (a_cons d_str (a_cons d_str (a_cons d_str (a_cons d_str (a_cons d_str (a_cons d_str (a_cons d_str (a_cons d_str (a_cons d_str (a_cons d_str a_nil Fr.star_const) Fr.star_const) Fr.star_const) Fr.star_const) Fr.star_const) Fr.star_const) Fr.star_const) Fr.star_const) Fr.star_const) Fr.star_const))) (b_cons (s_set 2 (by exact nd) rfl (Or.inl rfl) (e_lst (a_cons (d_isX 0 rfl T.isinstance rfl Z.m1) (a_cons (d_isX 0 rfl T.isinstance rfl Z.m2) (a_cons (d_isX 0 rfl T.isinstance rfl Z.m3) (a_cons (d_isX 0 rfl T.isinstance rfl Z.m4) a_nil Fr.star_call) Fr.star_call) Fr.star_call) Fr.star_call))) (b_cons (s_set 2 (by exact nd) rfl (Or.inl rfl) (e_opN op_cat n_cat (dv 2) (E3.toD (e_lst (a_cons (d_isX 0 rfl T.isinstance rfl Z.m5) (a_cons (d_isX 0 rfl T.isinstance rfl Z.m6) (a_cons (d_isX 0 rfl T.isinstance rfl Z.m7) (a_cons (d_isX 0 rfl T.isinstance rfl Z.m8) a_nil Fr.star_call) Fr.star_call) Fr.star_call) Fr.star_call))))) (b_cons (s_set 2 (by exact nd) rfl (Or.inl rfl) (e_opN op_cat n_cat (dv 2) (E3.toD (e_lst (a_cons (d_isX 0 rfl T.isinstance rfl Z.m9) (a_cons (d_isX 0 rfl T.isinstance rfl Z.m10) (a_cons (d_isX 0 rfl T.isinstance rfl Z.m11) (a_cons (d_isX 0 rfl T.isinstance rfl Z.m12) a_nil Fr.star_call) Fr.star_call) Fr.star_call) Fr.star_call))))) (b_cons (s_if (W3.toC (w_or (c_cmp op_ne r_ne (d_countB (dv 2) d_bl Fr.star_const) d_int (nomark _)) (w_or1 (c_not (c_val (d_isXB 0 rfl T.isinstance rfl Z.ve boot_VE)))))) (b_one (s_ret (D3.toE d_str))) b_nil) (b_one (s_ret (D3.toE (d_ixL (E3.toD (e_opN op_cat n_cat (dv 1) (E3.toD (e_lst (a_cons d_str (a_cons d_str a_nil Fr.star_const) Fr.star_const))))) (d_indexB (dv 2) d_bl Fr.star_const)))))))))), fun δ Q ZZ h => ?_⟩
  match δ, h with
  | [.d (.exc C)], ⟨j, kd, q⟩ =>
    have zz := kd.z
    have k1 : PySem.W.kitOne K (.ref C) (.ref c1) = some (kdB j 0) := kd.k 0 c1 rfl
    have k2 : PySem.W.kitOne K (.ref C) (.ref c2) = some (kdB j 1) := kd.k 1 c2 rfl
    have k3 : PySem.W.kitOne K (.ref C) (.ref c3) = some (kdB j 2) := kd.k 2 c3 rfl
    have k4 : PySem.W.kitOne K (.ref C) (.ref c4) = some (kdB j 3) := kd.k 3 c4 rfl
    have k5 : PySem.W.kitOne K (.ref C) (.ref c5) = some (kdB j 4) := kd.k 4 c5 rfl
    have k6 : PySem.W.kitOne K (.ref C) (.ref c6) = some (kdB j 5) := kd.k 5 c6 rfl
    have k7 : PySem.W.kitOne K (.ref C) (.ref c7) = some (kdB j 6) := kd.k 6 c7 rfl
    have k8 : PySem.W.kitOne K (.ref C) (.ref c8) = some (kdB j 7) := kd.k 7 c8 rfl
    have k9 : PySem.W.kitOne K (.ref C) (.ref c9) = some (kdB j 8) := kd.k 8 c9 rfl
    have k10 : PySem.W.kitOne K (.ref C) (.ref c10) = some (kdB j 9) := kd.k 9 c10 rfl
    have k11 : PySem.W.kitOne K (.ref C) (.ref c11) = some (kdB j 10) := kd.k 10 c11 rfl
    have k12 : PySem.W.kitOne K (.ref C) (.ref c12) = some (kdB j 11) := kd.k 11 c12 rfl
    walk_at "w"
    refine ⟨zz, _, k1, ?_⟩
    walk_at "w"
    refine ⟨zz, _, k2, ?_⟩
    walk_at "w"
    refine ⟨zz, _, k3, ?_⟩
    walk_at "w"
    refine ⟨zz, _, k4, ?_⟩
    walk_at "w"
    refine ⟨zz, _, k5, ?_⟩
    walk_at "w"
    refine ⟨zz, _, k6, ?_⟩
    walk_at "w"
    refine ⟨zz, _, k7, ?_⟩
    walk_at "w"
    refine ⟨zz, _, k8, ?_⟩
    walk_at "w"
    refine ⟨by show 4 + 4 ≤ 1000000; decide, ?_⟩
    walk_at "w"
    refine ⟨zz, _, k9, ?_⟩
    walk_at "w"
    refine ⟨zz, _, k10, ?_⟩
    walk_at "w"
    refine ⟨zz, _, k11, ?_⟩
    walk_at "w"
    refine ⟨zz, _, k12, ?_⟩
    walk_at "w"
    refine ⟨by show 8 + 4 ≤ 1000000; decide, ?_⟩
    obtain ⟨cn, ci, cm⟩ := kd_facts j kd.lt
    walk_at "w"
    refine ⟨kdL j, rfl, rfl, ?_⟩
    rw [cn]
    walk_at "w"
    refine ⟨zz, _, kd.v, ?_⟩
    walk_at "w"
    refine ⟨by decide, ?_⟩
    walk_at "w"
    refine ⟨kdL j, j, rfl, rfl, ci, cm, ?_⟩
    refine ⟨.str (kdNames.getD j ""), ?_, q⟩
    refine atI_nat ?_
    have lt := kd.lt
    have hj : j = 0 ∨ j = 1 ∨ j = 2 ∨ j = 3 ∨ j = 4 ∨ j = 5 ∨ j = 6 ∨ j = 7 ∨ j = 8 ∨ j = 9 ∨ j = 10 ∨ j = 11 := by omega
    clear kd k1 k2 k3 k4 k5 k6 k7 k8 k9 k10 k11 k12 cn ci cm q lt
    rcases hj with rfl | rfl | rfl | rfl | rfl | rfl | rfl | rfl | rfl | rfl | rfl | rfl <;> rfl
end
end Fr

set_option Elab.async false
set_option linter.all false
set_option maxRecDepth 100000
set_option maxHeartbeats 1000000
namespace Fr
open PySem L2 L3
local macro_rules | `(tactic| walk_at "w") => `(tactic| conv => whnf)
local macro_rules | `(tactic| walk_at "v") => `(tactic| ((conv => whnf); repeat ((refine ⟨_, rfl, ?_⟩); (conv => whnf))))
local macro_rules | `(tactic| walk_at "m") => `(tactic| ((repeat ((conv => whnf); (refine ⟨⟨by assumption, by assumption⟩, ?_⟩))); (conv => whnf)))
section
variable {P : Program} {w : World} {K : PySem.W.Frag} {mg : Str → Option Value} {base : Heap} {f : Addr} {fd : FuncData}
theorem okM_lCommon (F : Fun K "_law_common" "_law_common" sLCommon f fd) (T : Bt mg) : FnOkM P w K mg base 1 f fd ["_law_one", "_law_other"] (lspQ K spDivisor) := by
  refine ok3M F scLCommon (fun δ Q Z h => ln_ii h) fun cdv A outer s H hr => ?_
  have nd := scLCommon.nd
  refine ⟨_, (b_cons (s_parM 0 1 (by exact nd) rfl rfl (by decide) rfl rfl (a_cons (d_callB call_abs cr_abs rfl T.abs PyProof.Rows.boot_abs (a_cons (dv 0) a_nil Fr.star_name)) (a_cons (d_callB call_abs cr_abs rfl T.abs PyProof.Rows.boot_abs (a_cons (dv 1) a_nil Fr.star_name)) a_nil Fr.star_call) Fr.star_call)) (b_cons (s_while pass_no (c_cmp op_gt r_gt (dv 1) d_int (nomark _)) (b_one (s_parM 0 1 (by exact nd) rfl rfl (by decide) rfl rfl (a_cons (dv 1) (a_cons (d_op op_mod r_mod (dv 0) (dv 1)) a_nil Fr.star_bin) Fr.star_name)))) (b_one (s_ret (e_move 0))))), fun δ Q Z h => ?_⟩
  obtain ⟨a, b, rfl, q⟩ := iv_ii h
  walk_at "w"
  refine ⟨⟨0, trivial⟩, ?_⟩
  walk_at "w"
  refine ⟨fun m δ => ∃ x y : Int, δ = [.d (.int x), .d (.int y)] ∧ 0 ≤ x ∧ 0 ≤ y ∧ Int.gcd x y = Int.gcd a b ∧ m = y.natAbs, ⟨_, _, _, rfl, abs_nn a, abs_nn b, gcd_abs a b, rfl⟩, ?_⟩
  rintro m δ ⟨x, y, rfl, x0, y0, g, rfl⟩
  walk_at "w"
  refine brd (fun c => ?_) (fun c => ?_)
  · walk_at "w"
    have h1 := Int.emod_nonneg x (show y ≠ 0 by omega)
    have h2 := Int.emod_lt_of_pos x c
    refine ⟨c, ⟨0, trivial⟩, ?_⟩
    refine ⟨_, (by omega), y, x % y, rfl, y0, h1, ?_, rfl⟩
    rw [← g]
    exact gcd_emod' x y
  · have e : y = 0 := by omega
    subst e
    have e2 : ((Int.gcd a b : Nat) : Int) = x := by
      rw [← g, Int.gcd_zero_right]
      omega
    have q' : Q (.d (.int (Int.gcd a b))) none := q
    rw [e2] at q'
    exact q'
theorem okM_lEnd (F : Fun K "_law_end" "_law_end" sLEnd f fd) (T : Bt mg) (O_law_common : L3.OwnM P w K mg base 1 "_law_common" ["_law_one", "_law_other"] spDivisor) : FnOkM P w K mg base 2 f fd ["_law_n", "_law_spot_here"] (lspQ K spLEnd) := by
  refine ok3M F scLEnd (fun δ Q Z h => ln_id h) fun cdv A outer s H hr => ?_
  have nd := scLEnd.nd
  refine ⟨_, (b_cons (s_set 2 (by exact nd) rfl (Or.inl rfl) (e_callM O_law_common hr rfl (a_cons (d_ixT (dv 1) d_int) (a_cons (dv 0) a_nil Fr.star_name)))) (b_one (s_ret (D3.toE (d_tup (a_cons (dv 2) (a_cons (d_op op_mod r_mod (d_op Fr.op_mulW r_mul (d_ixT (dv 1) d_int) (d_op Fr.op_fdivP r_fdiv (d_ixT (dv 1) d_int) (dv 2))) (E3.toD (e_callM O_law_common hr rfl (a_cons (dv 2) (a_cons (d_op Fr.op_fdivP r_fdiv (dv 0) (dv 2)) a_nil Fr.star_bin) Fr.star_name)))) a_nil Fr.star_bin) Fr.star_name)))))), fun δ Q Z h => ?_⟩
  obtain ⟨i, y, rfl, n, p, q, e0, n1, n2, e, bp, bq, k⟩ := iv_id h
  subst e e0
  have d0 := endD_pos n1 q
  have m0 := endM_pos n1 q
  have d1 : 0 < endD n q ∧ endD n q < 2 ^ 250 := ⟨d0.1, by have : (48 : Int) < 2 ^ 250 := by decide
                                                           omega⟩
  walk_at "w"
  refine ⟨.int q, rfl, ⟨0, trivial⟩, ?_⟩
  walk_at "w"
  refine ⟨.int p, rfl, ?_⟩
  walk_at "w"
  refine ⟨.int q, rfl, d1, ?_⟩
  walk_at "w"
  refine ⟨⟨fitE bp (by decide), fitE (div_abs d0.1 bq) (by decide)⟩, ?_⟩
  walk_at "w"
  refine ⟨d1, ⟨0, trivial⟩, ?_⟩
  walk_at "w"
  refine ⟨m0, ?_⟩
  exact k _
end
end Fr

set_option Elab.async false
set_option linter.all false
set_option maxRecDepth 100000
set_option maxHeartbeats 1000000
namespace Fr
open PySem L2 L3
local macro_rules | `(tactic| walk_at "w") => `(tactic| conv => whnf)
local macro_rules | `(tactic| walk_at "v") => `(tactic| ((conv => whnf); repeat ((refine ⟨_, rfl, ?_⟩); (conv => whnf))))
local macro_rules | `(tactic| walk_at "m") => `(tactic| ((repeat ((conv => whnf); (refine ⟨⟨by assumption, by assumption⟩, ?_⟩))); (conv => whnf)))
abbrev sRight : Stmt := top 45
def spRight (C : Addr) : Sp3 := fun δ Q _ => match δ with
  | [.d x, .d y, .d z] => ∃ (n : Nat) (p q p' q' : Int), IsLev C n x ∧ y = pairD p q ∧ z = pairD p' q' ∧ Spt p q ∧ Spt p' q' ∧ ∀ ob, Q (.d (.bl true)) ob
  | _ => False
theorem canEq_str (x : Str) (h : PyData.strOk x = true) : CanEq (.str x) := ⟨h, by show PyData.depth (.str x) ≤ 60; simp [PyData.depth]⟩
section
variable {P : Program} {w : World} {K : PySem.W.Frag} {mg : Str → Option Value} {base : Heap} {f : Addr} {fd : FuncData}
theorem scRight : FnScope ["_law_level", "_law_one", "_law_other", "_law_n", "_law_found", "_law_e", "_law_a", "_law_b", "_law_c", "_law_d"] ["_law_level", "_law_one", "_law_other"] (defScope sRight) := ⟨rfl, rfl, rfl, by decide +kernel, rfl, by decide +kernel, by decide +kernel⟩
theorem ok_right (F : Fun K "_law_right" "_law_right" sRight f fd) (T : Bt mg) {C gA gR : Addr} {cs : List Addr} (m_RoadError : mg "RoadError" = some (.ref gR)) (z_RoadError : ClauseK K gR) (hsub : PySem.W.mroIn K gA (.ref gR) = some true) (kd : KdAt K cs gA 4)
    (MLevel_number : MtOk P w K mg base 4 C "number" ["self"] (spLNumber C)) (Oleading : Own3 P w K mg base 4 "leading" ["level", "one", "other"] (spLeading C gA)) (O_law_kindN : OwnN P w K mg base 1 "_law_kind" ["_law_e"] (lsp K (L3.spKind K cs))) (O_law_end : L3.OwnM P w K mg base 2 "_law_end" ["_law_n", "_law_spot_here"] spLEnd)
    (O_law_is_pair : Own3 P w K mg base 4 "_law_is_pair" ["_law_thing"] spIsPair) (O_law_leads : Own3 P w K mg base 4 "_law_leads" ["_law_turning", "_law_spot_here"] spLeadsW) :
    FnOk P w K mg base (CX1 P w) 5 f fd ["_law_level", "_law_one", "_law_other"] (lsp K (spRight C)) := by
  have O_law_kind := ownM O_law_kindN
  refine ok3 F scRight (fun δ Q Z h => ln_ddd h) fun cdv A outer s H E hr => ?_
  have nd := scRight.nd
  refine ⟨_, (b_cons (s_set 3 (by exact nd) rfl (Or.inl rfl) (e_meth0 MLevel_number Fr.pass_on hr (dv 0))) (b_cons (s_tryAM Oleading hr rfl (fun Ew => (a_cons (dv 0) (a_cons (dv 1) (a_cons (dv 2) a_nil Fr.star_name) Fr.star_name) Fr.star_name)) ⟨rfl, rfl⟩ rfl m_RoadError z_RoadError (by exact nd) (i := 5) (j := 4) rfl rfl rfl rfl (fun zx => (b_one (s_ret (D3.toE (d_and (d_cmp Fr.op_eqD (r_eqDN (room_in (j := 0) hr)) (E3.toD (e_callM O_law_kind (room_in hr) rfl (a_cons (dv 5) a_nil Fr.star_name))) d_str (nomark _)) (d_one (d_cmp Fr.op_neD (r_neDN (room_in (j := 0) hr)) (E3.toD (e_callM O_law_end (room_in hr) rfl (a_cons (dv 3) (a_cons (dv 1) a_nil Fr.star_name) Fr.star_name))) (E3.toD (e_callM O_law_end (room_in hr) rfl (a_cons (dv 3) (a_cons (dv 2) a_nil Fr.star_name) Fr.star_name))) (nomark _))))))))) (b_cons (s_if (W3.toC (w_or (c_not (c_val (d_isiN 4 rfl T.isinstance rfl T.tuple PyProof.Rows.boot_tuple))) (w_or (c_cmp op_ne r_ne (d_callB call_len_seq cr_len rfl T.len PySem.boot_len (a_cons (dv 4) a_nil Fr.star_name)) d_int (nomark _)) (w_or (c_not (c_val (E3.toD (e_call O_law_is_pair Fr.pass_on hr rfl (a_cons (d_ixT (dv 4) d_int) a_nil))))) (w_or1 (c_not (c_val (E3.toD (e_call O_law_is_pair Fr.pass_on hr rfl (a_cons (d_ixT (dv 4) d_int) a_nil)))))))))) (b_one (s_ret (D3.toE d_bl))) b_nil) (b_cons (s_asg (dv 4) (g_tup (n := 2) rfl (gs_cons (g_tup (n := 2) rfl (gs_cons (g_name 6 (by exact nd) rfl (Or.inl rfl)) (gs_cons (g_name 7 (by exact nd) rfl (Or.inl rfl)) gs_nil))) (gs_cons (g_tup (n := 2) rfl (gs_cons (g_name 8 (by exact nd) rfl (Or.inl rfl)) (gs_cons (g_name 9 (by exact nd) rfl (Or.inl rfl)) gs_nil))) gs_nil)))) (b_one (s_ret (D3.toE (d_and (d_cmp op_eq r_eq (d_op op_sub r_sub (d_op Fr.op_mulW r_mul (dv 6) (dv 9)) (d_op Fr.op_mulW r_mul (dv 7) (dv 8))) d_int (nomark _)) (d_and (d_cmp op_eq r_eq (d_op op_mod r_mod (dv 8) (dv 3)) d_int (nomark _)) (d_one (d_cmp Fr.op_eqD (r_eqD hr) (E3.toD (e_call O_law_leads Fr.pass_on hr rfl (a_cons (dv 4) (a_cons (dv 1) a_nil Fr.star_name) Fr.star_name))) (dv 2) (nomark _)))))))))))), fun δ Q Z h => ?_⟩
  obtain ⟨x, y, z, rfl, n, p, q, p', q', hx, e1, e2, S1, S2, k⟩ := iv_ddd h
  subst e1 e2
  obtain ⟨kvs, rfl, hk, n1, n2⟩ := id hx
  have h65 : 2000 ≤ 65536 := by decide
  walk_at "w"
  refine ⟨⟨rfl, rfl⟩, n, hx, ?_⟩
  walk_at "w"
  refine ⟨n, p, q, p', q', hx, rfl, rfl, S1, S2, fun m dm mc bm e1 e2 hee ob => ?_, fun hne ob => ⟨hsub, ?_⟩⟩
  · obtain ⟨b1, b2, b3, b4⟩ := Mt.bd_mono bm (show 1000 ≤ 2000 by decide)
    have dt' : m.a * m.d - m.b * m.c = 1 := dm
    walk_at "w"
    refine ⟨_, rfl, rfl, pairP m.a m.b, ?_⟩
    walk_at "w"
    refine ⟨_, rfl, rfl, pairP m.c m.d, ?_⟩
    walk_at "w"
    refine ⟨⟨fitB b1 h65, fitB b4 h65⟩, ?_⟩
    walk_at "w"
    refine ⟨⟨fitB b2 h65, fitB b3 h65⟩, ?_⟩
    walk_at "w"
    refine brd (fun c => ?_) (fun c => absurd dt' c)
    walk_at "w"
    refine ⟨(by show (0 : Int) < (n : Int); omega), ?_⟩
    walk_at "w"
    refine brd (fun c2 => ?_) (fun c2 => absurd mc c2)
    walk_at "w"
    refine ⟨m, p, q, rfl, rfl, Mt.bd_mono bm (by decide), S1.bp, S1.bq, ?_, ?_, ?_, fun p2 q2 hs ob => ?_⟩
    · rw [e1]; exact pow_mono S2.bp (by decide)
    · rw [e2]; exact pow_mono S2.bq (by decide)
    · rw [e1, e2]; exact co_ne' S2.co
    rw [e1, e2] at hs
    have hpq : p2 = p' ∧ q2 = q' := by
      have h1 := short_unit hs S2.co
      have h2 := hs.sg
      have h3 := S2.sg
      omega
    obtain ⟨rfl, rfl⟩ := hpq
    walk_at "w"
    refine ⟨⟨canEq_pair _ _, canEq_pair _ _⟩, true, eqv_refl (canEq_pair _ _), ?_⟩
    exact k _
  · walk_at "w"
    refine ⟨⟨0, trivial⟩, 4, kd, ?_⟩
    walk_at "w"
    refine ⟨⟨canEq_str _ (by decide +kernel), canEq_str _ (by decide +kernel)⟩, true, eqv_refl (canEq_str "Apart" (by decide +kernel)), ?_⟩
    walk_at "w"
    refine ⟨⟨0, trivial⟩, n, p, q, rfl, n1, n2, rfl, pow_mono S1.bp (by decide), pow_mono S1.bq (by decide), fun ob => ?_⟩
    walk_at "w"
    refine ⟨⟨0, trivial⟩, n, p', q', rfl, n1, n2, rfl, pow_mono S2.bp (by decide), pow_mono S2.bq (by decide), fun ob => ?_⟩
    walk_at "w"
    refine ⟨⟨canEq_pair _ _, canEq_pair _ _⟩, false, ?_, ?_⟩
    · rw [Bool.eq_false_iff]
      intro z0
      have z := (eqv_pairs (a := endD n q) (b := endR n p q) (c := endD n q') (d := endR n p' q')).symm.trans z0
      rw [Bool.and_eq_true, decide_eq_true_iff, decide_eq_true_iff] at z
      exact hne z
    · exact k _
abbrev sLaw : Stmt := top 46
theorem scLaw : FnScope ["_law_script", "_law_k", "_law_purse_here", "_law_n", "_law_level", "_law_spots", "_law_one", "_law_other"] ["_law_script"] (defScope sLaw) := ⟨rfl, rfl, rfl, by decide +kernel, rfl, by decide +kernel, by decide +kernel⟩
theorem ok_law (F : Fun K "law" "law" sLaw f fd) (T : Bt mg) {C gN : Addr} (TLevel : LevC K C) (MLevel : MkOk P w K mg base 4 "Level" C ["self", "n"] (spLInit C gN))
    (O_law_purse : Own3 P w K mg base 5 "_law_purse" ["_law_script", "_law_at"] sp3Purse) (O_law_size : Own3 P w K mg base 5 "_law_size" ["_law_purse_here"] spSize) (O_law_spot : Own3 P w K mg base 5 "_law_spot" ["_law_purse_here"] spSpot) (O_law_near : Own3 P w K mg base 5 "_law_near" ["_law_purse_here", "_law_n"] spNear)
    (O_law_right : Own3 P w K mg base 5 "_law_right" ["_law_level", "_law_one", "_law_other"] (spRight C)) :
    FnOk P w K mg base (CX1 P w) 6 f fd ["_law_script"] (lsp K sp3Law) := by
  refine ok3 F scLaw (fun δ Q Z h => ln_s h) fun cdv A outer s H E hr => ?_
  have nd := scLaw.nd
  refine ⟨_, (b_cons (s_for PassesOwn.leaving rfl (i_range1 rfl T.range (a_cons (d_callB (call_max2 rfl) cr_two rfl T.max PyProof.Rows.boot_max (a_cons d_int (a_cons (d_callB (call_min2 rfl) cr_two rfl T.min PyProof.Rows.boot_min (a_cons (d_callB call_len_seq cr_len rfl T.len PySem.boot_len (a_cons (dv 0) a_nil Fr.star_name)) (a_cons d_int a_nil Fr.star_const) Fr.star_call)) a_nil Fr.star_call) Fr.star_const)) a_nil Fr.star_call)) (g_name 1 (by exact nd) rfl (Or.inl rfl)) (b_cons (s_set 2 (by exact nd) rfl (Or.inl rfl) (e_call O_law_purse Fr.pass_on hr rfl (a_cons (dv 0) (a_cons (dv 1) a_nil Fr.star_name) Fr.star_name))) (b_cons (s_set 3 (by exact nd) rfl (Or.inl rfl) (e_callB 2 O_law_size Fr.pass_on hr rfl a_nil)) (b_cons (s_set 4 (by exact nd) rfl (Or.inl rfl) (e_make MLevel Fr.pass_on hr rfl (a_cons (dv 3) a_nil Fr.star_name))) (b_cons (s_set 5 (by exact nd) rfl (Or.inl rfl) (e_lst (a_cons (E3.toD (e_callB 2 O_law_spot Fr.pass_on hr rfl a_nil)) (a_cons (E3.toD (e_callB 2 O_law_near Fr.pass_on hr rfl (a_cons (dv 3) a_nil Fr.star_name))) (a_cons (E3.toD (e_callB 2 O_law_near Fr.pass_on hr rfl (a_cons (dv 3) a_nil Fr.star_name))) (a_cons (d_tup (a_cons d_int (a_cons d_int a_nil Fr.star_const) Fr.star_const)) a_nil Fr.star_tup) Fr.star_call) Fr.star_call) Fr.star_call))) (b_one (s_for PassesOwn.leaving rfl (i_list (dv 5)) (g_name 6 (by exact nd) rfl (Or.inl rfl)) (b_one (s_for PassesOwn.leaving rfl (i_list (dv 5)) (g_name 7 (by exact nd) rfl (Or.inl rfl)) (b_one (s_if (c_not (c_val (E3.toD (e_call O_law_right Fr.pass_on hr rfl (a_cons (dv 4) (a_cons (dv 6) (a_cons (dv 7) a_nil Fr.star_name) Fr.star_name) Fr.star_name))))) (b_one (s_ret (D3.toE d_bl))) b_nil))))))))))) (b_one (s_ret (D3.toE d_bl)))), fun δ Q Z h => ?_⟩
  obtain ⟨ns, rfl, hlen, q⟩ := iv_s h
  have notL : ∀ m : Nat, 1 ≤ m → m ≤ 48 → ¬ lvl (natD m) = false := fun m m1 m2 z => absurd z (by show ¬ ((decide ((1 : Int) ≤ (m : Int)) && decide ((m : Int) ≤ 48)) = false); simp; omega)
  have inj : ∀ a b : Nat, natD a = natD b → a = b := fun a b e => by
    have : (D.int (a : Int)) = D.int (b : Int) := e
    injection this with this
    omega
  obtain ⟨tr1, tr2⟩ := turns_in 1 8 ns.length (by decide) (by decide) (by decide)
  walk_at "w"
  refine ⟨tr1, ?_⟩
  refine forL_range (fun k δ => ∃ s1 s2 s3 s4 s5 s6 s7, δ = [.d (.scr ns), s1, s2, s3, s4, s5, s6, s7]) ⟨_, _, _, _, _, _, _, rfl⟩ ?_ ?_
  · rintro k δ N hk ⟨s1, s2, s3, s4, s5, s6, s7, rfl⟩ hN
    rw [Int.zero_add]
    have hk3 : (k : Int) < 2 ^ 60 := by omega
    walk_at "w"
    refine ⟨⟨by omega, hk3⟩, fun n n1 n2 => ?_⟩
    walk_at "w"
    refine ⟨rfl, rfl, fun n' e _ _ kvs hkv => ?_, fun z => absurd z (notL n n1 n2)⟩
    cases inj _ _ e
    have hL : IsLev C n (.obj C (levF n kvs)) := ⟨kvs, rfl, hkv, n1, n2⟩
    walk_at "w"
    intro p1 q1 g1 sg1 b1 b2
    walk_at "w"
    refine ⟨n, rfl, n1, n2, fun p2 q2 g2 sg2 b3 b4 => ?_⟩
    walk_at "w"
    refine ⟨n, rfl, n1, n2, fun p3 q3 g3 sg3 b5 b6 => ?_⟩
    have all : ∀ y ∈ [pairD p1 q1, pairD p2 q2, pairD p3 q3, pairD 0 1], ∃ a b : Int, y = pairD a b ∧ Spt a b := by
      intro y hy
      simp only [List.mem_cons, List.not_mem_nil, or_false] at hy
      rcases hy with rfl | rfl | rfl | rfl
      · exact ⟨_, _, rfl, g1, sg1, pow_mono b1 (by decide), pow_mono b2 (by decide)⟩
      · exact ⟨_, _, rfl, g2, sg2, pow_mono b3 (by decide), pow_mono b4 (by decide)⟩
      · exact ⟨_, _, rfl, g3, sg3, pow_mono b5 (by decide), pow_mono b6 (by decide)⟩
      · exact ⟨_, _, rfl, by decide, .inl (by decide), by decide, by decide⟩
    refine forL_inv (fun i δ => ∃ s1 s2 s6 s7, ∃ l : Sl, (l = .own (.ins C (levF n kvs)) ∨ l = .d (.obj C (levF n kvs))) ∧ δ = [.d (.scr ns), s1, s2, .d (natD n), l, .d (.lst [pairD p1 q1, pairD p2 q2, pairD p3 q3, pairD 0 1]), s6, s7]) ⟨_, _, _, _, _, .inl rfl, rfl⟩ ?_ ?_
    · rintro i x δ N2 hx ⟨s1, s2, s6, s7, l, hl, rfl⟩ hN2
      obtain ⟨a, b, rfl, Sab⟩ := all x (List.mem_of_getElem? hx)
      refine forL_inv (fun i δ => ∃ s1 s2 s7, ∃ l : Sl, (l = .own (.ins C (levF n kvs)) ∨ l = .d (.obj C (levF n kvs))) ∧ δ = [.d (.scr ns), s1, s2, .d (natD n), l, .d (.lst [pairD p1 q1, pairD p2 q2, pairD p3 q3, pairD 0 1]), .d (pairD a b), s7]) ⟨_, _, _, _, hl, rfl⟩ ?_ ?_
      · rintro i2 x2 δ N3 hx2 ⟨s1, s2, s7, l, hl, rfl⟩ hN3
        obtain ⟨c, d, rfl, Scd⟩ := all x2 (List.mem_of_getElem? hx2)
        rcases hl with rfl | rfl
        all_goals
          walk_at "w"
          refine ⟨n, a, b, c, d, hL, rfl, rfl, Sab, Scd, fun ob => ?_⟩
          walk_at "w"
          exact hN3 _ ⟨_, _, _, _, .inr rfl, rfl⟩
      · rintro δ ⟨s1, s2, s7, l, hl, rfl⟩
        exact hN2 _ ⟨_, _, _, _, _, hl, rfl⟩
    · rintro δ ⟨s1, s2, s6, s7, l, hl, rfl⟩
      exact hN _ ⟨_, _, _, _, _, _, _, rfl⟩
  · rintro δ ⟨s1, s2, s3, s4, s5, s6, s7, rfl⟩
    exact q _
end
end Fr

set_option Elab.async false
set_option linter.all false
set_option maxRecDepth 100000
set_option maxHeartbeats 8000000
namespace Fr
open PySem L2 L3
theorem all_mk {l : PySem.W.OpenLaw} {w : World} {K : PySem.W.Frag} {h : Heap} {mg : Str → Option Value} {fa f1 f2 f3 f4 f5 f6 f7 f8 f9 f10 f11 f12 f13 f14 f15 f16 f17 f18 f19 f20 f21 f22 f23 f24 f25 f26 f27 f28 : Addr} {od1 an1 od2 an2 od3 an3 od4 an4 od5 an5 od6 an6 od7 an7 od8 an8 od9 an9 od10 an10 od11 an11 od12 an12 od13 an13 od14 an14 od15 an15 od16 an16 od17 an17 od18 an18 od19 an19 od20 an20 od21 an21 od22 an22 od23 an23 od24 an24 od25 an25 od26 an26 od27 an27 od28 an28 : Option Addr} {sl1 sl2 sl3 sl4 sl5 sl6 sl7 sl8 sl9 sl10 sl11 sl12 sl13 sl14 sl15 sl16 sl17 sl18 sl19 sl20 sl21 sl22 sl23 sl24 sl25 sl26 sl27 sl28 : Array (Option Value)} {oc1 kV1 dc1 pm1 cd1 ct1 oc2 kV2 dc2 pm2 cd2 ct2 oc3 kV3 dc3 pm3 cd3 ct3 oc4 kV4 dc4 pm4 cd4 ct4 oc5 kV5 dc5 pm5 cd5 ct5 oc6 kV6 dc6 pm6 cd6 ct6 oc7 kV7 dc7 pm7 cd7 ct7 oc8 kV8 dc8 pm8 cd8 ct8 oc9 kV9 dc9 pm9 cd9 ct9 oc10 kV10 dc10 pm10 cd10 ct10 oc11 kV11 dc11 pm11 cd11 ct11 oc12 kV12 dc12 pm12 cd12 ct12 oc13 kV13 dc13 pm13 cd13 ct13 oc14 kV14 dc14 pm14 cd14 ct14 oc15 kV15 dc15 pm15 cd15 ct15 oc16 kV16 dc16 pm16 cd16 ct16 oc17 kV17 dc17 pm17 cd17 ct17 oc18 kV18 dc18 pm18 cd18 ct18 oc19 kV19 dc19 pm19 cd19 ct19 oc20 kV20 dc20 pm20 cd20 ct20 oc21 kV21 dc21 pm21 cd21 ct21 oc22 kV22 dc22 pm22 cd22 ct22 oc23 kV23 dc23 pm23 cd23 ct23 oc24 kV24 dc24 pm24 cd24 ct24 oc25 kV25 dc25 pm25 cd25 ct25 oc26 kV26 dc26 pm26 cd26 ct26 oc27 kV27 dc27 pm27 cd27 ct27 oc28 kV28 dc28 pm28 cd28 ct28 : Value} {C1 : Addr} {gN gA : Addr} {t_LAST_LEVEL : Tok} {kc0 kc2 kc3 kc5 kc6 kc7 kc8 kc9 kc10 kc11 cR : Addr} {rdd xd_Apart : Option Addr} {rsl xs_Apart : Array (Option Value)} {xc_Apart : Value} {rcd xk_Apart : ClassData} (X : K.In h) (G : h.Ns mainGlobals mg) (hfa : mg "law" = some (.ref fa))
    (aCC1 : PySem.W.nsIn K mainGlobals "Level" = some (some (.ref C1)))
    (pgC1 : PySem.W.plainGet K C1 Str.empty = true)
    (hdC1 : PySem.W.hasDictIn K C1 = true)
    (poC1 : PySem.W.plainOver K C1 = true)
    (saC1 : PySem.W.findIn K (.ref C1) "__setattr__" = some (some (.builtin "object.__setattr__")))
    (mkC1 : PySem.W.makesIn K C1 = true)
    (kcC1 : PySem.W.keepIn K (.ref C1) = true)
    (nC1_modulus : PySem.W.findIn K (.ref C1) "modulus" = some none)
    (nC1_all_symbols : PySem.W.findIn K (.ref C1) "all_symbols" = some none)
    (nC1_pair_numbers : PySem.W.findIn K (.ref C1) "pair_numbers" = some none)
    (a1 : PySem.W.nsIn K mainGlobals "is_whole" = some (some (.ref f1)))
    (l1 : K.lookup f1 = some ⟨oc1, od1, .func (PySem.W.fnOf "is_whole" "is_whole" (defArgs sWholeP) (defBody sWholeP) (defScope sWholeP) .none kV1 dc1 pm1 an1 cd1 ct1), sl1⟩)
    (c1 : PySem.W.codeIn K cd1 "is_whole" = true)
    (k1 : PySem.W.keepIn K (.ref f1) = true)
    (a2 : PySem.W.nsIn K mainGlobals "is_level" = some (some (.ref f2)))
    (l2 : K.lookup f2 = some ⟨oc2, od2, .func (PySem.W.fnOf "is_level" "is_level" (defArgs sIsLevel) (defBody sIsLevel) (defScope sIsLevel) .none kV2 dc2 pm2 an2 cd2 ct2), sl2⟩)
    (c2 : PySem.W.codeIn K cd2 "is_level" = true)
    (k2 : PySem.W.keepIn K (.ref f2) = true)
    (a3 : PySem.W.nsIn K mainGlobals "level_number" = some (some (.ref f3)))
    (l3 : K.lookup f3 = some ⟨oc3, od3, .func (PySem.W.fnOf "level_number" "level_number" (defArgs sLevelNumber) (defBody sLevelNumber) (defScope sLevelNumber) .none kV3 dc3 pm3 an3 cd3 ct3), sl3⟩)
    (c3 : PySem.W.codeIn K cd3 "level_number" = true)
    (k3 : PySem.W.keepIn K (.ref f3) = true)
    (a4 : PySem.W.nsIn K mainGlobals "common_divisor" = some (some (.ref f4)))
    (l4 : K.lookup f4 = some ⟨oc4, od4, .func (PySem.W.fnOf "common_divisor" "common_divisor" (defArgs sDivisor) (defBody sDivisor) (defScope sDivisor) .none kV4 dc4 pm4 an4 cd4 ct4), sl4⟩)
    (c4 : PySem.W.codeIn K cd4 "common_divisor" = true)
    (k4 : PySem.W.keepIn K (.ref f4) = true)
    (a5 : PySem.W.nsIn K mainGlobals "symbols_numbered" = some (some (.ref f5)))
    (l5 : K.lookup f5 = some ⟨oc5, od5, .func (PySem.W.fnOf "symbols_numbered" "symbols_numbered" (defArgs sSymNum) (defBody sSymNum) (defScope sSymNum) .none kV5 dc5 pm5 an5 cd5 ct5), sl5⟩)
    (c5 : PySem.W.codeIn K cd5 "symbols_numbered" = true)
    (k5 : PySem.W.keepIn K (.ref f5) = true)
    (a6 : PySem.W.findIn K (.ref C1) "__init__" = some (some (.ref f6)))
    (i6 : PySem.W.isFn K (.ref f6) = true)
    (l6 : K.lookup f6 = some ⟨oc6, od6, .func (PySem.W.fnOf "__init__" "Level.__init__" (defArgs sLInit) (defBody sLInit) (defScope sLInit) .none kV6 dc6 pm6 an6 cd6 ct6), sl6⟩)
    (c6 : PySem.W.codeIn K cd6 "Level.__init__" = true)
    (k6 : PySem.W.keepIn K (.ref f6) = true)
    (a7 : PySem.W.nsIn K mainGlobals "_law_purse" = some (some (.ref f7)))
    (l7 : K.lookup f7 = some ⟨oc7, od7, .func (PySem.W.fnOf "_law_purse" "_law_purse" (defArgs sPurse) (defBody sPurse) (defScope sPurse) .none kV7 dc7 pm7 an7 cd7 ct7), sl7⟩)
    (c7 : PySem.W.codeIn K cd7 "_law_purse" = true)
    (k7 : PySem.W.keepIn K (.ref f7) = true)
    (a8 : PySem.W.nsIn K mainGlobals "_law_take" = some (some (.ref f8)))
    (l8 : K.lookup f8 = some ⟨oc8, od8, .func (PySem.W.fnOf "_law_take" "_law_take" (defArgs sTake) (defBody sTake) (defScope sTake) .none kV8 dc8 pm8 an8 cd8 ct8), sl8⟩)
    (c8 : PySem.W.codeIn K cd8 "_law_take" = true)
    (k8 : PySem.W.keepIn K (.ref f8) = true)
    (a9 : PySem.W.nsIn K mainGlobals "_law_size" = some (some (.ref f9)))
    (l9 : K.lookup f9 = some ⟨oc9, od9, .func (PySem.W.fnOf "_law_size" "_law_size" (defArgs sLSize) (defBody sLSize) (defScope sLSize) .none kV9 dc9 pm9 an9 cd9 ct9), sl9⟩)
    (c9 : PySem.W.codeIn K cd9 "_law_size" = true)
    (k9 : PySem.W.keepIn K (.ref f9) = true)
    (a10 : PySem.W.nsIn K mainGlobals "_law_common" = some (some (.ref f10)))
    (l10 : K.lookup f10 = some ⟨oc10, od10, .func (PySem.W.fnOf "_law_common" "_law_common" (defArgs sLCommon) (defBody sLCommon) (defScope sLCommon) .none kV10 dc10 pm10 an10 cd10 ct10), sl10⟩)
    (c10 : PySem.W.codeIn K cd10 "_law_common" = true)
    (k10 : PySem.W.keepIn K (.ref f10) = true)
    (a11 : PySem.W.nsIn K mainGlobals "_law_short" = some (some (.ref f11)))
    (l11 : K.lookup f11 = some ⟨oc11, od11, .func (PySem.W.fnOf "_law_short" "_law_short" (defArgs sShort) (defBody sShort) (defScope sShort) .none kV11 dc11 pm11 an11 cd11 ct11), sl11⟩)
    (c11 : PySem.W.codeIn K cd11 "_law_short" = true)
    (k11 : PySem.W.keepIn K (.ref f11) = true)
    (a12 : PySem.W.nsIn K mainGlobals "_law_spot" = some (some (.ref f12)))
    (l12 : K.lookup f12 = some ⟨oc12, od12, .func (PySem.W.fnOf "_law_spot" "_law_spot" (defArgs sSpot) (defBody sSpot) (defScope sSpot) .none kV12 dc12 pm12 an12 cd12 ct12), sl12⟩)
    (c12 : PySem.W.codeIn K cd12 "_law_spot" = true)
    (k12 : PySem.W.keepIn K (.ref f12) = true)
    (a13 : PySem.W.nsIn K mainGlobals "_law_near" = some (some (.ref f13)))
    (l13 : K.lookup f13 = some ⟨oc13, od13, .func (PySem.W.fnOf "_law_near" "_law_near" (defArgs sNear) (defBody sNear) (defScope sNear) .none kV13 dc13 pm13 an13 cd13 ct13), sl13⟩)
    (c13 : PySem.W.codeIn K cd13 "_law_near" = true)
    (k13 : PySem.W.keepIn K (.ref f13) = true)
    (a14 : PySem.W.findIn K (.ref C1) "number" = some (some (.ref f14)))
    (i14 : PySem.W.isFn K (.ref f14) = true)
    (l14 : K.lookup f14 = some ⟨oc14, od14, .func (PySem.W.fnOf "number" "Level.number" (defArgs sLNumber) (defBody sLNumber) (defScope sLNumber) .none kV14 dc14 pm14 an14 cd14 ct14), sl14⟩)
    (c14 : PySem.W.codeIn K cd14 "Level.number" = true)
    (k14 : PySem.W.keepIn K (.ref f14) = true)
    (a15 : PySem.W.findIn K (.ref C1) "has" = some (some (.ref f15)))
    (i15 : PySem.W.isFn K (.ref f15) = true)
    (l15 : K.lookup f15 = some ⟨oc15, od15, .func (PySem.W.fnOf "has" "Level.has" (defArgs sLHas) (defBody sLHas) (defScope sLHas) .none kV15 dc15 pm15 an15 cd15 ct15), sl15⟩)
    (c15 : PySem.W.codeIn K cd15 "Level.has" = true)
    (k15 : PySem.W.keepIn K (.ref f15) = true)
    (a16 : PySem.W.nsIn K mainGlobals "back" = some (some (.ref f16)))
    (l16 : K.lookup f16 = some ⟨oc16, od16, .func (PySem.W.fnOf "back" "back" (defArgs sBack) (defBody sBack) (defScope sBack) .none kV16 dc16 pm16 an16 cd16 ct16), sl16⟩)
    (c16 : PySem.W.codeIn K cd16 "back" = true)
    (k16 : PySem.W.keepIn K (.ref f16) = true)
    (a17 : PySem.W.nsIn K mainGlobals "shares" = some (some (.ref f17)))
    (l17 : K.lookup f17 = some ⟨oc17, od17, .func (PySem.W.fnOf "shares" "shares" (defArgs sSharesW) (defBody sSharesW) (defScope sSharesW) .none kV17 dc17 pm17 an17 cd17 ct17), sl17⟩)
    (c17 : PySem.W.codeIn K cd17 "shares" = true)
    (k17 : PySem.W.keepIn K (.ref f17) = true)
    (a18 : PySem.W.nsIn K mainGlobals "turning_to" = some (some (.ref f18)))
    (l18 : K.lookup f18 = some ⟨oc18, od18, .func (PySem.W.fnOf "turning_to" "turning_to" (defArgs sTTo) (defBody sTTo) (defScope sTTo) .none kV18 dc18 pm18 an18 cd18 ct18), sl18⟩)
    (c18 : PySem.W.codeIn K cd18 "turning_to" = true)
    (k18 : PySem.W.keepIn K (.ref f18) = true)
    (a19 : PySem.W.nsIn K mainGlobals "shift" = some (some (.ref f19)))
    (l19 : K.lookup f19 = some ⟨oc19, od19, .func (PySem.W.fnOf "shift" "shift" (defArgs sShift) (defBody sShift) (defScope sShift) .none kV19 dc19 pm19 an19 cd19 ct19), sl19⟩)
    (c19 : PySem.W.codeIn K cd19 "shift" = true)
    (k19 : PySem.W.keepIn K (.ref f19) = true)
    (a20 : PySem.W.nsIn K mainGlobals "multiplied" = some (some (.ref f20)))
    (l20 : K.lookup f20 = some ⟨oc20, od20, .func (PySem.W.fnOf "multiplied" "multiplied" (defArgs sMul) (defBody sMul) (defScope sMul) .none kV20 dc20 pm20 an20 cd20 ct20), sl20⟩)
    (c20 : PySem.W.codeIn K cd20 "multiplied" = true)
    (k20 : PySem.W.keepIn K (.ref f20) = true)
    (a21 : PySem.W.nsIn K mainGlobals "leading" = some (some (.ref f21)))
    (l21 : K.lookup f21 = some ⟨oc21, od21, .func (PySem.W.fnOf "leading" "leading" (defArgs sLeading) (defBody sLeading) (defScope sLeading) .none kV21 dc21 pm21 an21 cd21 ct21), sl21⟩)
    (c21 : PySem.W.codeIn K cd21 "leading" = true)
    (k21 : PySem.W.keepIn K (.ref f21) = true)
    (a22 : PySem.W.nsIn K mainGlobals "_law_kind" = some (some (.ref f22)))
    (l22 : K.lookup f22 = some ⟨oc22, od22, .func (PySem.W.fnOf "_law_kind" "_law_kind" (defArgs sKind) (defBody sKind) (defScope sKind) .none kV22 dc22 pm22 an22 cd22 ct22), sl22⟩)
    (c22 : PySem.W.codeIn K cd22 "_law_kind" = true)
    (k22 : PySem.W.keepIn K (.ref f22) = true)
    (a23 : PySem.W.nsIn K mainGlobals "_law_whole" = some (some (.ref f23)))
    (l23 : K.lookup f23 = some ⟨oc23, od23, .func (PySem.W.fnOf "_law_whole" "_law_whole" (defArgs sLWhole) (defBody sLWhole) (defScope sLWhole) .none kV23 dc23 pm23 an23 cd23 ct23), sl23⟩)
    (c23 : PySem.W.codeIn K cd23 "_law_whole" = true)
    (k23 : PySem.W.keepIn K (.ref f23) = true)
    (a24 : PySem.W.nsIn K mainGlobals "_law_is_pair" = some (some (.ref f24)))
    (l24 : K.lookup f24 = some ⟨oc24, od24, .func (PySem.W.fnOf "_law_is_pair" "_law_is_pair" (defArgs sLIsPair) (defBody sLIsPair) (defScope sLIsPair) .none kV24 dc24 pm24 an24 cd24 ct24), sl24⟩)
    (c24 : PySem.W.codeIn K cd24 "_law_is_pair" = true)
    (k24 : PySem.W.keepIn K (.ref f24) = true)
    (a25 : PySem.W.nsIn K mainGlobals "_law_leads" = some (some (.ref f25)))
    (l25 : K.lookup f25 = some ⟨oc25, od25, .func (PySem.W.fnOf "_law_leads" "_law_leads" (defArgs sLeads) (defBody sLeads) (defScope sLeads) .none kV25 dc25 pm25 an25 cd25 ct25), sl25⟩)
    (c25 : PySem.W.codeIn K cd25 "_law_leads" = true)
    (k25 : PySem.W.keepIn K (.ref f25) = true)
    (a26 : PySem.W.nsIn K mainGlobals "_law_right" = some (some (.ref f26)))
    (l26 : K.lookup f26 = some ⟨oc26, od26, .func (PySem.W.fnOf "_law_right" "_law_right" (defArgs sRight) (defBody sRight) (defScope sRight) .none kV26 dc26 pm26 an26 cd26 ct26), sl26⟩)
    (c26 : PySem.W.codeIn K cd26 "_law_right" = true)
    (k26 : PySem.W.keepIn K (.ref f26) = true)
    (a27 : PySem.W.nsIn K mainGlobals "law" = some (some (.ref f27)))
    (l27 : K.lookup f27 = some ⟨oc27, od27, .func (PySem.W.fnOf "law" "law" (defArgs sLaw) (defBody sLaw) (defScope sLaw) .none kV27 dc27 pm27 an27 cd27 ct27), sl27⟩)
    (c27 : PySem.W.codeIn K cd27 "law" = true)
    (k27 : PySem.W.keepIn K (.ref f27) = true)
    (a28 : PySem.W.nsIn K mainGlobals "_law_end" = some (some (.ref f28)))
    (l28 : K.lookup f28 = some ⟨oc28, od28, .func (PySem.W.fnOf "_law_end" "_law_end" (defArgs sLEnd) (defBody sLEnd) (defScope sLEnd) .none kV28 dc28 pm28 an28 cd28 ct28), sl28⟩)
    (c28 : PySem.W.codeIn K cd28 "_law_end" = true)
    (k28 : PySem.W.keepIn K (.ref f28) = true)
    (aXNoLevel : PySem.W.nsIn K mainGlobals "NoLevel" = some (some (.ref gN)))
    (q_NoLevel : PySem.W.excIn K gN [.type "ValueError", .type "Exception", .type "BaseException", .type "object"] "ValueError.__new__" = true)
    (aXApart : PySem.W.nsIn K mainGlobals "Apart" = some (some (.ref gA)))
    (q_Apart : PySem.W.excIn K gA [.type "ValueError", .type "Exception", .type "BaseException", .type "object"] "ValueError.__new__" = true)
    (aXNoPlace : PySem.W.nsIn K mainGlobals "NoPlace" = some (some (.ref kc0)))
    (aXNoSymbol : PySem.W.nsIn K mainGlobals "NoSymbol" = some (some (.ref kc2)))
    (aXNoEnd : PySem.W.nsIn K mainGlobals "NoEnd" = some (some (.ref kc3)))
    (aXNoRow : PySem.W.nsIn K mainGlobals "NoRow" = some (some (.ref kc5)))
    (aXNotClosed : PySem.W.nsIn K mainGlobals "NotClosed" = some (some (.ref kc6)))
    (aXNoDeed : PySem.W.nsIn K mainGlobals "NoDeed" = some (some (.ref kc7)))
    (aXNoPart : PySem.W.nsIn K mainGlobals "NoPart" = some (some (.ref kc8)))
    (aXNoForm : PySem.W.nsIn K mainGlobals "NoForm" = some (some (.ref kc9)))
    (aXNoText : PySem.W.nsIn K mainGlobals "NoText" = some (some (.ref kc10)))
    (aXNoName : PySem.W.nsIn K mainGlobals "NoName" = some (some (.ref kc11)))
    (aXR : PySem.W.nsIn K mainGlobals "RoadError" = some (some (.ref cR)))
    (z_ValueError : PySem.W.nsIn K mainGlobals "ValueError" = some none)
    (kk_Apart_0 : PySem.W.kitOne K (.ref gA) (.ref kc0) = some false)
    (kk_Apart_1 : PySem.W.kitOne K (.ref gA) (.ref gN) = some false)
    (kk_Apart_2 : PySem.W.kitOne K (.ref gA) (.ref kc2) = some false)
    (kk_Apart_3 : PySem.W.kitOne K (.ref gA) (.ref kc3) = some false)
    (kk_Apart_4 : PySem.W.kitOne K (.ref gA) (.ref gA) = some true)
    (kk_Apart_5 : PySem.W.kitOne K (.ref gA) (.ref kc5) = some false)
    (kk_Apart_6 : PySem.W.kitOne K (.ref gA) (.ref kc6) = some false)
    (kk_Apart_7 : PySem.W.kitOne K (.ref gA) (.ref kc7) = some false)
    (kk_Apart_8 : PySem.W.kitOne K (.ref gA) (.ref kc8) = some false)
    (kk_Apart_9 : PySem.W.kitOne K (.ref gA) (.ref kc9) = some false)
    (kk_Apart_10 : PySem.W.kitOne K (.ref gA) (.ref kc10) = some false)
    (kk_Apart_11 : PySem.W.kitOne K (.ref gA) (.ref kc11) = some false)
    (kv_Apart : PySem.W.kitOne K (.ref gA) (.type "ValueError") = some true)
    (x1_Apart : PySem.W.findIn K (.ref gA) "__getattribute__" = some (some (.builtin "BaseException.__getattribute__")))
    (x2_Apart : PySem.W.findIn K (.ref gA) "__getattr__" = some none)
    (x3_Apart : PySem.W.findIn K (.ref gA) "__class__" = some (some (.builtin "object.__class__")))
    (x4_Apart : PySem.W.mroIn K gA (.type "BaseException") = some true)
    (x5_Apart : PySem.W.mroIn K gA (.type "object") = some true)
    (x6_Apart : K.lookup gA = some ⟨xc_Apart, xd_Apart, .cls xk_Apart, xs_Apart⟩)
    (x7_Apart : PySem.W.mroIn K gA (.ref cR) = some true)
    (xR1 : K.lookup cR = some ⟨.type "type", rdd, .cls rcd, rsl⟩)
    (xR2 : PySem.W.mroIn K cR (.type "BaseException") = some true)
    (aILAST_LEVEL : PySem.W.nsIn K mainGlobals "LAST_LEVEL" = some (some (.int 48 t_LAST_LEVEL)))
    (z_len : PySem.W.nsIn K mainGlobals "len" = some none)
    (z_abs : PySem.W.nsIn K mainGlobals "abs" = some none)
    (z_int : PySem.W.nsIn K mainGlobals "int" = some none)
    (z_max : PySem.W.nsIn K mainGlobals "max" = some none)
    (z_min : PySem.W.nsIn K mainGlobals "min" = some none)
    (z_range : PySem.W.nsIn K mainGlobals "range" = some none)
    (z_isinstance : PySem.W.nsIn K mainGlobals "isinstance" = some none)
    (z_bool : PySem.W.nsIn K mainGlobals "bool" = some none)
    (z_tuple : PySem.W.nsIn K mainGlobals "tuple" = some none)
    (z_list : PySem.W.nsIn K mainGlobals "list" = some none)
    (z_str : PySem.W.nsIn K mainGlobals "str" = some none)
    (z_zip : PySem.W.nsIn K mainGlobals "zip" = some none)
    (z_all : PySem.W.nsIn K mainGlobals "all" = some none)
    (z_divmod : PySem.W.nsIn K mainGlobals "divmod" = some none)
    (z_enumerate : PySem.W.nsIn K mainGlobals "enumerate" = some none)
    (z_sum : PySem.W.nsIn K mainGlobals "sum" = some none)
    (z_sorted : PySem.W.nsIn K mainGlobals "sorted" = some none)
    (z_any : PySem.W.nsIn K mainGlobals "any" = some none)
    (z_dict : PySem.W.nsIn K mainGlobals "dict" = some none)
    (z_reversed : PySem.W.nsIn K mainGlobals "reversed" = some none)
    : ∃ fd : FuncData, (∀ (s : Shared) (v : Value), BindsTo s fd ⟨[v], []⟩ [("_law_script", v)]) ∧ ∀ base : Heap, K.In base → base.Ns mainGlobals mg → FnOk l.prog w K mg base CX0 6 fa fd ["_law_script"] (L3.spLaw K) := by
  have e := hfa.symm.trans (PySem.W.mg_of X G a27)
  cases e
  have T : Bt mg := { len := PySem.W.mg_none_of X G z_len, abs := PySem.W.mg_none_of X G z_abs, int := PySem.W.mg_none_of X G z_int, max := PySem.W.mg_none_of X G z_max, min := PySem.W.mg_none_of X G z_min, range := PySem.W.mg_none_of X G z_range, isinstance := PySem.W.mg_none_of X G z_isinstance, bool := PySem.W.mg_none_of X G z_bool, tuple := PySem.W.mg_none_of X G z_tuple, list := PySem.W.mg_none_of X G z_list, str := PySem.W.mg_none_of X G z_str, zip := PySem.W.mg_none_of X G z_zip, all := PySem.W.mg_none_of X G z_all, divmod := PySem.W.mg_none_of X G z_divmod, enumerate := PySem.W.mg_none_of X G z_enumerate, sum := PySem.W.mg_none_of X G z_sum, sorted := PySem.W.mg_none_of X G z_sorted, any := PySem.W.mg_none_of X G z_any, dict := PySem.W.mg_none_of X G z_dict, reversed := PySem.W.mg_none_of X G z_reversed }
  have TLevel : LevC K C1 := ⟨⟨pgC1, hdC1, poC1, saC1⟩, nC1_modulus, nC1_all_symbols, nC1_pair_numbers⟩
  have m_NoLevel := PySem.W.mg_of X G aXNoLevel
  have m_Apart := PySem.W.mg_of X G aXApart
  have mI_LAST_LEVEL := PySem.W.mg_of X G aILAST_LEVEL
  have KM : Cls12 mg kc0 gN kc2 kc3 gA kc5 kc6 kc7 kc8 kc9 kc10 kc11 := ⟨PySem.W.mg_of X G aXNoPlace, PySem.W.mg_of X G aXNoLevel, PySem.W.mg_of X G aXNoSymbol, PySem.W.mg_of X G aXNoEnd, PySem.W.mg_of X G aXApart, PySem.W.mg_of X G aXNoRow, PySem.W.mg_of X G aXNotClosed, PySem.W.mg_of X G aXNoDeed, PySem.W.mg_of X G aXNoPart, PySem.W.mg_of X G aXNoForm, PySem.W.mg_of X G aXNoText, PySem.W.mg_of X G aXNoName, PySem.W.mg_none_of X G z_ValueError⟩
  have m_RoadError := PySem.W.mg_of X G aXR
  have z_RoadError : ClauseK K cR := ⟨⟨_, _, _, xR1⟩, xR2⟩
  have kd_Apart : KdAt K [kc0, gN, kc2, kc3, gA, kc5, kc6, kc7, kc8, kc9, kc10, kc11] gA 4 := ⟨⟨x1_Apart, x2_Apart, x3_Apart, x4_Apart, x5_Apart, ⟨_, _, _, _, x6_Apart⟩⟩, by decide, (fun i c h => by
    match i, h with
    | 0, h => cases h; exact kk_Apart_0
    | 1, h => cases h; exact kk_Apart_1
    | 2, h => cases h; exact kk_Apart_2
    | 3, h => cases h; exact kk_Apart_3
    | 4, h => cases h; exact kk_Apart_4
    | 5, h => cases h; exact kk_Apart_5
    | 6, h => cases h; exact kk_Apart_6
    | 7, h => cases h; exact kk_Apart_7
    | 8, h => cases h; exact kk_Apart_8
    | 9, h => cases h; exact kk_Apart_9
    | 10, h => cases h; exact kk_Apart_10
    | 11, h => cases h; exact kk_Apart_11
    | (n + 12), h => cases h), kv_Apart⟩
  have F1 := fun_mk (st := sWholeP) l1 c1 k1
  have b1 := F1.binds (ps := ["thing"]) fun _ _ _ _ _ _ us hl => by obtain ⟨a0, rfl⟩ := us_1 hl; rfl
  have m1 := PySem.W.mg_of X G a1
  have F2 := fun_mk (st := sIsLevel) l2 c2 k2
  have b2 := F2.binds (ps := ["thing"]) fun _ _ _ _ _ _ us hl => by obtain ⟨a0, rfl⟩ := us_1 hl; rfl
  have m2 := PySem.W.mg_of X G a2
  have F3 := fun_mk (st := sLevelNumber) l3 c3 k3
  have b3 := F3.binds (ps := ["thing"]) fun _ _ _ _ _ _ us hl => by obtain ⟨a0, rfl⟩ := us_1 hl; rfl
  have m3 := PySem.W.mg_of X G a3
  have F4 := fun_mk (st := sDivisor) l4 c4 k4
  have b4 := F4.binds (ps := ["one", "other"]) fun _ _ _ _ _ _ us hl => by obtain ⟨a0, a1, rfl⟩ := us_2 hl; rfl
  have m4 := PySem.W.mg_of X G a4
  have F5 := fun_mk (st := sSymNum) l5 c5 k5
  have b5 := F5.binds (ps := ["n"]) fun _ _ _ _ _ _ us hl => by obtain ⟨a0, rfl⟩ := us_1 hl; rfl
  have m5 := PySem.W.mg_of X G a5
  have F6 := fun_mk (st := sLInit) l6 c6 k6
  have b6 := F6.binds (ps := ["self", "n"]) fun _ _ _ _ _ _ us hl => by obtain ⟨a0, a1, rfl⟩ := us_2 hl; rfl
  have F7 := fun_mk (st := sPurse) l7 c7 k7
  have b7 := F7.binds (ps := ["_law_script", "_law_at"]) fun _ _ _ _ _ _ us hl => by obtain ⟨a0, a1, rfl⟩ := us_2 hl; rfl
  have m7 := PySem.W.mg_of X G a7
  have F8 := fun_mk (st := sTake) l8 c8 k8
  have b8 := F8.binds (ps := ["_law_purse_here", "_law_many"]) fun _ _ _ _ _ _ us hl => by obtain ⟨a0, a1, rfl⟩ := us_2 hl; rfl
  have m8 := PySem.W.mg_of X G a8
  have F9 := fun_mk (st := sLSize) l9 c9 k9
  have b9 := F9.binds (ps := ["_law_purse_here"]) fun _ _ _ _ _ _ us hl => by obtain ⟨a0, rfl⟩ := us_1 hl; rfl
  have m9 := PySem.W.mg_of X G a9
  have F10 := fun_mk (st := sLCommon) l10 c10 k10
  have b10 := F10.binds (ps := ["_law_one", "_law_other"]) fun _ _ _ _ _ _ us hl => by obtain ⟨a0, a1, rfl⟩ := us_2 hl; rfl
  have m10 := PySem.W.mg_of X G a10
  have F11 := fun_mk (st := sShort) l11 c11 k11
  have b11 := F11.binds (ps := ["_law_top", "_law_bottom"]) fun _ _ _ _ _ _ us hl => by obtain ⟨a0, a1, rfl⟩ := us_2 hl; rfl
  have m11 := PySem.W.mg_of X G a11
  have F12 := fun_mk (st := sSpot) l12 c12 k12
  have b12 := F12.binds (ps := ["_law_purse_here"]) fun _ _ _ _ _ _ us hl => by obtain ⟨a0, rfl⟩ := us_1 hl; rfl
  have m12 := PySem.W.mg_of X G a12
  have F13 := fun_mk (st := sNear) l13 c13 k13
  have b13 := F13.binds (ps := ["_law_purse_here", "_law_n"]) fun _ _ _ _ _ _ us hl => by obtain ⟨a0, a1, rfl⟩ := us_2 hl; rfl
  have m13 := PySem.W.mg_of X G a13
  have F14 := fun_mk (st := sLNumber) l14 c14 k14
  have b14 := F14.binds (ps := ["self"]) fun _ _ _ _ _ _ us hl => by obtain ⟨a0, rfl⟩ := us_1 hl; rfl
  have F15 := fun_mk (st := sLHas) l15 c15 k15
  have b15 := F15.binds (ps := ["self", "turning"]) fun _ _ _ _ _ _ us hl => by obtain ⟨a0, a1, rfl⟩ := us_2 hl; rfl
  have F16 := fun_mk (st := sBack) l16 c16 k16
  have b16 := F16.binds (ps := ["turning"]) fun _ _ _ _ _ _ us hl => by obtain ⟨a0, rfl⟩ := us_1 hl; rfl
  have m16 := PySem.W.mg_of X G a16
  have F17 := fun_mk (st := sSharesW) l17 c17 k17
  have b17 := F17.binds (ps := ["one", "other"]) fun _ _ _ _ _ _ us hl => by obtain ⟨a0, a1, rfl⟩ := us_2 hl; rfl
  have m17 := PySem.W.mg_of X G a17
  have F18 := fun_mk (st := sTTo) l18 c18 k18
  have b18 := F18.binds (ps := ["spot"]) fun _ _ _ _ _ _ us hl => by obtain ⟨a0, rfl⟩ := us_1 hl; rfl
  have m18 := PySem.W.mg_of X G a18
  have F19 := fun_mk (st := sShift) l19 c19 k19
  have b19 := F19.binds (ps := ["number"]) fun _ _ _ _ _ _ us hl => by obtain ⟨a0, rfl⟩ := us_1 hl; rfl
  have m19 := PySem.W.mg_of X G a19
  have F20 := fun_mk (st := sMul) l20 c20 k20
  have b20 := F20.binds (ps := ["one", "other"]) fun _ _ _ _ _ _ us hl => by obtain ⟨a0, a1, rfl⟩ := us_2 hl; rfl
  have m20 := PySem.W.mg_of X G a20
  have F21 := fun_mk (st := sLeading) l21 c21 k21
  have b21 := F21.binds (ps := ["level", "one", "other"]) fun _ _ _ _ _ _ us hl => by obtain ⟨a0, a1, a2, rfl⟩ := us_3 hl; rfl
  have m21 := PySem.W.mg_of X G a21
  have F22 := fun_mk (st := sKind) l22 c22 k22
  have b22 := F22.binds (ps := ["_law_e"]) fun _ _ _ _ _ _ us hl => by obtain ⟨a0, rfl⟩ := us_1 hl; rfl
  have m22 := PySem.W.mg_of X G a22
  have F23 := fun_mk (st := sLWhole) l23 c23 k23
  have b23 := F23.binds (ps := ["_law_thing"]) fun _ _ _ _ _ _ us hl => by obtain ⟨a0, rfl⟩ := us_1 hl; rfl
  have m23 := PySem.W.mg_of X G a23
  have F24 := fun_mk (st := sLIsPair) l24 c24 k24
  have b24 := F24.binds (ps := ["_law_thing"]) fun _ _ _ _ _ _ us hl => by obtain ⟨a0, rfl⟩ := us_1 hl; rfl
  have m24 := PySem.W.mg_of X G a24
  have F25 := fun_mk (st := sLeads) l25 c25 k25
  have b25 := F25.binds (ps := ["_law_turning", "_law_spot_here"]) fun _ _ _ _ _ _ us hl => by obtain ⟨a0, a1, rfl⟩ := us_2 hl; rfl
  have m25 := PySem.W.mg_of X G a25
  have F26 := fun_mk (st := sRight) l26 c26 k26
  have b26 := F26.binds (ps := ["_law_level", "_law_one", "_law_other"]) fun _ _ _ _ _ _ us hl => by obtain ⟨a0, a1, a2, rfl⟩ := us_3 hl; rfl
  have m26 := PySem.W.mg_of X G a26
  have F27 := fun_mk (st := sLaw) l27 c27 k27
  have b27 := F27.binds (ps := ["_law_script"]) fun _ _ _ _ _ _ us hl => by obtain ⟨a0, rfl⟩ := us_1 hl; rfl
  have m27 := PySem.W.mg_of X G a27
  have F28 := fun_mk (st := sLEnd) l28 c28 k28
  have b28 := F28.binds (ps := ["_law_n", "_law_spot_here"]) fun _ _ _ _ _ _ us hl => by obtain ⟨a0, a1, rfl⟩ := us_2 hl; rfl
  have m28 := PySem.W.mg_of X G a28
  refine ⟨PySem.W.fnOf "law" "law" (defArgs sLaw) (defBody sLaw) (defScope sLaw) .none kV27 dc27 pm27 an27 cd27 ct27, fun s v => .of_eq rfl, fun base hb1 hb2 => ?_⟩
  have O1 : Own3 l.prog w K mg base 1 "is_whole" ["thing"] (spWhole) := ⟨_, _, ok_wholeP F1 T  , m1, k1, b1⟩
  have O2 : Own3 l.prog w K mg base 2 "is_level" ["thing"] (spIsLevel) := ⟨_, _, ok_isLevel F2 T mI_LAST_LEVEL (O1.mono (by decide)), m2, k2, b2⟩
  have O3 : Own3 l.prog w K mg base 3 "level_number" ["thing"] (spLevelNumber gN) := ⟨_, _, ok_levelNumber F3 T m_NoLevel q_NoLevel (O2.mono (by decide)), m3, k3, b3⟩
  have O4 : Own3 l.prog w K mg base 1 "common_divisor" ["one", "other"] (spDivisor) := ⟨_, _, ok_divisor F4 T  , m4, k4, b4⟩
  have O5 : Own3 l.prog w K mg base 2 "symbols_numbered" ["n"] (spSymNum) := ⟨_, _, ok_symNum F5 T  (O4.mono (by decide)), m5, k5, b5⟩
  have O6 : MkOk l.prog w K mg base 4 "Level" C1 ["self", "n"] (spLInit C1 gN) := ⟨⟨_, _, ok_lInit F6 T TLevel (O3.mono (by decide)) (O5.mono (by decide)), ⟨mkC1, a6, i6, kcC1⟩, b6⟩, PySem.W.mg_of X G aCC1⟩
  have O7 : Own3 l.prog w K mg base 1 "_law_purse" ["_law_script", "_law_at"] (sp3Purse) := ⟨_, _, purse3 (ok_purse F7 T.toBi  ), m7, k7, b7⟩
  have O8 : Own3 l.prog w K mg base 1 "_law_take" ["_law_purse_here", "_law_many"] (sp3Take) := ⟨_, _, take3 (ok_take F8 T.toBi  ), m8, k8, b8⟩
  have O9 : Own3 l.prog w K mg base 2 "_law_size" ["_law_purse_here"] (spSize) := ⟨_, _, ok_lSize F9 T  (O8.mono (by decide)), m9, k9, b9⟩
  have O10 : Own3 l.prog w K mg base 1 "_law_common" ["_law_one", "_law_other"] (spDivisor) := ⟨_, _, ok_lCommon F10 T  , m10, k10, b10⟩
  have O11 : Own3 l.prog w K mg base 2 "_law_short" ["_law_top", "_law_bottom"] (spShort) := ⟨_, _, ok_short F11 T  (O10.mono (by decide)), m11, k11, b11⟩
  have O12 : Own3 l.prog w K mg base 3 "_law_spot" ["_law_purse_here"] (spSpot) := ⟨_, _, ok_spot F12 T  (O8.mono (by decide)) (O11.mono (by decide)), m12, k12, b12⟩
  have O13 : Own3 l.prog w K mg base 3 "_law_near" ["_law_purse_here", "_law_n"] (spNear) := ⟨_, _, ok_near F13 T  (O8.mono (by decide)) (O11.mono (by decide)), m13, k13, b13⟩
  have O14 : MtOk l.prog w K mg base 1 C1 "number" ["self"] (spLNumber C1) := ⟨TLevel.cl, _, _, ok_lNumber F14 T TLevel , ⟨a14, i14, k14⟩, b14⟩
  have O15 : MtOk l.prog w K mg base 1 C1 "has" ["self", "turning"] (spLHas C1) := ⟨TLevel.cl, _, _, ok_lHas F15 T TLevel , ⟨a15, i15, k15⟩, b15⟩
  have O16 : Own3 l.prog w K mg base 1 "back" ["turning"] (spBack) := ⟨_, _, ok_back F16 T  , m16, k16, b16⟩
  have O17 : Own3 l.prog w K mg base 1 "shares" ["one", "other"] (spSharesW) := ⟨_, _, ok_sharesW F17 T  , m17, k17, b17⟩
  have O18 : Own3 l.prog w K mg base 2 "turning_to" ["spot"] (spTTo) := ⟨_, _, ok_tTo F18 T  (O17.mono (by decide)), m18, k18, b18⟩
  have O19 : Own3 l.prog w K mg base 1 "shift" ["number"] (spShift) := ⟨_, _, ok_shift F19 T  , m19, k19, b19⟩
  have O20 : Own3 l.prog w K mg base 1 "multiplied" ["one", "other"] (spMul) := ⟨_, _, ok_mul F20 T  , m20, k20, b20⟩
  have O21 : Own3 l.prog w K mg base 3 "leading" ["level", "one", "other"] (spLeading C1 gA) := ⟨_, _, ok_leading F21 T m_Apart q_Apart (O14.mono (by decide)) (O15.mono (by decide)) (O16.mono (by decide)) (O18.mono (by decide)) (O19.mono (by decide)) (O20.mono (by decide)), m21, k21, b21⟩
  have O22 : OwnN l.prog w K mg base 1 "_law_kind" ["_law_e"] (lsp K (L3.spKind K _)) := ⟨_, _, ok_kind F22 T KM, m22, k22, b22⟩
  have O29 : L3.OwnM l.prog w K mg base 1 "_law_common" ["_law_one", "_law_other"] (spDivisor) := ⟨_, _, okM_lCommon F10 T  , m10, k10, b10⟩
  have O30 : L3.OwnM l.prog w K mg base 2 "_law_end" ["_law_n", "_law_spot_here"] (spLEnd) := ⟨_, _, okM_lEnd F28 T  (O29.mono (by decide)), m28, k28, b28⟩
  have O23 : Own3 l.prog w K mg base 1 "_law_whole" ["_law_thing"] (spWhole) := ⟨_, _, ok_lWhole F23 T  , m23, k23, b23⟩
  have O24 : Own3 l.prog w K mg base 2 "_law_is_pair" ["_law_thing"] (spIsPair) := ⟨_, _, ok_lIsPair F24 T  (O23.mono (by decide)), m24, k24, b24⟩
  have O25 : Own3 l.prog w K mg base 3 "_law_leads" ["_law_turning", "_law_spot_here"] (spLeadsW) := ⟨_, _, ok_leadsW F25 T  (O11.mono (by decide)), m25, k25, b25⟩
  have O26 : Own3 l.prog w K mg base 5 "_law_right" ["_law_level", "_law_one", "_law_other"] (spRight C1) := ⟨_, _, ok_right F26 T m_RoadError z_RoadError x7_Apart kd_Apart (O14.mono (by decide)) (O21.mono (by decide)) O22 (O30.mono (by decide)) (O24.mono (by decide)) (O25.mono (by decide)), m26, k26, b26⟩
  exact law_of (ok_law F27 T TLevel (O6.mono (by decide)) (O7.mono (by decide)) (O9.mono (by decide)) (O12.mono (by decide)) (O13.mono (by decide)) (O26.mono (by decide))) fun ns hn Q q => ⟨hn, q⟩
theorem walk {l : PySem.W.OpenLaw} {q : Program} {loose : List Str} {XP : (Str → Option Value) → Heap → Prop} {YP : World → Heap → Prop} {d : DefRec} {K : Params → PySem.W.Frag} (hn : l.most = some 63) (hdf : d.params.defaults = [])
    (hY : ∀ (w : World) (h : Heap), YP w h → (K w.params).In h) (hT : ∀ w : World, PySem.W.nsIn (K w.params) mainGlobals "is_number_text" = some none)
    (F : ∀ (w : World) (mg : Str → Option Value) (fa : Addr) (h : Heap), (K w.params).In h → h.Ns mainGlobals mg → mg d.name = some (.ref fa) →
      ∃ fd : FuncData, (∀ (s : Shared) (u : Value), BindsTo s fd ⟨[u], []⟩ [("_law_script", u)]) ∧ ∀ base : Heap, (K w.params).In base → base.Ns mainGlobals mg → FnOk l.prog w (K w.params) mg base CX0 6 fa fd ["_law_script"] (L3.spLaw (K w.params))) :
    PySem.W.WalkO q loose XP YP l.row.toRowW d [] (fun f vs => PySem.call f vs) :=
  L2.walk_of (n := 63) (k := 6) (x := "_law_script") (CX := fun _ => CX0) (sp := fun w => L3.spLaw (K w.params)) hn (by decide) hdf ⟨rfl, by decide, by decide⟩ hY F (fun w _ a ns hl _ hS => ⟨a, ns, rfl, hS, hl, Tb.none (hT w), fun _ _ => rfl⟩) fun _ _ _ _ _ z => z
end Fr
open PySem PySem.W PyProof.Rows
set_option maxRecDepth 100000 in
set_option maxHeartbeats 0 in
theorem PySem.Challenge.cw_fractionroads_k21_apart_holds : PySem.Challenge.rw_fractionroads_k21_apart.Holds := by
  refine Fr.headPack.2 ?_
  delta Fr.headPack
  dsimp only
  refine Fr.walk (l := PySem.Challenge.rw_fractionroads_k21_apart) rfl rfl (fun w h Y => PySem.W.kIn_of Y) ?T ?F
  case T => intro w; k_is
  case F =>
    intro w mg fa h KX G hmg
    refine' Fr.all_mk KX G hmg ?aCC1 ?pgC1 ?hdC1 ?poC1 ?saC1 ?mkC1 ?kcC1 ?nC1_modulus ?nC1_all_symbols ?nC1_pair_numbers ?a1 ?l1 ?c1 ?k1 ?a2 ?l2 ?c2 ?k2 ?a3 ?l3 ?c3 ?k3 ?a4 ?l4 ?c4 ?k4 ?a5 ?l5 ?c5 ?k5 ?a6 ?i6 ?l6 ?c6 ?k6 ?a7 ?l7 ?c7 ?k7 ?a8 ?l8 ?c8 ?k8 ?a9 ?l9 ?c9 ?k9 ?a10 ?l10 ?c10 ?k10 ?a11 ?l11 ?c11 ?k11 ?a12 ?l12 ?c12 ?k12 ?a13 ?l13 ?c13 ?k13 ?a14 ?i14 ?l14 ?c14 ?k14 ?a15 ?i15 ?l15 ?c15 ?k15 ?a16 ?l16 ?c16 ?k16 ?a17 ?l17 ?c17 ?k17 ?a18 ?l18 ?c18 ?k18 ?a19 ?l19 ?c19 ?k19 ?a20 ?l20 ?c20 ?k20 ?a21 ?l21 ?c21 ?k21 ?a22 ?l22 ?c22 ?k22 ?a23 ?l23 ?c23 ?k23 ?a24 ?l24 ?c24 ?k24 ?a25 ?l25 ?c25 ?k25 ?a26 ?l26 ?c26 ?k26 ?a27 ?l27 ?c27 ?k27 ?a28 ?l28 ?c28 ?k28 ?aXNoLevel ?q_NoLevel ?aXApart ?q_Apart ?aXNoPlace ?aXNoSymbol ?aXNoEnd ?aXNoRow ?aXNotClosed ?aXNoDeed ?aXNoPart ?aXNoForm ?aXNoText ?aXNoName ?aXR ?z_ValueError ?kk_Apart_0 ?kk_Apart_1 ?kk_Apart_2 ?kk_Apart_3 ?kk_Apart_4 ?kk_Apart_5 ?kk_Apart_6 ?kk_Apart_7 ?kk_Apart_8 ?kk_Apart_9 ?kk_Apart_10 ?kk_Apart_11 ?kv_Apart ?x1_Apart ?x2_Apart ?x3_Apart ?x4_Apart ?x5_Apart ?x6_Apart ?x7_Apart ?xR1 ?xR2 ?aILAST_LEVEL ?z_len ?z_abs ?z_int ?z_max ?z_min ?z_range ?z_isinstance ?z_bool ?z_tuple ?z_list ?z_str ?z_zip ?z_all ?z_divmod ?z_enumerate ?z_sum ?z_sorted ?z_any ?z_dict ?z_reversed
    (case aCC1 => k_is)
    (case pgC1 => k_is)
    (case hdC1 => k_is)
    (case poC1 => k_is)
    (case saC1 => k_is)
    (case mkC1 => k_is)
    (case kcC1 => k_is)
    (case nC1_modulus => k_is)
    (case nC1_all_symbols => k_is)
    (case nC1_pair_numbers => k_is)
    (case a1 => k_is)
    (case l1 => k_is)
    (case c1 => k_is)
    (case k1 => k_is)
    (case a2 => k_is)
    (case l2 => k_is)
    (case c2 => k_is)
    (case k2 => k_is)
    (case a3 => k_is)
    (case l3 => k_is)
    (case c3 => k_is)
    (case k3 => k_is)
    (case a4 => k_is)
    (case l4 => k_is)
    (case c4 => k_is)
    (case k4 => k_is)
    (case a5 => k_is)
    (case l5 => k_is)
    (case c5 => k_is)
    (case k5 => k_is)
    (case a6 => k_is)
    (case i6 => k_is)
    (case l6 => k_is)
    (case c6 => k_is)
    (case k6 => k_is)
    (case a7 => k_is)
    (case l7 => k_is)
    (case c7 => k_is)
    (case k7 => k_is)
    (case a8 => k_is)
    (case l8 => k_is)
    (case c8 => k_is)
    (case k8 => k_is)
    (case a9 => k_is)
    (case l9 => k_is)
    (case c9 => k_is)
    (case k9 => k_is)
    (case a10 => k_is)
    (case l10 => k_is)
    (case c10 => k_is)
    (case k10 => k_is)
    (case a11 => k_is)
    (case l11 => k_is)
    (case c11 => k_is)
    (case k11 => k_is)
    (case a12 => k_is)
    (case l12 => k_is)
    (case c12 => k_is)
    (case k12 => k_is)
    (case a13 => k_is)
    (case l13 => k_is)
    (case c13 => k_is)
    (case k13 => k_is)
    (case a14 => k_is)
    (case i14 => k_is)
    (case l14 => k_is)
    (case c14 => k_is)
    (case k14 => k_is)
    (case a15 => k_is)
    (case i15 => k_is)
    (case l15 => k_is)
    (case c15 => k_is)
    (case k15 => k_is)
    (case a16 => k_is)
    (case l16 => k_is)
    (case c16 => k_is)
    (case k16 => k_is)
    (case a17 => k_is)
    (case l17 => k_is)
    (case c17 => k_is)
    (case k17 => k_is)
    (case a18 => k_is)
    (case l18 => k_is)
    (case c18 => k_is)
    (case k18 => k_is)
    (case a19 => k_is)
    (case l19 => k_is)
    (case c19 => k_is)
    (case k19 => k_is)
    (case a20 => k_is)
    (case l20 => k_is)
    (case c20 => k_is)
    (case k20 => k_is)
    (case a21 => k_is)
    (case l21 => k_is)
    (case c21 => k_is)
    (case k21 => k_is)
    (case a22 => k_is)
    (case l22 => k_is)
    (case c22 => k_is)
    (case k22 => k_is)
    (case a23 => k_is)
    (case l23 => k_is)
    (case c23 => k_is)
    (case k23 => k_is)
    (case a24 => k_is)
    (case l24 => k_is)
    (case c24 => k_is)
    (case k24 => k_is)
    (case a25 => k_is)
    (case l25 => k_is)
    (case c25 => k_is)
    (case k25 => k_is)
    (case a26 => k_is)
    (case l26 => k_is)
    (case c26 => k_is)
    (case k26 => k_is)
    (case a27 => k_is)
    (case l27 => k_is)
    (case c27 => k_is)
    (case k27 => k_is)
    (case a28 => k_is)
    (case l28 => k_is)
    (case c28 => k_is)
    (case k28 => k_is)
    (case aXNoLevel => k_is)
    (case q_NoLevel => k_exc)
    (case aXApart => k_is)
    (case q_Apart => k_exc)
    (case aXNoPlace => k_is)
    (case aXNoSymbol => k_is)
    (case aXNoEnd => k_is)
    (case aXNoRow => k_is)
    (case aXNotClosed => k_is)
    (case aXNoDeed => k_is)
    (case aXNoPart => k_is)
    (case aXNoForm => k_is)
    (case aXNoText => k_is)
    (case aXNoName => k_is)
    (case aXR => k_is)
    (case z_ValueError => k_is)
    (case kk_Apart_0 => kit_is)
    (case kk_Apart_1 => kit_is)
    (case kk_Apart_2 => kit_is)
    (case kk_Apart_3 => kit_is)
    (case kk_Apart_4 => kit_is)
    (case kk_Apart_5 => kit_is)
    (case kk_Apart_6 => kit_is)
    (case kk_Apart_7 => kit_is)
    (case kk_Apart_8 => kit_is)
    (case kk_Apart_9 => kit_is)
    (case kk_Apart_10 => kit_is)
    (case kk_Apart_11 => kit_is)
    (case kv_Apart => kit_is)
    (case x1_Apart => k_is)
    (case x2_Apart => k_is)
    (case x3_Apart => k_is)
    (case x4_Apart => k_is)
    (case x5_Apart => k_is)
    (case x6_Apart => k_is)
    (case x7_Apart => k_is)
    (case xR1 => k_is)
    (case xR2 => k_is)
    (case aILAST_LEVEL => k_is)
    (case z_len => k_is)
    (case z_abs => k_is)
    (case z_int => k_is)
    (case z_max => k_is)
    (case z_min => k_is)
    (case z_range => k_is)
    (case z_isinstance => k_is)
    (case z_bool => k_is)
    (case z_tuple => k_is)
    (case z_list => k_is)
    (case z_str => k_is)
    (case z_zip => k_is)
    (case z_all => k_is)
    (case z_divmod => k_is)
    (case z_enumerate => k_is)
    (case z_sum => k_is)
    (case z_sorted => k_is)
    (case z_any => k_is)
    (case z_dict => k_is)
    (case z_reversed => k_is)
