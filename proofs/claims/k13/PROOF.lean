import PyProof.Rows.All
import Wide.All
import OpenK.AllK
import Wide.FinOn
import Lean
import PyProof.EqAt
import PyProof.EqKinds
import PyProof.TupleCall
import PyProof.SetScanFacts
import PyProof.SetKind
import PyProof.FactsAll.set
import PyProof.CollectWalk
import PyProof.DictIter
import PyProof.ForAny
import PyProof.Walks
import PyProof.WalksS
import PyProof.Rows.TupIn
import PyProof.Rows.SetFrom
import PyProof.Rows.SortShell
import PyProof.Rows.SortWalk
import PyProof.NeKinds
import PyProof.AutoListH
import PyProof.ListRange
import PyProof.DictWalks
import PyProof.DictTruth
import PyProof.Draws
import PyProof.WalksEnum
import PyProof.Rows.EnumRows
import PyProof.StrCalls2
import PyProof.SliceStr2
import PyProof.ConsumeWalk
import PyProof.FString
import PyProof.StrWalks
import PyProof.StrLawsIdx
import PyProof.StrLawsTight
import KE.KIntText
import KE.KTryMore
import OpenK.KOwn
import PyProof.StationsW
import PyProof.NsDelKeeps
import PyProof.RulesAs
import PyProof.Rows.TopTwo
import KE.KIsAll
import PyProof.IsiBase
import PyProof.ExcAttrAll.ValueError
import KE.RegKIsAll
import KE.RegKTryMore
import PyProof.Rows.StrFirst
import PyProof.StrBlock2
import PySem.Challenge.RW_sumrests_k13_lists_read_or_refused
set_option Elab.async false
set_option linter.all false
set_option maxRecDepth 100000
/-! THE HAND LAYER, for ints, bools, texts, own classes, LISTS and tuples (index, slices, in, append, pop ..), calls, loops. Paste it whole ahead of your own text; what your proof does not reach may be deleted. -/
namespace L2
open PySem PySem.Spec PyProof.Rows

/-- a key: an int or a str -/
abbrev Key := Sum Int Str
def keyIs : Key → Value → Bool
  | .inl k, v => Value.isInt k v
  | .inr x, v => Value.isStrOf x v
def keyH (w : World) : Key → Int
  | .inl k => hashInt k
  | .inr x => hashStr w x
theorem keyIs_shape : ∀ {k : Key} {v : Value}, keyIs k v = true → (∃ i t, k = Sum.inl i ∧ v = Value.int i t) ∨ (∃ x t, k = Sum.inr x ∧ v = Value.str x t)
  | .inl i, v, h => by
    obtain ⟨t, e⟩ := Value.isInt_shape (k := i) (v := v) h
    exact .inl ⟨i, t, rfl, e⟩
  | .inr x, v, h => by
    obtain ⟨t, e⟩ := Value.isStrOf_shape (x := x) (v := v) h
    exact .inr ⟨x, t, rfl, e⟩
theorem keyIs_int (i : Int) (t : Tok) : keyIs (.inl i) (.int i t) = true := by simp [keyIs, Value.isInt]
theorem keyIs_str (x : Str) (t : Tok) : keyIs (.inr x) (.str x t) = true := by simp [keyIs, Value.isStrOf]
theorem key_ll (a b : Int) : decide ((Sum.inl a : Key) = Sum.inl b) = (a == b) := by
  by_cases e : a = b
  · subst e; simp
  · have h : ¬ (Sum.inl a : Key) = Sum.inl b := fun q => e (Sum.inl.inj q)
    rw [decide_eq_false h]
    exact (beq_eq_false_iff_ne.mpr e).symm
theorem key_rr (a b : Str) : decide ((Sum.inr a : Key) = Sum.inr b) = decide (a = b) := by
  by_cases e : a = b
  · subst e; simp
  · have h : ¬ (Sum.inr a : Key) = Sum.inr b := fun q => e (Sum.inr.inj q)
    rw [decide_eq_false h, decide_eq_false e]
theorem key_lr (a : Int) (b : Str) : decide ((Sum.inl a : Key) = Sum.inr b) = false := decide_eq_false (fun q => nomatch q)
theorem key_rl (a : Str) (b : Int) : decide ((Sum.inr a : Key) = Sum.inl b) = false := decide_eq_false (fun q => nomatch q)

def mixKind (prog : Program) (w : World) : PySem.KeyKind prog w Key where
  is := keyIs
  hash := keyH w
  inj := fun v a b ha hb => by
    rcases keyIs_shape ha with ⟨i, t, rfl, rfl⟩ | ⟨x, t, rfl, rfl⟩
    · rcases keyIs_shape hb with ⟨j, u, rfl, e⟩ | ⟨y, u, rfl, e⟩
      · injection e with e1 _; rw [e1]
      · exact nomatch e
    · rcases keyIs_shape hb with ⟨j, u, rfl, e⟩ | ⟨y, u, rfl, e⟩
      · exact nomatch e
      · injection e with e1 _; rw [e1]
  byValue := fun k v h => by
    rcases keyIs_shape h with ⟨i, t, rfl, rfl⟩ | ⟨x, t, rfl, rfl⟩ <;> rfl
  pyHash := fun hv h => by
    rcases keyIs_shape hv with ⟨i, t, rfl, rfl⟩ | ⟨x, t, rfl, rfl⟩
    · exact wpAny_pyHash_int h
    · exact wpAny_pyHash_str h
  eqBool := fun hu hv h => by
    rcases keyIs_shape hu with ⟨i, t, rfl, rfl⟩ | ⟨x, t, rfl, rfl⟩
    · rcases keyIs_shape hv with ⟨j, u, rfl, rfl⟩ | ⟨y, u, rfl, rfl⟩
      · rw [key_ll] at h; exact wpAny_eqBool_int h
      · rw [key_lr] at h; exact SeqAt.EqAt.int_str i t y u _ _ _ _ h
    · rcases keyIs_shape hv with ⟨j, u, rfl, rfl⟩ | ⟨y, u, rfl, rfl⟩
      · rw [key_rl] at h; exact SeqAt.EqAt.str_int x t j u _ _ _ _ h
      · rw [key_rr] at h; exact wpAny_eqBool_str h
  «strs» := fun k x t v h => by
    rcases keyIs_shape h with ⟨i, u, rfl, e⟩ | ⟨y, u, rfl, e⟩
    · exact nomatch e
    · injection e with e1 _
      subst e1
      cases v <;> rfl

theorem mixKind_is (prog : Program) (w : World) (k : Key) (v : Value) : (mixKind prog w).is k v = keyIs k v := rfl
theorem mixKind_int (prog : Program) (w : World) (i : Int) (t : Tok) : (mixKind prog w).is (.inl i) (.int i t) = true := keyIs_int i t
theorem mixKind_str (prog : Program) (w : World) (x : Str) (t : Tok) : (mixKind prog w).is (.inr x) (.str x t) = true := keyIs_str x t
end L2

namespace L2
open PySem PySem.Spec PyProof.Rows

/-- a value, without the heap -/
inductive V where
  | non | bl (b : Bool) | int (i : Int) | str (x : Str) | byt (b : Array UInt8) | flt (b : UInt64) | ref (a : Addr) | ty (n : String)
  deriving DecidableEq

def RelV : V → Value → Prop
  | .non, u => u = Value.none
  | .bl b, u => u = Value.bool b
  | .int i, u => ∃ t, u = Value.int i t
  | .str x, u => ∃ t, u = Value.str x t
  | .byt b, u => ∃ t, u = Value.bytes b t
  | .flt b, u => ∃ t, u = Value.float b t
  | .ref a, u => u = Value.ref a
  | .ty n, u => u = Value.type n

abbrev Vals : List V → List Value → Prop := Paired RelV
theorem Vals.length {xs : List V} {us : List Value} (r : Vals xs us) : xs.length = us.length := Paired.length r
theorem Vals.get : ∀ {xs : List V} {us : List Value} {i : Nat} {x : V}, Vals xs us → xs[i]? = some x → ∃ u, us[i]? = some u ∧ RelV x u
  | _, _, _, _, .nil, e => by simp at e
  | _, _, 0, _, .cons r _, e => by simp at e; subst e; exact ⟨_, rfl, r⟩
  | _, _, i + 1, x, .cons _ t, e => by
    obtain ⟨u, h1, h2⟩ := Vals.get (i := i) (x := x) t (by simpa using e)
    exact ⟨u, by simpa using h1, h2⟩
theorem Vals.set {x : V} {u : Value} (r : RelV x u) : ∀ {xs : List V} {us : List Value} (i : Nat), Vals xs us → Vals (xs.set i x) (us.set i u)
  | _, _, _, .nil => .nil
  | _, _, 0, .cons _ t => .cons r t
  | _, _, i + 1, .cons q t => .cons q (Vals.set r i t)
theorem Vals.append : ∀ {xs ys : List V} {us ws : List Value}, Vals xs us → Vals ys ws → Vals (xs ++ ys) (us ++ ws)
  | _, _, _, _, .nil, s => s
  | _, _, _, _, .cons r t, s => .cons r (Vals.append t s)
theorem Vals.take : ∀ {xs : List V} {us : List Value} (n : Nat), Vals xs us → Vals (xs.take n) (us.take n)
  | _, _, 0, _ => .nil
  | _, _, _ + 1, .nil => .nil
  | _, _, n + 1, .cons r t => .cons r (Vals.take n t)
theorem Vals.drop : ∀ {xs : List V} {us : List Value} (n : Nat), Vals xs us → Vals (xs.drop n) (us.drop n)
  | _, _, 0, r => r
  | _, _, _ + 1, .nil => .nil
  | _, _, n + 1, .cons _ t => Vals.drop n t
theorem Vals.none_of : ∀ {xs : List V} {us : List Value} {i : Nat}, Vals xs us → xs[i]? = none → us[i]? = none := fun {xs us i} r e => by
  have h1 := r.length
  have h2 : xs.length ≤ i := List.getElem?_eq_none_iff.mp e
  exact List.getElem?_eq_none_iff.mpr (by omega)

def RelO : Option V → Option Value → Prop
  | some v, some u => RelV v u
  | none, none => True
  | _, _ => False
def KV {κ : Type} : List (κ × V) → List (κ × Value) → Prop := Paired fun (p : κ × V) (q : κ × Value) => p.1 = q.1 ∧ RelV p.2 q.2

/-- a key of a dict (00_mix): an int or a text -/
def kV : Key → V
  | .inl i => .int i
  | .inr x => .str x

/-- what stands at a tracked address -/
inductive HO where
  /-- a list -/
  | lst (xs : List V)
  /-- a tuple (never changes) -/
  | tup (xs : List V)
  /-- a dict whose keys are ints and texts; one whose keys are tuples of ints and texts (the empty one is both) -/
  | dK (kvs : List (Key × V)) | dT (kvs : List (List Key × V))
  /-- a set of ints: its members, its size -/
  | set (S : Int → Bool) (n : Nat)
  /-- an instance of the class at C, its dict at dx, its attributes -/
  | ins (C dx : Addr) (fs : List (Str × V))
  /-- the dict of the instance at x -/
  | own (x : Addr)
  /-- the dict of an exception -/
  | xd (fs : List (Str × V))
  /-- a bound method, f of x -/
  | met (f x : Addr)
  /-- a range object lo, lo + 1, .. below hi -/
  | rng (lo hi : Int)
  /-- a thing that is known to the object (the script; a dict while a loop walks it): read, never written while it is so -/
  | frz (o : Obj) (u : HO)
  /-- a code object's table -/
  | tbl (ps : Array Value)
  /-- any other thing, by what is true of its one object (a def of one's own: SetO a S n := HO.ext fun h => ..) -/
  | ext (φ : Heap → Prop)

abbrev Hp := Addr → Option HO
def upd (H : Hp) (a : Addr) (o : HO) : Hp := fun b => if b = a then some o else H b
theorem upd_same {H : Hp} {a : Addr} {o : HO} : upd H a o a = some o := by unfold upd; rw [if_pos rfl]
theorem upd_ne {H : Hp} {a b : Addr} {o : HO} (h : b ≠ a) : upd H a o b = H b := by unfold upd; rw [if_neg h]
theorem upd_upd {H : Hp} {a : Addr} {o u : HO} : upd (upd H a o) a u = upd H a u := by
  funext b; unfold upd; split <;> rfl
/-- two objects of different content stand apart -/
theorem ne_of {H : Hp} {a b : Addr} {o u : HO} (h : H a = some o) (h' : H b = some u) (d : o ≠ u) : a ≠ b := by
  intro e; subst e; rw [h] at h'; exact d (Option.some.inj h')
theorem ne_of_none {H : Hp} {a b : Addr} {o : HO} (h : H a = some o) (h' : H b = none) : a ≠ b := by
  intro e; subst e; rw [h] at h'; cases h'

section
variable (P : Program) (w : World)
def ObjOk (H : Hp) (h : Heap) (a : Addr) : HO → Prop
  | .lst xs => xs.length ≤ sizeLine ∧ ∃ (its : List Value) (n : Nat), Vals xs its ∧ h.get? a = some { cls := .type "list", data := .seq its.toArray n }
  | .tup xs => xs.length ≤ sizeLine ∧ ∃ its : List Value, Vals xs its ∧ IsTup h a its.toArray
  | .dK kvs => kvs.length ≤ sizeLine ∧ (a == sysModules) = false ∧ ∃ vs, KV kvs vs ∧ h.DictOf (mixKind P w) a vs
  | .dT kvs => kvs.length ≤ sizeLine ∧ (a == sysModules) = false ∧ ∃ xs : List (List Key × Addr × Value),
      Paired (fun (p : List Key × V) (q : List Key × Addr × Value) => p.1 = q.1 ∧ H q.2.1 = some (.tup (p.1.map kV)) ∧ RelV p.2 q.2.2) kvs xs ∧
      ∃ o es ep, h.get? a = some o ∧ o.ExactDict ∧ o.data = .dict es ep ∧ es.toList = xs.map (entryOfKey (tupleKind (mixKind P w))) ∧ (xs.map (·.1)).Nodup
  | .set S n => h.SetOf (intKind P w) a S n
  | .ins C dx fs => H dx = some (.own a) ∧ fs.length ≤ 1000 ∧ dx ≠ a ∧ h.get? a = some (PySem.W.instObj C dx) ∧
      ∃ mA, h.Ns1 dx mA ∧ (∀ f, RelO (fs.lookup f) (mA f)) ∧ PySem.Within mA (fs.map (·.1))
  | .own _ => ∃ o, h.get? a = some o
  | .xd fs => ∃ mA, h.Ns1 a mA ∧ ∀ f, RelO (fs.lookup f) (mA f)
  | .rng lo hi => ∃ t u v, h.get? a = some { cls := .type "range", data := .fields #[.int lo t, .int hi u, .int 1 v] }
  | .frz o u => h.get? a = some o ∧ ObjOk H h a u
  | .tbl ps => h.get? a = some { cls := .none, data := .fields ps }
  | .met f x => h.get? a = some (PySem.W.methodObj (.ref f) (.ref x))
  | .ext φ => φ h ∧ (∃ o, h.get? a = some o) ∧ ∀ h1 h2 : Heap, φ h1 → (∀ o, h1.get? a = some o → h2.get? a = some o) → φ h2
/-- the abstract heap is held -/
def HOk (H : Hp) (h : Heap) : Prop := ∀ a o, H a = some o → ObjOk P w H h a o
end

section
variable {P : Program} {w : World} {H H' : Hp} {h h' : Heap} {a : Addr} {o : HO}
theorem ObjOk.lt (x : ObjOk P w H h a o) : a < h.objs.size := by
  cases o with
  | lst xs => obtain ⟨_, _, _, _, e⟩ := x; exact Heap.lt_size e
  | tup xs => obtain ⟨_, _, _, p⟩ := x; exact p.lt
  | dK kvs => obtain ⟨_, _, _, _, o, _, _, e, _⟩ := x; exact Heap.lt_size e
  | dT kvs => obtain ⟨_, _, _, _, o, _, _, e, _⟩ := x; exact Heap.lt_size e
  | set S n => obtain ⟨o, _, _, _, e, _⟩ := x; exact Heap.lt_size e
  | ins C dx fs => obtain ⟨_, _, _, e, _⟩ := x; exact Heap.lt_size e
  | own y => obtain ⟨_, e⟩ := x; exact Heap.lt_size e
  | xd fs => obtain ⟨_, ⟨_, _, _, e, _⟩, _⟩ := x; exact Heap.lt_size e
  | rng lo hi => obtain ⟨_, _, _, e⟩ := x; exact Heap.lt_size e
  | frz ob u => obtain ⟨e, _⟩ := x; exact Heap.lt_size e
  | tbl ps => exact Heap.lt_size (show h.get? a = some _ from x)
  | met f y => exact Heap.lt_size (show h.get? a = some _ from x)
  | ext φ => obtain ⟨_, ⟨_, e⟩, _⟩ := x; exact Heap.lt_size e
theorem Paired.mapP {α β : Type} {F G : α → β → Prop} : ∀ {l₁ : List α} {l₂ : List β}, Paired F l₁ l₂ → (∀ a b, F a b → G a b) → Paired G l₁ l₂
  | _, _, .nil, _ => .nil
  | _, _, .cons r t, f => .cons (f _ _ r) (Paired.mapP t f)
theorem Paired.imp' {α β : Type} {F G : α → β → Prop} (f : ∀ a b, F a b → G a b) {l₁ : List α} {l₂ : List β} (r : Paired F l₁ l₂) : Paired G l₁ l₂ := Paired.mapP r f
/-- what an object's description leans on: its own object, its own dict, the tuples -/
theorem ObjOk.stay (x : ObjOk P w H h a o) (k : ∀ b u, (b = a ∨ H b = some (.own a)) → h.get? b = some u → h'.get? b = some u)
    (ho : ∀ b, H b = some (.own a) → H' b = some (.own a)) (ht : ∀ b xs, H b = some (.tup xs) → H' b = some (.tup xs)) : ObjOk P w H' h' a o := by
  induction o with
  | lst xs => obtain ⟨z, its, n, r, e⟩ := x; exact ⟨z, its, n, r, k _ _ (.inl rfl) e⟩
  | tup xs => obtain ⟨z, its, r, ob, e, c⟩ := x; exact ⟨z, its, r, ob, k _ _ (.inl rfl) e, c⟩
  | dK kvs => obtain ⟨z, y, vs, r, ob, es, ep, e, c⟩ := x; exact ⟨z, y, vs, r, ob, es, ep, k _ _ (.inl rfl) e, c⟩
  | dT kvs =>
    obtain ⟨z, y, xs, r, ob, es, ep, e, c⟩ := x
    exact ⟨z, y, xs, Paired.mapP r fun p q z => ⟨z.1, ht _ _ z.2.1, z.2.2⟩, ob, es, ep, k _ _ (.inl rfl) e, c⟩
  | set S n => obtain ⟨ob, es, ep, t, e, c⟩ := x; exact ⟨ob, es, ep, t, k _ _ (.inl rfl) e, c⟩
  | ins C dx fs =>
    obtain ⟨d, z, ne, e, mA, ⟨od, es, ep, e2, c⟩, r⟩ := x
    exact ⟨ho _ d, z, ne, k _ _ (.inl rfl) e, mA, ⟨od, es, ep, k _ _ (.inr d) e2, c⟩, r⟩
  | own y => obtain ⟨ob, e⟩ := x; exact ⟨ob, k _ _ (.inl rfl) e⟩
  | xd fs => obtain ⟨mA, ⟨od, es, ep, e, c⟩, r⟩ := x; exact ⟨mA, ⟨od, es, ep, k _ _ (.inl rfl) e, c⟩, r⟩
  | rng lo hi => obtain ⟨t, u, v, e⟩ := x; exact ⟨t, u, v, k _ _ (.inl rfl) e⟩
  | frz ob u ih => obtain ⟨e, q⟩ := x; exact ⟨k _ _ (.inl rfl) e, ih q⟩
  | tbl ps =>
    have e : h.get? a = some { cls := .none, data := .fields ps } := x
    show h'.get? a = some { cls := .none, data := .fields ps }
    exact k a _ (.inl rfl) e
  | met f y =>
    have e : h.get? a = some (PySem.W.methodObj (.ref f) (.ref y)) := x
    show h'.get? a = some (PySem.W.methodObj (.ref f) (.ref y))
    exact k a _ (.inl rfl) e
  | ext φ => obtain ⟨p, ⟨o, e⟩, st⟩ := x; exact ⟨st _ _ p fun o q => k _ _ (.inl rfl) q, ⟨o, k _ _ (.inl rfl) e⟩, st⟩
theorem HOk.lt (x : HOk P w H h) (e : H a = some o) : a < h.objs.size := (x a o e).lt
theorem HOk.fresh (x : HOk P w H h) (e : h.objs.size ≤ a) : H a = none := by
  cases q : H a with
  | none => rfl
  | some u => exact absurd (Nat.lt_of_lt_of_le (x.lt q) e) (Nat.lt_irrefl _)
/-- every object of the heap is kept -/
theorem HOk.kept (x : HOk P w H h) (k : ∀ b u, h.get? b = some u → h'.get? b = some u) : HOk P w H h' := fun a o e =>
  (x a o e).stay (fun b u _ q => k b u q) (fun _ q => q) fun _ _ q => q
/-- a new object is laid and tracked -/
theorem HOk.laid (x : HOk P w H h) (k : ∀ b u, h.get? b = some u → h'.get? b = some u) (hp : h.objs.size ≤ a) (new : ObjOk P w (upd H a o) h' a o) : HOk P w (upd H a o) h' := fun b u e => by
  have hn := x.fresh hp
  by_cases hb : b = a
  · subst hb; rw [upd_same] at e; cases e; exact new
  · rw [upd_ne hb] at e
    exact (x b u e).stay (fun c v _ q => k c v q) (fun c q => by rw [upd_ne (ne_of_none q hn)]; exact q) fun c xs q => by rw [upd_ne (ne_of_none q hn)]; exact q
end

/-- what may be read as u: it is u, or a known u -/
def Rd (H : Hp) (a : Addr) (u : HO) : Prop := H a = some u ∨ ∃ o, H a = some (.frz o u)
theorem Rd.of {H : Hp} {a : Addr} {u : HO} (h : H a = some u) : Rd H a u := .inl h
theorem Rd.ok {P : Program} {w : World} {H : Hp} {h : Heap} {a : Addr} {u : HO} (r : Rd H a u) (x : HOk P w H h) : ObjOk P w H h a u := by
  rcases r with r | ⟨o, r⟩
  · exact x a u r
  · obtain ⟨_, q⟩ := x a _ r
    exact q
/-- what may be written -/
def Mut : Option HO → Prop
  | some (.lst _) => True
  | some (.dK _) => True
  | some (.dT _) => True
  | some (.set _ _) => True
  | some (.ins _ _ _) => True
  | some (.ext _) => True
  | _ => False
section
variable {P : Program} {w : World} {H : Hp} {h h' : Heap} {x e : Addr} {o' : HO}
/-- the object at e is changed: x itself, or the dict of the instance x -/
theorem HOk.write (ok : HOk P w H h) (mu : Mut (H x)) (he : e = x ∨ H e = some (.own x)) (k : ∀ b u, b ≠ e → h.get? b = some u → h'.get? b = some u) (heo : ∃ u, h'.get? e = some u)
    (new : ObjOk P w (upd H x o') h' x o') : HOk P w (upd H x o') h' := fun b u q => by
  have nown : ∀ c y, H c = some (.own y) → c ≠ x := fun c y r z => by subst z; rw [r] at mu; exact mu
  have ntup : ∀ c xs, H c = some (.tup xs) → c ≠ x := fun c xs r z => by subst z; rw [r] at mu; exact mu
  by_cases hb : b = x
  · subst hb; rw [upd_same] at q; cases q; exact new
  · rw [upd_ne hb] at q
    by_cases hbe : b = e
    · have q' : H b = some (.own x) := by
        rcases he with z | z
        · exact absurd (hbe.trans z) hb
        · rw [hbe]; exact z
      rw [q] at q'; cases q'
      obtain ⟨v, hv⟩ := heo
      exact ⟨v, by rw [hbe]; exact hv⟩
    · refine (ok b u q).stay (fun c v hc r => k c v ?_ r) (fun c r => by rw [upd_ne (nown c b r)]; exact r) fun c xs r => by rw [upd_ne (ntup c xs r)]; exact r
      rcases hc with rfl | hc
      · exact hbe
      · rintro rfl
        rcases he with z | z
        · exact nown c b hc z
        · rw [hc] at z; cases z; exact hb rfl
end

/-! ### kept unless tracked; of the frames at fs (the callers') the slots may change (an exception that passes writes there); of the records at ex (iterators) nothing is said -/
structure Un (fs ex : List Addr) (H H' : Hp) (h h' : Heap) : Prop where
  keep : ∀ b o, h.get? b = some o → H b = none → b ∉ fs → b ∉ ex → h'.get? b = some o
  slot : ∀ b o, h.get? b = some o → H b = none → b ∈ fs → b ∉ ex → ∃ sl, h'.get? b = some { o with slots := sl }
  free : ∀ b o, h.get? b = some o → H b = none → b ∉ ex → H' b = none
  there : ∀ b o, h.get? b = some o → b ∉ ex → ∃ o', h'.get? b = some o'
  tups : ∀ b xs, H b = some (.tup xs) → H' b = some (.tup xs)
  frzs : ∀ b o u, H b = some (.frz o u) → H' b = some (.frz o u)
  tbls : ∀ b ps, H b = some (.tbl ps) → ∃ more, H' b = some (.tbl (ps ++ more))
section
variable {fs fs' ex ex' : List Addr} {H H1 H2 : Hp} {h h1 h2 h' : Heap} {a x e : Addr} {o : HO}
theorem Un.any (u : Un fs ex H H1 h h1) {b : Addr} {ob : Obj} (q : h.get? b = some ob) (n : H b = none) (hx : b ∉ ex) : ∃ sl, h1.get? b = some { ob with slots := sl } := by
  by_cases hb : b ∈ fs
  · exact u.slot b ob q n hb hx
  · exact ⟨ob.slots, u.keep b ob q n hb hx⟩
theorem Un.trans (a : Un fs ex H H1 h h1) (b : Un fs ex H1 H2 h1 h2) : Un fs ex H H2 h h2 where
  keep := fun c ob q n hc hx => b.keep c ob (a.keep c ob q n hc hx) (a.free c ob q n hx) hc hx
  slot := fun c ob q n hc hx => by
    obtain ⟨sl, e1⟩ := a.slot c ob q n hc hx
    obtain ⟨sl', e2⟩ := b.slot c _ e1 (a.free c ob q n hx) hc hx
    exact ⟨sl', e2⟩
  free := fun c ob q n hx => by
    obtain ⟨o', e1⟩ := a.there c ob q hx
    exact b.free c o' e1 (a.free c ob q n hx) hx
  there := fun c ob q hx => by
    obtain ⟨o', e1⟩ := a.there c ob q hx
    exact b.there c o' e1 hx
  tups := fun c xs q => b.tups c xs (a.tups c xs q)
  frzs := fun c ob xs q => b.frzs c ob xs (a.frzs c ob xs q)
  tbls := fun c ps q => by
    obtain ⟨m1, e1⟩ := a.tbls c ps q
    obtain ⟨m2, e2⟩ := b.tbls c _ e1
    exact ⟨m1 ++ m2, by rw [e2, Array.append_assoc]⟩
theorem Un.kept (k : ∀ b u, h.get? b = some u → h'.get? b = some u) : Un fs ex H H h h' :=
  ⟨fun b ob q _ _ _ => k b ob q, fun b ob q _ _ _ => ⟨ob.slots, k b ob q⟩, fun _ _ _ n _ => n, fun b ob q _ => ⟨ob, k b ob q⟩, fun _ _ q => q, fun _ _ _ q => q, fun _ ps q => ⟨#[], by rw [q]; simp⟩⟩
theorem Un.refl : Un fs ex H H h h := Un.kept fun _ _ q => q
theorem Un.laid (k : ∀ b u, h.get? b = some u → h'.get? b = some u) (hp : h.objs.size ≤ a) (hn : H a = none) : Un fs ex H (upd H a o) h h' where
  keep := fun b u q _ _ _ => k b u q
  slot := fun b u q _ _ _ => ⟨u.slots, k b u q⟩
  free := fun b u q n _ => by rw [upd_ne (Nat.ne_of_lt (Nat.lt_of_lt_of_le (Heap.lt_size q) hp))]; exact n
  there := fun b u q _ => ⟨u, k b u q⟩
  tups := fun b xs q => by rw [upd_ne (ne_of_none q hn)]; exact q
  frzs := fun b u xs q => by rw [upd_ne (ne_of_none q hn)]; exact q
  tbls := fun b ps q => ⟨#[], by rw [upd_ne (ne_of_none q hn), q]; simp⟩
theorem Un.write (mu : Mut (H x)) (he : e = x ∨ H e = some (.own x)) (k : ∀ b u, b ≠ e → h.get? b = some u → h'.get? b = some u) (heo : ∃ u, h'.get? e = some u) : Un fs ex H (upd H x o) h h' := by
  have hx : ∀ b, H b = none → b ≠ x := fun b n z => by subst z; rw [n] at mu; exact mu
  have hb : ∀ b, H b = none → b ≠ e := fun b n z => by
    subst z
    rcases he with r | r
    · exact hx b n r
    · rw [n] at r; cases r
  have hm : ∀ b u, H b = some u → ¬ Mut (some u) → b ≠ x := fun b u q nm z => by subst z; rw [q] at mu; exact nm mu
  refine ⟨fun b u q n _ _ => k b u (hb b n) q, fun b u q n _ _ => ⟨u.slots, k b u (hb b n) q⟩, fun b u q n _ => by rw [upd_ne (hx b n)]; exact n, fun b u q _ => ?_,
    fun b xs q => by rw [upd_ne (hm b _ q fun z => z)]; exact q, fun b u xs q => by rw [upd_ne (hm b _ q fun z => z)]; exact q, fun b ps q => ⟨#[], by rw [upd_ne (hm b _ q fun z => z), q]; simp⟩⟩
  by_cases hbe : b = e
  · subst hbe; exact heo
  · exact ⟨u, k b u hbe q⟩
theorem Un.mono (u : Un fs ex H H1 h h1) (hs : ∀ b ∈ fs, b ∈ fs') (hx : ∀ b ∈ ex, b ∈ ex') : Un fs' ex' H H1 h h1 :=
  ⟨fun b ob q n hb he => u.keep b ob q n (fun z => hb (hs b z)) fun z => he (hx b z), fun _ _ q n _ he => u.any q n fun z => he (hx _ z), fun b ob q n he => u.free b ob q n fun z => he (hx b z), fun b ob q he => u.there b ob q fun z => he (hx b z), u.tups, u.frzs, u.tbls⟩
end

/-! ### the heap without what is tracked -/
def trk (h : Heap) (H : Hp) : List Addr := (List.range h.objs.size).filter fun a => (H a).isSome
def hidT (h : Heap) (H : Hp) : Heap := PySem.W.hideAll h (trk h H)
theorem hidT_size (h : Heap) (H : Hp) : (hidT h H).objs.size = h.objs.size := PySem.W.hideAll_size _ _
theorem hidT_get {h : Heap} {H : Hp} {b : Addr} {o : Obj} (e : h.get? b = some o) (n : H b = none) : (hidT h H).get? b = some o :=
  PySem.W.hideAll_get _ e fun hm => by
    have q : (H b).isSome = true := (List.mem_filter.mp hm).2
    rw [n] at q; simp at q
theorem of_hidT {h : Heap} {H : Hp} {b : Addr} {o : Obj} (e : (hidT h H).get? b = some o) : h.get? b = some o ∧ H b = none := by
  have e' : h.get? b = some o := PySem.W.of_hideAll (trk h H) e
  refine ⟨e', ?_⟩
  cases q : H b with
  | none => rfl
  | some x =>
    have hm : b ∈ trk h H := List.mem_filter.mpr ⟨List.mem_range.mpr (Heap.lt_size e'), by simp [q]⟩
    have z : (hidT h H).get? b = none := PySem.W.hideAll_none (trk h H) hm
    rw [z] at e; cases e

/-! ### OpenK's ledger, filled with every new object but one -/
def allNews (g h : Heap) (L : Addr) : List (Addr × Obj) := (List.range h.objs.size).filterMap fun a => if a = L ∨ (g.get? a).isSome = true then none else (h.get? a).map fun o => (a, o)
theorem mem_allNews {g h : Heap} {L a : Addr} {o : Obj} (h1 : a ≠ L) (h2 : g.get? a = none) (h3 : h.get? a = some o) : (a, o) ∈ allNews g h L :=
  List.mem_filterMap.mpr ⟨a, List.mem_range.mpr (Heap.lt_size h3), by simp [h1, h2, h3]⟩
theorem of_mem_allNews {g h : Heap} {L : Addr} {p : Addr × Obj} (hp : p ∈ allNews g h L) : p.1 ≠ L ∧ g.get? p.1 = none ∧ h.get? p.1 = some p.2 := by
  obtain ⟨b, _, e⟩ := List.mem_filterMap.mp hp
  split at e
  · cases e
  · rename_i hn
    cases q : h.get? b with
    | none => rw [q] at e; simp at e
    | some u =>
      rw [q] at e
      simp only [Option.map_some, Option.some.injEq] at e
      subst e
      refine ⟨fun z => hn (.inl z), ?_, q⟩
      show g.get? b = none
      cases r : g.get? b with
      | none => rfl
      | some v => exact (hn (.inr (by simp [r]))).elim
def rest (g h : Heap) (L d : Addr) : List (Addr × Obj) := (allNews g h L).filter fun p => decide (p.1 ≠ d)
theorem rest_ne {g h : Heap} {L d : Addr} : ∀ p ∈ rest g h L d, p.1 ≠ d := fun p hp => of_decide_eq_true (List.mem_filter.mp hp).2
theorem mem_rest {g h : Heap} {L d a : Addr} {o : Obj} (h1 : a ≠ L) (h2 : g.get? a = none) (h3 : h.get? a = some o) (h4 : a ≠ d) : (a, o) ∈ rest g h L d :=
  List.mem_filter.mpr ⟨mem_allNews h1 h2 h3, decide_eq_true h4⟩
theorem news_all {g h : Heap} {L : Addr} : News g L h (allNews g h L) := fun p hp => let ⟨a, b, c⟩ := of_mem_allNews hp; ⟨c, a, b⟩
theorem news_at {g h : Heap} {L d : Addr} {o : Obj} (h1 : d ≠ L) (h2 : g.get? d = none) (h3 : h.get? d = some o) : News g L h ((d, o) :: rest g h L d) := fun p hp => by
  rcases List.mem_cons.mp hp with rfl | hp
  · exact ⟨h3, h1, h2⟩
  · exact news_all p (List.mem_filter.mp hp).1
/-- behind a rule that changed d alone: all else but the frame is kept -/
theorem kept_of_news {g h h' : Heap} {L d : Addr} {m : Str → Option Value} (k : ∀ b o, g.get? b = some o → h.get? b = some o) (F : Fr g L h' m) (N : News g L h' (rest g h L d)) :
    ∀ b o, b ≠ L → b ≠ d → h.get? b = some o → h'.get? b = some o := fun b o h1 h2 e => by
  cases q : g.get? b with
  | some u =>
    have := k b u q
    rw [e] at this; cases this
    exact F.keep b _ q
  | none => exact (N (b, o) (mem_rest h1 q e h2)).1
end L2

namespace L2
open PySem PySem.Spec PyProof.Rows

/-- the module's facts, over the base: the heap at the law's entry without what is tracked there -/
structure Mod (K : PySem.W.Frag) (mg : Str → Option Value) (base : Heap) : Prop where
  kin : K.In base
  glob : base.Ns mainGlobals mg
  blt : ∃ mb, base.Ns builtinsNs mb ∧ ∀ x : Str, x ≠ "__name__" → mb x = bootBuiltins x
  nolimit : base.NoLimit

/-- the context: a def's body (or a comprehension's block) running. base: fixed through the whole law; s₀, H₀: the entry; outer: the frames whose slots others may change (a def's callers); stack: all frames that run;
   ex: iterators that were made ahead of the entry and are walked here (a comprehension's); fn: the names whose cells were made at the entry (a def: all; a comprehension's block: its own); calm: not within an except suite; pn: pins that every state bears; xe: what is wanted of an exception that leaves the code -/
structure Cx where
  prog : Program
  w : World
  K : PySem.W.Frag
  mg : Str → Option Value
  base : Heap
  A : Around
  N : List Str
  s₀ : Shared
  H₀ : Hp
  env : Env
  outer : List Env
  stack : List Env
  ex : List Addr
  fn : Str → Bool
  calm : Bool
  pn : List (Addr × Obj)
  xe : Value → Shared → Prop
/-- the callers' frames -/
def frs (l : List Env) : List Addr := l.filterMap (·.frame)
abbrev Cx.fs (X : Cx) : List Addr := frs X.outer

def Vis (sc : Scope) (x : Str) : Prop := sc.names.lookup x = some .local ∨ sc.names.lookup x = some .cell ∨ sc.names.lookup x = some .free
def Loc (sc : Scope) (x : Str) : Prop := sc.names.lookup x = some .local ∨ sc.names.lookup x = some .cell
def Look (env : Env) (h : Heap) (m : Str → Option Value) (x : Str) (u : Value) : Prop :=
  (env.kindOf x = some .local ∧ m x = some u) ∨ ((env.kindOf x = some .cell ∨ env.kindOf x = some .free) ∧ ∃ c, env.cells.lookup x = some c ∧ h.IsCell c (some u))

structure Cx.Ok (X : Cx) : Prop where
  mod : Mod X.K X.mg X.base
  kind : X.env.scope.kind = .function
  glob : X.env.globals = mainGlobals
  blt : X.env.builtins = builtinsNs
  above : X.s₀.heap.objs.size ≤ X.env.locals
  inj : ∀ x y c, X.env.cells.lookup x = some c → X.env.cells.lookup y = some c → x = y
  has : ∀ x, (X.env.kindOf x = some .cell ∨ X.env.kindOf x = some .free) → ∃ c, X.env.cells.lookup x = some c
  cab : ∀ x c, X.fn x = true → X.env.cells.lookup x = some c → X.s₀.heap.objs.size ≤ c
  hd : X.calm = true → X.A.handled = none
  frames : X.A.frames = some X.stack
  stk : X.stack = X.outer ∨ (X.stack = X.env :: X.outer ∧ X.env.frame = some X.env.locals)
  exf : ∀ b ∈ X.ex, b ≠ X.env.locals ∧ ∀ x c, X.env.cells.lookup x = some c → c ≠ b
  bs : ∀ b o, X.base.get? b = some o → X.s₀.heap.get? b = some o ∧ X.H₀ b = none
  bsz : X.base.objs.size ≤ X.s₀.heap.objs.size
  noex : ∀ b o, X.base.get? b = some o → b ∉ X.ex
  exfs : ∀ b ∈ X.ex, b ∉ X.fs
  funs : X.s₀.heap.FunFrames X.base X.outer
  frf : ∀ b ∈ X.fs, X.H₀ b = none

structure Inv (X : Cx) (pins : List (Addr × Obj)) (σ : List (Option V)) (H : Hp) (s : Shared) : Prop where
  ok : X.Ok
  os : s.os = X.s₀.os
  bare : AllBare s.gens
  base : Un X.fs X.ex X.H₀ H X.s₀.heap s.heap
  loc : ∃ m, s.heap.Ns X.env.locals m ∧ ∀ (i : Nat) (x : Str) (v : V), X.N[i]? = some x → σ[i]? = some (some v) → Vis X.env.scope x → ∃ u, RelV v u ∧ Look X.env s.heap m x u
  cell : ∀ x c, X.env.cells.lookup x = some c → ∃ v, s.heap.IsCell c v
  free : H X.env.locals = none
  freeC : ∀ x c, X.env.cells.lookup x = some c → H c = none
  pin : ∀ p ∈ X.pn ++ pins, s.heap.get? p.1 = some p.2 ∧ H p.1 = none ∧ p.1 ≠ X.env.locals ∧ p.1 ∉ X.fs ∧ ∀ v, p.2.data ≠ .cell v
  hok : HOk X.prog X.w H s.heap
  len : σ.length = X.N.length

section
variable {X : Cx} {pins : List (Addr × Obj)} {σ : List (Option V)} {H H' : Hp} {s : Shared} {h' : Heap}

theorem Cx.Ok.nofr (ok : X.Ok) {b : Addr} {o : Obj} (e : X.base.get? b = some o) : b ∉ X.fs := fun hb => by
  have := (ok.funs.mem hb).1
  rw [e] at this; cases this
theorem Inv.bs (I : Inv X pins σ H s) : ∀ b o, X.base.get? b = some o → s.heap.get? b = some o ∧ H b = none := fun b o e =>
  ⟨I.base.keep b o (I.ok.bs b o e).1 (I.ok.bs b o e).2 (I.ok.nofr e) (I.ok.noex b o e), I.base.free b o (I.ok.bs b o e).1 (I.ok.bs b o e).2 (I.ok.noex b o e)⟩
theorem Inv.bk (I : Inv X pins σ H s) : ∀ b o, X.base.get? b = some o → s.heap.get? b = some o := fun b o e => (I.bs b o e).1
theorem Inv.mod (I : Inv X pins σ H s) : Mod X.K X.mg X.base := I.ok.mod
theorem Inv.kIn (I : Inv X pins σ H s) : X.K.In s.heap := I.ok.mod.kin.keeps I.bk
theorem Inv.nolimit (I : Inv X pins σ H s) : s.heap.NoLimit := I.ok.mod.nolimit.keeps I.bk
/-- the frame over the base: for OpenK's rules (K.In X.base is I.mod.kin) -/
theorem Inv.fr (I : Inv X pins σ H s) : ∃ m, Fr X.base X.env.locals s.heap m :=
  let ⟨m, hn, _⟩ := I.loc
  ⟨m, hn, I.bk, Nat.le_trans I.ok.bsz I.ok.above⟩
theorem Inv.lt (I : Inv X pins σ H s) : X.env.locals < s.heap.objs.size := let ⟨_, hn, _⟩ := I.loc; hn.lt
theorem Inv.sz (I : Inv X pins σ H s) : X.s₀.heap.objs.size ≤ s.heap.objs.size := Nat.le_trans I.ok.above (Nat.le_of_lt I.lt)
theorem Inv.nofs (I : Inv X pins σ H s) {a : Addr} (h : s.heap.objs.size ≤ a) : a ∉ X.fs := fun hb => by
  obtain ⟨_, o, ho, _⟩ := I.ok.funs.mem hb
  exact absurd (Nat.lt_of_lt_of_le (Heap.lt_size ho) (Nat.le_trans I.sz h)) (Nat.lt_irrefl _)
theorem Inv.cne (I : Inv X pins σ H s) : ∀ x c, X.env.cells.lookup x = some c → c ≠ X.env.locals := fun x c e z => by
  obtain ⟨v, o, ho, hd⟩ := I.cell x c e
  obtain ⟨m, ⟨o', es, ep, ho', hd', _⟩, _⟩ := I.loc
  rw [z, ho'] at ho; cases ho; rw [hd'] at hd; cases hd
theorem Inv.funs (I : Inv X pins σ H s) : s.heap.FunFrames X.base X.outer := by
  have all : ∀ (l : List Env), (∀ b ∈ frs l, b ∈ X.fs) → X.s₀.heap.FunFrames X.base l → s.heap.FunFrames X.base l := by
    intro l
    induction l with
    | nil => intro _ _; trivial
    | cons env r ih =>
      intro hs hl
      obtain ⟨hk, ⟨L, o, hf, hn, ho, hd⟩, hr⟩ := hl
      have hL : L ∈ X.fs := hs L (by unfold frs; rw [List.filterMap_cons, hf]; exact List.mem_cons_self)
      obtain ⟨sl, e⟩ := I.base.slot L o ho (I.ok.frf L hL) hL fun z => I.ok.exfs L z hL
      exact ⟨hk, ⟨L, _, hf, hn, e, hd⟩, ih (fun b hb => hs b (by unfold frs; rw [List.filterMap_cons, hf]; exact List.mem_cons_of_mem _ hb)) hr⟩
  exact all X.outer (fun _ hb => hb) I.ok.funs

/-- the frames that run, for a call -/
theorem Inv.stack (I : Inv X pins σ H s) : s.heap.FunFrames X.base X.stack := by
  rcases I.ok.stk with e | ⟨e, hf⟩
  · rw [e]; exact I.funs
  · rw [e]
    obtain ⟨m, hn, _⟩ := I.loc
    refine .cons (by rw [I.ok.kind]; decide) hf hn ?_ I.funs
    exact Heap.get?_none_of_le (Nat.le_trans I.ok.bsz I.ok.above)
theorem Inv.stkSub (I : Inv X pins σ H s) : ∀ b ∈ frs X.stack, b ∈ X.env.locals :: X.fs := fun b hb => by
  rcases I.ok.stk with e | ⟨e, hf⟩
  · rw [e] at hb; exact List.mem_cons_of_mem _ hb
  · rw [e] at hb
    unfold frs at hb
    rw [List.filterMap_cons, hf] at hb
    exact hb
theorem Inv.stkFree (I : Inv X pins σ H s) : ∀ b ∈ frs X.stack, H b = none := fun b hb => by
  rcases List.mem_cons.mp (I.stkSub b hb) with e | hb
  · rw [e]; exact I.free
  · obtain ⟨_, o, ho, _⟩ := I.ok.funs.mem hb
    exact I.base.free b o ho (I.ok.frf b hb) fun z => I.ok.exfs b z hb

/-- THE STEP: the untracked objects but the frame and the records at ch are kept (the callers' frames up to slots), the frame's map is kept, the new abstract heap is held -/
theorem Inv.step {g' : Array GenState} {t' : Nat} {d' : Drawn} {ch : List Addr} (I : Inv X pins σ H s)
    (hch : ∀ b ∈ ch, (b ∈ X.ex ∨ X.s₀.heap.objs.size ≤ b) ∧ b ≠ X.env.locals ∧ (∀ x c, X.env.cells.lookup x = some c → c ≠ b) ∧ ∀ p ∈ X.pn ++ pins, p.1 ≠ b)
    (keep : ∀ b o, b ≠ X.env.locals → b ∉ X.fs → b ∉ ch → s.heap.get? b = some o → H b = none → h'.get? b = some o)
    (slot : ∀ b o, b ≠ X.env.locals → b ∈ X.fs → b ∉ ch → s.heap.get? b = some o → H b = none → ∃ sl, h'.get? b = some { o with slots := sl }) (free : ∀ b o, b ∉ ch → s.heap.get? b = some o → H b = none → H' b = none)
    (there : ∀ b o, b ∉ ch → s.heap.get? b = some o → ∃ o', h'.get? b = some o')
    (tups : ∀ b xs, H b = some (.tup xs) → H' b = some (.tup xs)) (frzs : ∀ b o u, H b = some (.frz o u) → H' b = some (.frz o u)) (tbls : ∀ b ps, H b = some (.tbl ps) → ∃ more, H' b = some (.tbl (ps ++ more)))
    (ns : ∀ m, s.heap.Ns X.env.locals m → h'.Ns X.env.locals m) (hok : HOk X.prog X.w H' h') (hg : AllBare g') :
    Inv X pins σ H' { s with heap := h', gens := g', drawn := d', toks := t' } := by
  have neL : ∀ b o, X.s₀.heap.get? b = some o → b ≠ X.env.locals := fun b o e => Nat.ne_of_lt (Nat.lt_of_lt_of_le (Heap.lt_size e) I.ok.above)
  have neC : ∀ b o, X.s₀.heap.get? b = some o → b ∉ X.ex → b ∉ ch := fun b o e hx hb => by
    rcases (hch b hb).1 with z | z
    · exact hx z
    · exact absurd (Nat.lt_of_lt_of_le (Heap.lt_size e) z) (Nat.lt_irrefl _)
  have cellK : ∀ x c, X.env.cells.lookup x = some c → ∀ v, s.heap.IsCell c v → h'.IsCell c v := fun x c e v ⟨o, ho, hd⟩ => by
    have nch : c ∉ ch := fun z => (hch c z).2.2.1 x c e rfl
    by_cases hc : c ∈ X.fs
    · obtain ⟨sl, q⟩ := slot c o (I.cne x c e) hc nch ho (I.freeC x c e)
      exact ⟨_, q, hd⟩
    · exact ⟨o, keep c o (I.cne x c e) hc nch ho (I.freeC x c e), hd⟩
  refine ⟨I.ok, I.os, hg, ⟨fun b o e n hb hx => ?_, fun b o e n hb hx => ?_, fun b o e n hx => ?_, fun b o e hx => ?_, fun b xs e => tups b xs (I.base.tups b xs e), fun b o xs e => frzs b o xs (I.base.frzs b o xs e), fun b ps e => ?_⟩, ?_, fun x c e => ?_, ?_, fun x c e => ?_, fun p hp => ?_, hok, I.len⟩
  · exact keep b o (neL b o e) hb (neC b o e hx) (I.base.keep b o e n hb hx) (I.base.free b o e n hx)
  · obtain ⟨sl, e1⟩ := I.base.slot b o e n hb hx
    obtain ⟨sl', e2⟩ := slot b _ (neL b o e) hb (neC b o e hx) e1 (I.base.free b o e n hx)
    exact ⟨sl', e2⟩
  · obtain ⟨o', e1⟩ := I.base.there b o e hx
    exact free b o' (neC b o e hx) e1 (I.base.free b o e n hx)
  · obtain ⟨o', e1⟩ := I.base.there b o e hx
    exact there b o' (neC b o e hx) e1
  · obtain ⟨m1, e1⟩ := I.base.tbls b ps e
    obtain ⟨m2, e2⟩ := tbls b _ e1
    exact ⟨m1 ++ m2, by rw [e2, Array.append_assoc]⟩
  · obtain ⟨m, hn, hl⟩ := I.loc
    refine ⟨m, ns m hn, fun i x v e1 e2 e3 => ?_⟩
    obtain ⟨u, r, l⟩ := hl i x v e1 e2 e3
    refine ⟨u, r, ?_⟩
    rcases l with l | ⟨k, c, e, z⟩
    · exact .inl l
    · exact .inr ⟨k, c, e, cellK x c e _ z⟩
  · obtain ⟨v, z⟩ := I.cell x c e
    exact ⟨v, cellK x c e v z⟩
  · obtain ⟨m, ⟨o, _, _, ho, _⟩, _⟩ := I.loc
    exact free _ o (fun z => (hch _ z).2.1 rfl) ho I.free
  · obtain ⟨v, o, ho, hd⟩ := I.cell x c e
    exact free c o (fun z => (hch c z).2.2.1 x c e rfl) ho (I.freeC x c e)
  · obtain ⟨e, n, ne, nf, d⟩ := I.pin p hp
    have nch : p.1 ∉ ch := fun z => (hch p.1 z).2.2.2 p hp rfl
    exact ⟨keep p.1 p.2 ne nf nch e n, free p.1 p.2 nch e n, ne, nf, d⟩
/-- .. where the frame's own object is kept too -/
theorem Inv.un {t' : Nat} (I : Inv X pins σ H s) (u : Un X.fs [] H H' s.heap h') (hok : HOk X.prog X.w H' h') : Inv X pins σ H' { s with heap := h', toks := t' } := by
  obtain ⟨m, ⟨o, es, ep, ho, r⟩, _⟩ := id I.loc
  obtain ⟨sl, hL⟩ := u.any ho I.free (by simp)
  exact I.step (g' := s.gens) (d' := s.drawn) (ch := []) (fun _ z => nomatch z) (fun b o _ hb _ e n => u.keep b o e n hb (by simp)) (fun b o _ hb _ e n => u.slot b o e n hb (by simp)) (fun b o _ e n => u.free b o e n (by simp)) (fun b o _ e => u.there b o e (by simp)) u.tups u.frzs u.tbls (fun m' hm => by
    obtain ⟨o', es', ep', ho', r'⟩ := hm
    rw [ho] at ho'; cases ho'
    exact ⟨_, es', ep', hL, r'⟩) hok I.bare
/-- behind a call (or a comprehension's block): the slots of this frame may have changed too, the records at ch may have turned -/
theorem Inv.call {g' : Array GenState} {t' : Nat} {d' : Drawn} {ch : List Addr} (I : Inv X pins σ H s) (u : Un (frs X.stack) ch H H' s.heap h') (hok : HOk X.prog X.w H' h') (hg : AllBare g')
    (hch : ∀ b ∈ ch, (b ∈ X.ex ∨ X.s₀.heap.objs.size ≤ b) ∧ b ≠ X.env.locals ∧ (∀ x c, X.env.cells.lookup x = some c → c ≠ b) ∧ ∀ p ∈ X.pn ++ pins, p.1 ≠ b) :
    Inv X pins σ H' { s with heap := h', gens := g', drawn := d', toks := t' } := by
  obtain ⟨m, ⟨o, es, ep, ho, r⟩, _⟩ := id I.loc
  obtain ⟨sl, hL⟩ := u.any ho I.free fun z => (hch _ z).2.1 rfl
  exact I.step (ch := ch) hch (fun b o hL hb hc e n => u.keep b o e n (fun z => (List.mem_cons.mp (I.stkSub b z)).elim hL hb) hc) (fun b o _ _ hc e n => u.any e n hc) (fun b o hc e n => u.free b o e n hc) (fun b o hc e => u.there b o e hc) u.tups u.frzs u.tbls (fun m' hm => by
    obtain ⟨o', es', ep', ho', r'⟩ := hm
    rw [ho] at ho'; cases ho'
    exact ⟨_, es', ep', hL, r'⟩) hok hg
/-- an untracked record of ours (an iterator) has turned -/
theorem Inv.turned {t' : Nat} {it : Addr} (I : Inv X pins σ H s) (k : ∀ b o, b ≠ it → s.heap.get? b = some o → h'.get? b = some o) (hn : H it = none) (hL : it ≠ X.env.locals)
    (h1 : it ∈ X.ex ∨ X.s₀.heap.objs.size ≤ it) (h2 : ∀ x c, X.env.cells.lookup x = some c → c ≠ it) (h3 : ∀ p ∈ X.pn ++ pins, p.1 ≠ it) : Inv X pins σ H { s with heap := h', toks := t' } := by
  have nit : ∀ b u, H b = some u → b ≠ it := fun b u e z => by rw [z, hn] at e; cases e
  refine I.step (g' := s.gens) (d' := s.drawn) (ch := [it]) (fun b hb => ?_) (fun b o _ _ hc e _ => k b o (fun z => hc (by simp [z])) e) (fun b o _ _ hc e _ => ⟨o.slots, k b o (fun z => hc (by simp [z])) e⟩) (fun _ _ _ _ n => n)
    (fun b o hc e => ⟨o, k b o (fun z => hc (by simp [z])) e⟩) (fun _ _ e => e) (fun _ _ _ e => e) (fun b ps e => ⟨#[], by rw [e]; simp⟩) (fun m hm => ?_) (fun b u e => ?_) I.bare
  · have e : b = it := by simpa using hb
    subst e
    exact ⟨h1, hL, h2, h3⟩
  · obtain ⟨o, es, ep, ho, r⟩ := hm
    exact ⟨o, es, ep, k _ o (Ne.symm hL) ho, r⟩
  · refine (I.hok b u e).stay (fun c v hc q => k c v ?_ q) (fun _ q => q) fun _ _ q => q
    rcases hc with z | z
    · rw [z]; exact nit b u e
    · exact nit c _ z
theorem Inv.tok (I : Inv X pins σ H s) (t : Nat) : Inv X pins σ H { s with toks := t } := I.un (h' := s.heap) (t' := t) Un.refl I.hok
/-- all objects kept -/
theorem Inv.kept {t' : Nat} (I : Inv X pins σ H s) (k : ∀ b u, s.heap.get? b = some u → h'.get? b = some u) : Inv X pins σ H { s with heap := h', toks := t' } := I.un (Un.kept k) (I.hok.kept k)
/-- a new object laid and tracked -/
theorem Inv.laid {a : Addr} {o : HO} {t' : Nat} (I : Inv X pins σ H s) (k : ∀ b u, s.heap.get? b = some u → h'.get? b = some u) (hp : s.heap.objs.size ≤ a) (new : ObjOk X.prog X.w (upd H a o) h' a o) :
    Inv X pins σ (upd H a o) { s with heap := h', toks := t' } := I.un (Un.laid k hp (I.hok.fresh hp)) (I.hok.laid k hp new)
/-- an object written -/
theorem Inv.write {x e : Addr} {o : HO} {t' : Nat} (I : Inv X pins σ H s) (mu : Mut (H x)) (he : e = x ∨ H e = some (.own x)) (k : ∀ b u, b ≠ e → s.heap.get? b = some u → h'.get? b = some u) (heo : ∃ u, h'.get? e = some u)
    (new : ObjOk X.prog X.w (upd H x o) h' x o) : Inv X pins σ (upd H x o) { s with heap := h', toks := t' } := I.un (Un.write mu he k heo) (I.hok.write mu he k heo new)
/-- forgetting slots, pins -/
theorem Inv.weak {σ' : List (Option V)} (I : Inv X pins σ H s) (hl : σ'.length = σ.length) (w : ∀ (i : Nat) v, σ'[i]? = some (some v) → σ[i]? = some (some v)) : Inv X pins σ' H s :=
  ⟨I.ok, I.os, I.bare, I.base, let ⟨m, hn, hl'⟩ := I.loc; ⟨m, hn, fun i x v e1 e2 e3 => hl' i x v e1 (w i v e2) e3⟩, I.cell, I.free, I.freeC, I.pin, I.hok, hl.trans I.len⟩
theorem Inv.pins_of {pins' : List (Addr × Obj)} (I : Inv X pins σ H s) (h : ∀ p ∈ pins', s.heap.get? p.1 = some p.2 ∧ H p.1 = none ∧ p.1 ≠ X.env.locals ∧ p.1 ∉ X.fs ∧ ∀ v, p.2.data ≠ .cell v) : Inv X pins' σ H s :=
  ⟨I.ok, I.os, I.bare, I.base, I.loc, I.cell, I.free, I.freeC, fun p hp => (List.mem_append.mp hp).elim (fun z => I.pin p (List.mem_append_left _ z)) (h p), I.hok, I.len⟩

theorem nodup_ix {N : List Str} (hN : N.Nodup) {i j : Nat} {x : Str} (a : N[i]? = some x) (b : N[j]? = some x) : i = j := by
  obtain ⟨h1, e1⟩ := List.getElem?_eq_some_iff.mp a
  obtain ⟨h2, e2⟩ := List.getElem?_eq_some_iff.mp b
  exact (List.getElem_inj hN).mp (e1.trans e2.symm)

/-- a name is stored; what changed -/
theorem store_ok2 {M : Model} {A : Around} {E : Value → Shared → Prop} {i : Nat} {x : Str} {v : V} {u : Value} {Q : Unit → Shared → Prop} (I : Inv X pins σ H s) (hN : X.N.Nodup) (hi : X.N[i]? = some x) (hx : Loc X.env.scope x) (r : RelV v u)
    (h : ∀ s', Inv X pins (σ.set i (some v)) H s' → (∃ a, Heap.SameBut a s.heap s'.heap ∧ (a = X.env.locals ∨ X.env.cells.lookup x = some a)) → Q () s') (hf : X.fn x = true ∨ X.env.scope.names.lookup x = some .local := by first | exact .inl rfl | exact .inr rfl | assumption) : wpAny M A (storeName X.env x u) Q E s := by
  obtain ⟨m, hn, hl⟩ := id I.loc
  have hcls : (X.env.scope.kind == .class || (X.env.scope.kind == .module && X.env.locals != X.env.globals)) = false := by rw [I.ok.kind]; rfl
  have hiσ : i < σ.length := by rw [I.len]; exact (List.getElem?_eq_some_iff.mp hi).1
  have cne := I.cne
  have tracked : ∀ {a : Addr} {h' : Heap}, (∃ o, s.heap.get? a = some o ∧ H a = none) → Heap.SameBut a s.heap h' → HOk X.prog X.w H h' := fun {a h'} ha hs b ob e => by
    obtain ⟨_, _, hfree⟩ := ha
    refine (I.hok b ob e).stay (fun c w' hc q => (hs.2 c ?_).trans q) (fun _ q => q) fun _ _ q => q
    rintro rfl
    rcases hc with rfl | hc
    · rw [hfree] at e; cases e
    · rw [hfree] at hc; cases hc
  rcases hx with hk | hk
  · refine wpAny_storeName_local hk hn (fun h' hn' hs => ?_) hcls
    obtain ⟨oL, _, _, hoL, _⟩ := id hn
    refine h _ ⟨I.ok, I.os, I.bare, ⟨fun b o e n hb hx => ?_, fun b o e n hb hx => ?_, I.base.free, fun b o e hx => ?_, I.base.tups, I.base.frzs, I.base.tbls⟩, ⟨_, hn', fun j y v' e1 e2 e3 => ?_⟩, fun y c e => ?_, I.free, I.freeC, fun p hp => ?_, tracked ⟨oL, hoL, I.free⟩ hs, by simpa using I.len⟩ ⟨_, hs, .inl rfl⟩
    · exact (hs.2 b (Nat.ne_of_lt (Nat.lt_of_lt_of_le (Heap.lt_size e) I.ok.above))).trans (I.base.keep b o e n hb hx)
    · obtain ⟨sl, e1⟩ := I.base.slot b o e n hb hx
      exact ⟨sl, (hs.2 b (Nat.ne_of_lt (Nat.lt_of_lt_of_le (Heap.lt_size e) I.ok.above))).trans e1⟩
    · obtain ⟨o', e1⟩ := I.base.there b o e hx
      exact ⟨o', (hs.2 b (Nat.ne_of_lt (Nat.lt_of_lt_of_le (Heap.lt_size e) I.ok.above))).trans e1⟩
    · by_cases hj : j = i
      · subst hj
        rw [hi] at e1; cases e1
        rw [List.getElem?_set_self hiσ] at e2
        cases e2
        exact ⟨u, r, .inl ⟨hk, by simp⟩⟩
      · rw [List.getElem?_set_ne (Ne.symm hj)] at e2
        obtain ⟨u', r', q⟩ := hl j y v' e1 e2 e3
        refine ⟨u', r', ?_⟩
        rcases q with ⟨k, e⟩ | ⟨k, c, e, z⟩
        · refine .inl ⟨k, ?_⟩
          have : y ≠ x := fun e => hj (nodup_ix hN e1 (e ▸ hi))
          simp [this, e]
        · exact .inr ⟨k, c, e, z.sameBut hs (cne y c e)⟩
    · obtain ⟨w', z⟩ := I.cell y c e
      exact ⟨w', z.sameBut hs (cne y c e)⟩
    · obtain ⟨e, n, ne, nf, d⟩ := I.pin p hp
      exact ⟨(hs.2 p.1 ne).trans e, n, ne, nf, d⟩
  · have hfn : X.fn x = true := by
      rcases hf with z | z
      · exact z
      · rw [z] at hk; cases hk
    obtain ⟨c, hc⟩ := I.ok.has x (.inl hk)
    obtain ⟨w', z⟩ := I.cell x c hc
    refine wpAny_storeName_cell I.ok.kind hk hc z (fun h' hc' hs => ?_)
    obtain ⟨oc, hoc, hocd⟩ := id z
    refine h { s with heap := h' } ⟨I.ok, I.os, I.bare, ⟨fun b o e n hb hx => ?_, fun b o e n hb hx => ?_, I.base.free, fun b o e hx => ?_, I.base.tups, I.base.frzs, I.base.tbls⟩, ⟨m, hn.sameBut hs (Ne.symm (cne x c hc)), fun j y v' e1 e2 e3 => ?_⟩, fun y c' e => ?_, I.free, I.freeC, fun p hp => ?_, tracked ⟨oc, hoc, I.freeC x c hc⟩ hs, by simpa using I.len⟩ ⟨c, hs, .inr hc⟩
    · exact (hs.2 b (Nat.ne_of_lt (Nat.lt_of_lt_of_le (Heap.lt_size e) (I.ok.cab x c hfn hc)))).trans (I.base.keep b o e n hb hx)
    · obtain ⟨sl, e1⟩ := I.base.slot b o e n hb hx
      exact ⟨sl, (hs.2 b (Nat.ne_of_lt (Nat.lt_of_lt_of_le (Heap.lt_size e) (I.ok.cab x c hfn hc)))).trans e1⟩
    · obtain ⟨o', e1⟩ := I.base.there b o e hx
      exact ⟨o', (hs.2 b (Nat.ne_of_lt (Nat.lt_of_lt_of_le (Heap.lt_size e) (I.ok.cab x c hfn hc)))).trans e1⟩
    · by_cases hj : j = i
      · subst hj
        rw [hi] at e1; cases e1
        rw [List.getElem?_set_self hiσ] at e2
        cases e2
        exact ⟨u, r, .inr ⟨.inl hk, c, hc, hc'⟩⟩
      · rw [List.getElem?_set_ne (Ne.symm hj)] at e2
        obtain ⟨u', r', q⟩ := hl j y v' e1 e2 e3
        refine ⟨u', r', ?_⟩
        rcases q with q | ⟨k, c', e, z'⟩
        · exact .inl q
        · refine .inr ⟨k, c', e, z'.sameBut hs ?_⟩
          rintro rfl
          exact hj (nodup_ix hN e1 (I.ok.inj _ _ _ e hc ▸ hi))
    · by_cases hcc : c' = c
      · subst hcc; exact ⟨_, hc'⟩
      · obtain ⟨w2, z2⟩ := I.cell y c' e
        exact ⟨w2, z2.sameBut hs hcc⟩
    · obtain ⟨e, n, ne, nf, d⟩ := I.pin p hp
      refine ⟨(hs.2 p.1 ?_).trans e, n, ne, nf, d⟩
      intro q
      rw [q, hoc] at e
      have q' : oc = p.2 := Option.some.inj e
      exact d w' (by rw [← q']; exact hocd)
theorem store_ok {M : Model} {A : Around} {E : Value → Shared → Prop} {i : Nat} {x : Str} {v : V} {u : Value} {Q : Unit → Shared → Prop} (I : Inv X pins σ H s) (hN : X.N.Nodup) (hi : X.N[i]? = some x) (hx : Loc X.env.scope x) (r : RelV v u)
    (h : ∀ s', Inv X pins (σ.set i (some v)) H s' → Q () s') (hf : X.fn x = true ∨ X.env.scope.names.lookup x = some .local := by first | exact .inl rfl | exact .inr rfl | assumption) : wpAny M A (storeName X.env x u) Q E s :=
  store_ok2 I hN hi hx r (fun s' I' _ => h s' I') hf
/-- behind a call or a block, the state as it is -/
theorem Inv.call' {s' : Shared} {ch : List Addr} (I : Inv X pins σ H s) (ho : s'.os = s.os) (u : Un (frs X.stack) ch H H' s.heap s'.heap) (hok : HOk X.prog X.w H' s'.heap) (hg : AllBare s'.gens)
    (hch : ∀ b ∈ ch, (b ∈ X.ex ∨ X.s₀.heap.objs.size ≤ b) ∧ b ≠ X.env.locals ∧ (∀ x c, X.env.cells.lookup x = some c → c ≠ b) ∧ ∀ p ∈ X.pn ++ pins, p.1 ≠ b) : Inv X pins σ H' s' := by
  obtain ⟨h', g', d', t', o'⟩ := s'
  have e : o' = s.os := ho
  subst e
  exact I.call (g' := g') (t' := t') (d' := d') u hok hg hch
end

/-! ### the judgements -/
/-- an exception: its class, its own dict's address (where it has one), the abstract heap behind it -/
abbrev XK := Value → Option Addr → Hp → Prop
abbrev St := List (Option V)
abbrev VK := V → Hp → Prop
/-- an expression's reading; a test's; an argument list's -/
abbrev TE := St → Hp → VK → Prop
abbrev TT := St → Hp → (Bool → Hp → Prop) → Prop
abbrev TA := St → Hp → (List V → Hp → Prop) → Prop
/-- what is wanted behind a statement -/
structure Ends where
  nx : St → Hp → Prop
  rt : VK
  bk : St → Hp → Prop := fun _ _ => False
  ct : St → Hp → Prop := fun _ _ => False
abbrev TS := Ends → St → Hp → Prop

def EP (X : Cx) (pins : List (Addr × Obj)) (σ : St) (Q : VK) (u : Value) (s' : Shared) : Prop := ∃ v H', Inv X pins σ H' s' ∧ RelV v u ∧ Q v H'
def TP (X : Cx) (pins : List (Addr × Obj)) (σ : St) (Q : Bool → Hp → Prop) (b : Bool) (s' : Shared) : Prop := ∃ H', Inv X pins σ H' s' ∧ Q b H'
def AP (X : Cx) (pins : List (Addr × Obj)) (σ : St) (Q : List V → Hp → Prop) (us : List Value) (s' : Shared) : Prop := ∃ vs H', Inv X pins σ H' s' ∧ Vals vs us ∧ Q vs H'
def SP (X : Cx) (pins : List (Addr × Obj)) (D : Ends) (f : Flow) (s' : Shared) : Prop :=
  match f with
  | .next => ∃ σ' H', Inv X pins σ' H' s' ∧ D.nx σ' H'
  | .brk => ∃ σ' H', Inv X pins σ' H' s' ∧ D.bk σ' H'
  | .cont => ∃ σ' H', Inv X pins σ' H' s' ∧ D.ct σ' H'
  | .ret u => ∃ v σ' H', Inv X pins σ' H' s' ∧ RelV v u ∧ D.rt v H'

def PE (X : Cx) (e : Expr) (t : TE) : Prop :=
  ∀ (pins : List (Addr × Obj)) (s : Shared) (σ : St) (H : Hp) (Q : VK), Inv X pins σ H s → t σ H Q → wpAny (model X.prog X.w) X.A (eval e X.env) (EP X pins σ Q) X.xe s
def PT (X : Cx) (e : Expr) (t : TT) : Prop :=
  ∀ (pins : List (Addr × Obj)) (s : Shared) (σ : St) (H : Hp) (Q : Bool → Hp → Prop), Inv X pins σ H s → t σ H Q → wpAny (model X.prog X.w) X.A (isTrue e X.env (eval e X.env)) (TP X pins σ Q) X.xe s
/-- a test whatever its 'whole' is (and, or) -/
def PW (X : Cx) (e : Expr) (t : TT) : Prop :=
  ∀ (whole : Sem Value) (pins : List (Addr × Obj)) (s : Shared) (σ : St) (H : Hp) (Q : Bool → Hp → Prop), Inv X pins σ H s → t σ H Q → wpAny (model X.prog X.w) X.A (isTrue e X.env whole) (TP X pins σ Q) X.xe s
theorem PW.pt {X : Cx} {e : Expr} {t : TT} (h : PW X e t) : PT X e t := h _
/-- an argument list (no star), from the left -/
def PA (X : Cx) (es : List Expr) (t : TA) : Prop :=
  ∀ (pos : Pos) (pins : List (Addr × Obj)) (s : Shared) (σ : St) (H : Hp) (Q : List V → Hp → Prop), Inv X pins σ H s → t σ H Q → wpAny (model X.prog X.w) X.A (spliced (backTo pos (starEach es X.env))) (AP X pins σ Q) X.xe s
def PS (X : Cx) (st : Stmt) (t : TS) : Prop :=
  ∀ (pins : List (Addr × Obj)) (s : Shared) (σ : St) (H : Hp) (D : Ends), Inv X pins σ H s → t D σ H → wpAny (model X.prog X.w) X.A (exec st X.env) (SP X pins D) X.xe s
def PSs (X : Cx) (st : List Stmt) (t : TS) : Prop :=
  ∀ (pins : List (Addr × Obj)) (s : Shared) (σ : St) (H : Hp) (D : Ends), Inv X pins σ H s → t D σ H → wpAny (model X.prog X.w) X.A (execs st X.env) (SP X pins D) X.xe s
/-- weaken the end -/
theorem thn {α : Type} {t : Sem α} {Q Q' : α → Shared → Prop} {M : Model} {A : Around} {E : Value → Shared → Prop} {s : Shared} (h : wpAny M A t Q E s) (hQ : ∀ a s, Q a s → Q' a s) : wpAny M A t Q' E s := wpAny_mono h hQ fun _ _ x => x
end L2

namespace L2
open PySem PySem.Spec PyProof.Rows
section
variable {X : Cx}

/-- two expressions in a row -/
theorem bin {a b : Expr} {ta tb : TE} (ha : PE X a ta) (hb : PE X b tb) {pins : List (Addr × Obj)} {s : Shared} {σ : St} {H : Hp} {R : V → V → Hp → Prop} (I : Inv X pins σ H s) (h : ta σ H fun x H1 => tb σ H1 fun y H2 => R x y H2)
    {α : Type} {Q : α → Shared → Prop} {f : Value → Value → Sem α}
    (hf : ∀ v u s2 x y H2, Inv X pins σ H2 s2 → RelV x v → RelV y u → R x y H2 → wpAny (model X.prog X.w) X.A (f v u) Q X.xe s2) :
    wpAny (model X.prog X.w) X.A (eval a X.env) (fun v s₁ => wpAny (model X.prog X.w) X.A (eval b X.env) (fun u s₂ => wpAny (model X.prog X.w) X.A (f v u) Q X.xe s₂) X.xe s₁) X.xe s := by
  refine thn (ha pins s σ H _ I h) fun v s1 ⟨x, H1, I1, r1, q1⟩ => ?_
  refine thn (hb pins s1 σ H1 _ I1 q1) fun u s2 ⟨y, H2, I2, r2, q2⟩ => ?_
  exact hf v u s2 x y H2 I2 r1 r2 q2

/-! ### names and constants -/
def tVar (i : Nat) : TE := fun σ H Q => ∃ v, σ[i]? = some (some v) ∧ Q v H
def tC (v : V) : TE := fun _ H Q => Q v H
theorem pe_var {i : Nat} {x : Str} {pos : Pos} (hN : X.N[i]? = some x) (hv : Vis X.env.scope x) (hd : (x == ("__debug__" : Str)) = false := by decide) (hcd : (x == ("__classdict__" : Str)) = false := by decide) : PE X (.Name x pos) (tVar i) := by
  intro pins s σ H Q I h
  obtain ⟨v, e, h⟩ := h
  obtain ⟨m, hn, hl⟩ := I.loc
  obtain ⟨u, r, l⟩ := hl i x v hN e hv
  have fin : EP X pins σ Q u s := ⟨v, H, I, r, h⟩
  rcases l with ⟨hk, hm⟩ | ⟨hk, c, hc, hcell⟩
  · exact wpAny_Name (wpAny_loadName_local I.ok.kind hk hn hm fin) hd
  · rcases hk with hk | hk
    · exact wpAny_Name (wpAny_loadName_cell I.ok.kind hk hc hcell fin) hd
    · exact wpAny_Name (wpAny_loadName_free I.ok.kind hk hc hcell fin hcd) hd
theorem pe_int {i j pos} : PE X (.Constant (.int i) j pos) (tC (.int i)) := fun _ _ _ H _ I h => wpAny_Constant_int ⟨.int i, H, I.tok _, ⟨_, rfl⟩, h⟩
theorem pe_bl {b j pos} : PE X (.Constant (.bool b) j pos) (tC (.bl b)) := fun _ _ _ H _ I h => Constant_bool ⟨.bl b, H, I, rfl, h⟩
theorem pe_non {j pos} : PE X (.Constant .none j pos) (tC .non) := fun _ _ _ H _ I h => Constant_none ⟨.non, H, I, rfl, h⟩
theorem pe_str {x j pos} : PE X (.Constant (.str x) j pos) (tC (.str x)) := fun _ _ _ H _ I h => Calls.Constant_str ⟨.str x, H, I.tok _, ⟨_, rfl⟩, h⟩

/-- a global name of the def -/
def Gl (X : Cx) (x : Str) : Prop := X.env.kindOf x = some .globalImplicit
theorem ld_glob {E : Value → Shared → Prop} {pins : List (Addr × Obj)} {s : Shared} {σ : St} {H : Hp} {x : Str} {u : Value} {pos : Pos} {Q : Value → Shared → Prop} (I : Inv X pins σ H s) (hg : Gl X x) (hm : X.mg x = some u) (h : Q u s)
    (hd : (x == ("__debug__" : Str)) = false := by decide) : wpAny (model X.prog X.w) X.A (eval (.Name x pos) X.env) Q E s :=
  Calls.Name_function_global I.ok.kind hg (Calls.loadGlobal_global (by rw [I.ok.glob]; exact I.mod.glob.keeps I.bk) hm h) hd
theorem ld_blt {E : Value → Shared → Prop} {pins : List (Addr × Obj)} {s : Shared} {σ : St} {H : Hp} {x : Str} {u : Value} {pos : Pos} {Q : Value → Shared → Prop} (I : Inv X pins σ H s) (hg : Gl X x) (hm : X.mg x = none) (hv : bootBuiltins x = some u) (h : Q u s)
    (hn : x ≠ "__name__" := by decide) (hd : (x == ("__debug__" : Str)) = false := by decide) : wpAny (model X.prog X.w) X.A (eval (.Name x pos) X.env) Q E s := by
  obtain ⟨mb, h1, h2⟩ := I.mod.blt
  exact Calls.Name_function_global I.ok.kind hg (Calls.loadGlobal_builtin (by rw [I.ok.glob]; exact I.mod.glob.keeps I.bk) hm (by rw [I.ok.blt]; exact h1.keeps I.bk) ((h2 x hn).trans hv) h) hd
/-- a module's constant, a class, a function, as a value -/
theorem pe_glob {x : Str} {v : V} {u : Value} {pos : Pos} (hg : Gl X x) (hm : X.mg x = some u) (r : RelV v u) (hd : (x == ("__debug__" : Str)) = false := by decide) : PE X (.Name x pos) (tC v) :=
  fun _ _ _ H _ I h => ld_glob I hg hm ⟨v, H, I, r, h⟩ hd
theorem pe_bltn {x : Str} {v : V} {u : Value} {pos : Pos} (hg : Gl X x) (hm : X.mg x = none) (hv : bootBuiltins x = some u) (r : RelV v u) (hn : x ≠ "__name__" := by decide) (hd : (x == ("__debug__" : Str)) = false := by decide) : PE X (.Name x pos) (tC v) :=
  fun _ _ _ H _ I h => ld_blt I hg hm hv ⟨v, H, I, r, h⟩ hn hd

/-! ### arithmetic -/
/-- two ints -/
def t2I (ta tb : TE) (k : Int → Int → Hp → Prop) : St → Hp → Prop := fun σ H => ta σ H fun x H1 => tb σ H1 fun y H2 => ∃ i j, x = .int i ∧ y = .int j ∧ k i j H2
def tAdd (ta tb : TE) : TE := fun σ H Q => t2I ta tb (fun i j H2 => Q (.int (i + j)) H2) σ H
def tSub (ta tb : TE) : TE := fun σ H Q => t2I ta tb (fun i j H2 => Q (.int (i - j)) H2) σ H
/-- the left factor below 2^64 -/
def tMul (ta tb : TE) : TE := fun σ H Q => t2I ta tb (fun i j H2 => (-(2 ^ 64) < i ∧ i < 2 ^ 64) ∧ Q (.int (i * j)) H2) σ H
variable {a b : Expr} {ta tb : TE} {pos : Pos}
theorem pe_add (ha : PE X a ta) (hb : PE X b tb) : PE X (.BinOp a .Add b pos) (tAdd ta tb) := by
  intro pins s σ H Q I h
  refine wpAny_BinOp (bin ha hb I h fun v u s2 x y H2 I2 rx ry q => ?_)
  obtain ⟨i, j, rfl, rfl, q⟩ := q
  obtain ⟨t, rfl⟩ := rx
  obtain ⟨t', rfl⟩ := ry
  exact add_int ⟨.int _, H2, I2.tok _, ⟨_, rfl⟩, q⟩
theorem pe_sub (ha : PE X a ta) (hb : PE X b tb) : PE X (.BinOp a .Sub b pos) (tSub ta tb) := by
  intro pins s σ H Q I h
  refine wpAny_BinOp (bin ha hb I h fun v u s2 x y H2 I2 rx ry q => ?_)
  obtain ⟨i, j, rfl, rfl, q⟩ := q
  obtain ⟨t, rfl⟩ := rx
  obtain ⟨t', rfl⟩ := ry
  exact sub_int ⟨.int _, H2, I2.tok _, ⟨_, rfl⟩, q⟩
theorem pe_mul (ha : PE X a ta) (hb : PE X b tb) : PE X (.BinOp a .Mult b pos) (tMul ta tb) := by
  intro pins s σ H Q I h
  refine wpAny_BinOp (bin ha hb I h fun v u s2 x y H2 I2 rx ry q => ?_)
  obtain ⟨i, j, rfl, rfl, ⟨q1, q2⟩, q⟩ := q
  obtain ⟨t, rfl⟩ := rx
  obtain ⟨t', rfl⟩ := ry
  exact mul_int ⟨.int _, H2, I2.tok _, ⟨_, rfl⟩, q⟩ (.of_left (intBits_le_64 q1 q2))

/-! ### comparisons -/
def PC (X : Cx) (op : CmpOp) (a b : Expr) (t : TE) : Prop :=
  ∀ (pins : List (Addr × Obj)) (s : Shared) (σ : St) (H : Hp) (Q : VK), Inv X pins σ H s → t σ H Q →
    wpAny (model X.prog X.w) X.A (eval a X.env) (fun v s₁ => wpAny (model X.prog X.w) X.A (eval b X.env) (fun u s₂ => wpAny (model X.prog X.w) X.A (compareOp op v u) (EP X pins σ Q) X.xe s₂) X.xe s₁) X.xe s
theorem nobehind (b : Expr) {op : CmpOp} (h : op ≠ .In) (h2 : op ≠ .NotIn) : behindInMarks op b = false := by
  have e1 : (op == CmpOp.In) = false := by cases op <;> first | rfl | exact absurd rfl h
  have e2 : (op == CmpOp.NotIn) = false := by cases op <;> first | rfl | exact absurd rfl h2
  cases b <;> simp [behindInMarks, e1, e2]
def tCmp (p : Int → Int → Bool) (ta tb : TE) : TE := fun σ H Q => t2I ta tb (fun i j H2 => Q (.bl (p i j)) H2) σ H
abbrev tLt : TE → TE → TE := tCmp fun i j => decide (i < j)
abbrev tLe : TE → TE → TE := tCmp fun i j => decide (i ≤ j)
abbrev tGt : TE → TE → TE := tCmp fun i j => decide (j < i)
abbrev tGe : TE → TE → TE := tCmp fun i j => decide (j ≤ i)
abbrev tEqI : TE → TE → TE := tCmp fun i j => decide (i = j)
abbrev tNeI : TE → TE → TE := tCmp fun i j => !decide (i = j)
/-- a comparison of two ints, by its rule -/
theorem pc_int {op : CmpOp} {p : Int → Int → Bool} (ha : PE X a ta) (hb : PE X b tb)
    (rule : ∀ (i j : Int) (t u : Tok) (Q : Value → Shared → Prop) (s : Shared), Q (.bool (p i j)) s → wpAny (model X.prog X.w) X.A (compareOp op (.int i t) (.int j u)) Q X.xe s) : PC X op a b (tCmp p ta tb) := by
  intro pins s σ H Q I h
  refine bin ha hb I h fun v u s2 x y H2 I2 rx ry q => ?_
  obtain ⟨i, j, rfl, rfl, q⟩ := q
  obtain ⟨t, rfl⟩ := rx
  obtain ⟨t', rfl⟩ := ry
  exact rule i j t t' _ s2 ⟨.bl _, H2, I2, rfl, q⟩
theorem pc_lt (ha : PE X a ta) (hb : PE X b tb) : PC X .Lt a b (tLt ta tb) := pc_int ha hb fun _ _ _ _ _ _ h => lt_int h
theorem pc_le (ha : PE X a ta) (hb : PE X b tb) : PC X .LtE a b (tLe ta tb) := pc_int ha hb fun _ _ _ _ _ _ h => le_int h
theorem pc_gt (ha : PE X a ta) (hb : PE X b tb) : PC X .Gt a b (tGt ta tb) := pc_int ha hb fun _ _ _ _ _ _ h => gt_int h
theorem pc_ge (ha : PE X a ta) (hb : PE X b tb) : PC X .GtE a b (tGe ta tb) := pc_int ha hb fun _ _ _ _ _ _ h => ge_int h
theorem pc_eqI (ha : PE X a ta) (hb : PE X b tb) : PC X .Eq a b (tEqI ta tb) := pc_int ha hb fun _ _ _ _ _ _ h => eq_int (by rw [Bool.beq_eq_decide_eq]; exact h)
theorem pc_neI (ha : PE X a ta) (hb : PE X b tb) : PC X .NotEq a b (tNeI ta tb) := pc_int ha hb fun _ _ _ _ _ _ h => ne_int (by rw [bne, Bool.beq_eq_decide_eq]; exact h)
/-- is None -/
def tIsN (ta : TE) : TE := fun σ H Q => ta σ H fun x H1 => Q (.bl (decide (x = .non))) H1
def tNotN (ta : TE) : TE := fun σ H Q => ta σ H fun x H1 => Q (.bl (!decide (x = .non))) H1
theorem RelV.none_iff {x : V} {v : Value} (r : RelV x v) : (v == Value.none) = decide (x = .non) := by
  cases x with
  | non => cases r; rfl
  | bl _ => cases r; rfl
  | int _ => obtain ⟨t, rfl⟩ := r; rfl
  | str _ => obtain ⟨t, rfl⟩ := r; rfl
  | byt _ => obtain ⟨t, rfl⟩ := r; rfl
  | flt _ => obtain ⟨t, rfl⟩ := r; rfl
  | ref _ => cases r; rfl
  | ty _ => cases r; rfl
theorem pc_isN {j pos'} (ha : PE X a ta) : PC X .Is a (.Constant .none j pos') (tIsN ta) := by
  intro pins s σ H Q I h
  refine thn (ha pins s σ H _ I h) fun v s1 ⟨x, H1, I1, r1, q1⟩ => ?_
  exact Constant_none (is_none_gen ⟨.bl _, H1, I1, by rw [r1.none_iff]; rfl, q1⟩)
theorem pc_notN {j pos'} (ha : PE X a ta) : PC X .IsNot a (.Constant .none j pos') (tNotN ta) := by
  intro pins s σ H Q I h
  refine thn (ha pins s σ H _ I h) fun v s1 ⟨x, H1, I1, r1, q1⟩ => ?_
  exact Constant_none (isnot_none_gen ⟨.bl _, H1, I1, by rw [r1.none_iff]; rfl, q1⟩)
/-- a comparison as a value, as a test -/
def tB (t : TE) : TT := fun σ H Q => t σ H fun x H1 => ∃ c, x = .bl c ∧ Q c H1
theorem pe_cmp {op : CmpOp} {t : TE} (h : PC X op a b t) (h1 : behindInMarks op b = false := by first | exact nobehind _ (by decide) (by decide) | rfl) : PE X (.Compare a [op] [b] pos) t := fun pins s σ H Q I hw => wpAny_Compare1 (h pins s σ H Q I hw) h1
theorem pt_cmp {op : CmpOp} {t : TE} (h : PC X op a b t) (h1 : behindInMarks op b = false := by first | exact nobehind _ (by decide) (by decide) | rfl) : PT X (.Compare a [op] [b] pos) (tB t) := by
  intro pins s σ H Q I hw
  refine wpAny_isTrue_Compare1 (thn (h pins s σ H _ I hw) fun v s1 h1 => thn h1 fun u s2 h2 => thn h2 fun c s3 ⟨x, H1, I1, r1, q1⟩ => ?_) h1
  obtain ⟨d, rfl, q⟩ := q1
  cases r1
  exact wpAny_truthy_bool ⟨H1, I1, q⟩
/-- an expression whose value is a bool, as a test -/
theorem pt_val {e : Expr} {t : TE} (h : PE X e t) (he : ∀ whole, isTrue e X.env whole = (do let v ← whole; standAt e.pos; holding [v] (truthy v)) := by intro _; rfl) : PT X e (tB t) := by
  intro pins s σ H Q I hw
  refine isTrue_plain (thn (h pins s σ H _ I hw) fun v s1 ⟨x, H1, I1, r1, q1⟩ => ?_) (he _)
  obtain ⟨d, rfl, q⟩ := q1
  cases r1
  exact wpAny_truthy_bool ⟨H1, I1, q⟩

/-! ### and, or, not -/
variable {tA tB' : TT} {rest : List Expr}
def tAnd (t u : TT) : TT := fun σ H Q => t σ H fun c H1 => if c = true then u σ H1 Q else Q false H1
def tOr (t u : TT) : TT := fun σ H Q => t σ H fun c H1 => if c = true then Q true H1 else u σ H1 Q
def tNot (t : TT) : TT := fun σ H Q => t σ H fun c H1 => Q (!c) H1
theorem pw_and1 (ha : PT X a tA) : PW X (.BoolOp .And [a] pos) tA := by
  intro wh pins s σ H Q I h
  refine isTrue_and (thn (ha pins s σ H Q I h) fun c s1 e => ?_)
  cases c with
  | true => exact isTrue_and_nil e
  | false => exact e
theorem pw_or1 (ha : PT X a tA) : PW X (.BoolOp .Or [a] pos) tA := by
  intro wh pins s σ H Q I h
  refine isTrue_or (thn (ha pins s σ H Q I h) fun c s1 e => ?_)
  cases c with
  | false => exact isTrue_or_nil e
  | true => exact e
theorem pw_and (ha : PT X a tA) (hb : PW X (.BoolOp .And (b :: rest) pos) tB') : PW X (.BoolOp .And (a :: b :: rest) pos) (tAnd tA tB') := by
  intro wh pins s σ H Q I h
  refine isTrue_and (thn (ha pins s σ H _ I h) fun c s1 ⟨H1, I1, q1⟩ => ?_)
  cases c with
  | true => exact hb wh pins s1 σ H1 Q I1 q1
  | false => exact ⟨H1, I1, q1⟩
theorem pw_or (ha : PT X a tA) (hb : PW X (.BoolOp .Or (b :: rest) pos) tB') : PW X (.BoolOp .Or (a :: b :: rest) pos) (tOr tA tB') := by
  intro wh pins s σ H Q I h
  refine isTrue_or (thn (ha pins s σ H _ I h) fun c s1 ⟨H1, I1, q1⟩ => ?_)
  cases c with
  | true => exact ⟨H1, I1, q1⟩
  | false => exact hb wh pins s1 σ H1 Q I1 q1
theorem pt_not (ha : PT X a tA) : PT X (.UnaryOp .Not a pos) (tNot tA) := by
  intro pins s σ H Q I h
  exact isTrue_not (ha pins s σ H (fun c H1 => Q (!c) H1) I h)
/-- .. as values (bools) -/
def tAndV (ta tb : TE) : TE := fun σ H Q => ta σ H fun x H1 => ∃ c, x = .bl c ∧ if c = true then tb σ H1 Q else Q (.bl false) H1
def tOrV (ta tb : TE) : TE := fun σ H Q => ta σ H fun x H1 => ∃ c, x = .bl c ∧ if c = true then Q (.bl true) H1 else tb σ H1 Q
def tNotV (ta : TE) : TE := fun σ H Q => ta σ H fun x H1 => ∃ c, x = .bl c ∧ Q (.bl (!c)) H1
theorem pe_one {op} {t : TE} (h : PE X a t) : PE X (.BoolOp op [a] pos) t := fun pins s σ H Q I hw => BoolOp_one (h pins s σ H Q I hw)
theorem pe_and (ha : PE X a ta) (hb : PE X (.BoolOp .And (b :: rest) pos) tb) : PE X (.BoolOp .And (a :: b :: rest) pos) (tAndV ta tb) := by
  intro pins s σ H Q I h
  refine BoolOp_and (thn (ha pins s σ H _ I h) fun v s1 ⟨x, H1, I1, r1, q1⟩ => ?_)
  obtain ⟨c, rfl, q1⟩ := q1
  cases r1
  refine wpAny_truthy_bool ?_
  cases c with
  | true => exact hb pins s1 σ H1 Q I1 q1
  | false => exact ⟨.bl false, H1, I1, rfl, q1⟩
theorem pe_or (ha : PE X a ta) (hb : PE X (.BoolOp .Or (b :: rest) pos) tb) : PE X (.BoolOp .Or (a :: b :: rest) pos) (tOrV ta tb) := by
  intro pins s σ H Q I h
  refine BoolOp_or (thn (ha pins s σ H _ I h) fun v s1 ⟨x, H1, I1, r1, q1⟩ => ?_)
  obtain ⟨c, rfl, q1⟩ := q1
  cases r1
  refine wpAny_truthy_bool ?_
  cases c with
  | false => exact hb pins s1 σ H1 Q I1 q1
  | true => exact ⟨.bl true, H1, I1, rfl, q1⟩
theorem pe_not (ha : PE X a ta) : PE X (.UnaryOp .Not a pos) (tNotV ta) := by
  intro pins s σ H Q I h
  refine UnaryOp_ (thn (ha pins s σ H _ I h) fun v s1 ⟨x, H1, I1, r1, q1⟩ => ?_)
  obtain ⟨c, rfl, q1⟩ := q1
  cases r1
  exact not_of (wpAny_truthy_bool ⟨.bl (!c), H1, I1, rfl, q1⟩)
/-- a if t else b -/
def tIf (t : TT) (ta tb : TE) : TE := fun σ H Q => t σ H fun c H1 => if c = true then ta σ H1 Q else tb σ H1 Q
theorem pe_ifExp {c : Expr} (hc : PT X c tA) (ha : PE X a ta) (hb : PE X b tb) : PE X (.IfExp c a b pos) (tIf tA ta tb) := by
  intro pins s σ H Q I h
  refine wpAny_IfExp (thn (hc pins s σ H _ I h) fun d s1 ⟨H1, I1, q1⟩ => ?_)
  cases d with
  | true => exact ha pins s1 σ H1 Q I1 q1
  | false => exact hb pins s1 σ H1 Q I1 q1
end
end L2

namespace L2
open PySem PySem.Spec PyProof.Rows

/-! ### a list, a tuple that is read: tracked, frozen, or an object of the module -/
def SqL (K : PySem.W.Frag) (H : Hp) (a : Addr) (xs : List V) : Prop :=
  Rd H a (.lst xs) ∨
    ∃ (o : Obj) (its : Array Value) (n : Nat), K.lookup a = some o ∧ o.cls = .type "list" ∧ o.dict = none ∧ o.data = .seq its n ∧ its.size ≤ sizeLine ∧ Vals xs its.toList
def SqT (K : PySem.W.Frag) (H : Hp) (a : Addr) (xs : List V) : Prop :=
  Rd H a (.tup xs) ∨
    ∃ (o : Obj) (its : Array Value) (n : Nat), K.lookup a = some o ∧ o.cls = .type "tuple" ∧ o.data = .seq its n ∧ its.size ≤ sizeLine ∧ Vals xs its.toList
def absV : Value → Option V
  | .none => some .non
  | .bool b => some (.bl b)
  | .int i _ => some (.int i)
  | .str x _ => some (.str x)
  | .bytes b _ => some (.byt b)
  | .float b _ => some (.flt b)
  | .ref a => some (.ref a)
  | .type n => some (.ty n)
  | _ => none
theorem RelV.abs {x : V} {u : Value} (r : RelV x u) : absV u = some x := by
  cases x with
  | non => cases r; rfl
  | bl _ => cases r; rfl
  | int _ => obtain ⟨t, rfl⟩ := r; rfl
  | str _ => obtain ⟨t, rfl⟩ := r; rfl
  | byt _ => obtain ⟨t, rfl⟩ := r; rfl
  | flt _ => obtain ⟨t, rfl⟩ := r; rfl
  | ref _ => cases r; rfl
  | ty _ => cases r; rfl
theorem RelV.inj {x y : V} {u : Value} (r : RelV x u) (q : RelV y u) : x = y := Option.some.inj (r.abs.symm.trans q.abs)
theorem Vals.inj : ∀ {xs ys : List V} {us : List Value}, Vals xs us → Vals ys us → xs = ys
  | _, _, _, .nil, .nil => rfl
  | _, _, _, .cons r t, .cons r' t' => by rw [r.inj r', Vals.inj t t']
section
variable {X : Cx} {pins : List (Addr × Obj)} {σ : St} {H : Hp} {s : Shared} {a : Addr} {xs ys : List V}
theorem SqL.of {K : PySem.W.Frag} (h : H a = some (.lst xs)) : SqL K H a xs := .inl (.inl h)
theorem SqT.of {K : PySem.W.Frag} (h : H a = some (.tup xs)) : SqT K H a xs := .inl (.inl h)
theorem Inv.list (I : Inv X pins σ H s) (h : SqL X.K H a xs) : ∃ its : List Value, Vals xs its ∧ PlainL s.heap a its.toArray ∧ xs.length ≤ sizeLine := by
  rcases h with h | ⟨o, its, n, hk, hc, hd, hs, hz, r⟩
  · obtain ⟨z, its, n, r, e⟩ := h.ok I.hok
    exact ⟨its, r, ⟨_, n, e, rfl, rfl, rfl⟩, z⟩
  · refine ⟨its.toList, r, ⟨o, n, I.kIn a o hk, hc, hd, by simpa using hs⟩, ?_⟩
    have e := r.length
    simp only [Array.length_toList] at e
    omega
theorem Inv.tuple (I : Inv X pins σ H s) (h : SqT X.K H a xs) : ∃ its : List Value, Vals xs its ∧ IsTup s.heap a its.toArray ∧ xs.length ≤ sizeLine := by
  rcases h with h | ⟨o, its, n, hk, hc, hs, hz, r⟩
  · obtain ⟨z, its, r, p⟩ := h.ok I.hok
    exact ⟨its, r, p, z⟩
  · refine ⟨its.toList, r, ⟨o, I.kIn a o hk, hc, n, by simpa using hs⟩, ?_⟩
    have e := r.length
    simp only [Array.length_toList] at e
    omega
theorem Inv.list_inj (I : Inv X pins σ H s) (h : SqL X.K H a xs) (h' : SqL X.K H a ys) : xs = ys := by
  obtain ⟨its, r, ⟨o, n, e, _, _, d⟩, _⟩ := I.list h
  obtain ⟨its', r', ⟨o', n', e', _, _, d'⟩, _⟩ := I.list h'
  rw [e] at e'; cases e'
  rw [d] at d'
  injection d' with d1 _
  have : its = its' := by simpa using congrArg Array.toList d1
  subst this
  exact r.inj r'
theorem Inv.tuple_inj (I : Inv X pins σ H s) (h : SqT X.K H a xs) (h' : SqT X.K H a ys) : xs = ys := by
  obtain ⟨its, r, ⟨o, e, _, n, d⟩, _⟩ := I.tuple h
  obtain ⟨its', r', ⟨o', e', _, n', d'⟩, _⟩ := I.tuple h'
  rw [e] at e'; cases e'
  rw [d] at d'
  injection d' with d1 _
  have : its = its' := by simpa using congrArg Array.toList d1
  subst this
  exact r.inj r'
end

/-! ### another wish about exceptions -/
abbrev Cx.wish (X : Cx) (E : Value → Shared → Prop) : Cx := { X with xe := E }
/-- no exception leaves -/
abbrev Cx.nox (X : Cx) : Cx := X.wish fun _ _ => False
theorem Cx.Ok.wish {X : Cx} (ok : X.Ok) (E : Value → Shared → Prop) : (X.wish E).Ok :=
  ⟨ok.mod, ok.kind, ok.glob, ok.blt, ok.above, ok.inj, ok.has, ok.cab, ok.hd, ok.frames, ok.stk, ok.exf, ok.bs, ok.bsz, ok.noex, ok.exfs, ok.funs, ok.frf⟩
theorem Cx.Ok.unwish {X : Cx} {E : Value → Shared → Prop} (ok : (X.wish E).Ok) : X.Ok :=
  ⟨ok.mod, ok.kind, ok.glob, ok.blt, ok.above, ok.inj, ok.has, ok.cab, ok.hd, ok.frames, ok.stk, ok.exf, ok.bs, ok.bsz, ok.noex, ok.exfs, ok.funs, ok.frf⟩
section
variable {X : Cx} {pins : List (Addr × Obj)} {σ : St} {H : Hp} {s : Shared} {E : Value → Shared → Prop}
theorem Inv.wish (I : Inv X pins σ H s) (E : Value → Shared → Prop) : Inv (X.wish E) pins σ H s := ⟨I.ok.wish E, I.os, I.bare, I.base, I.loc, I.cell, I.free, I.freeC, I.pin, I.hok, I.len⟩
theorem Inv.unwish (I : Inv (X.wish E) pins σ H s) : Inv X pins σ H s := ⟨I.ok.unwish, I.os, I.bare, I.base, I.loc, I.cell, I.free, I.freeC, I.pin, I.hok, I.len⟩
theorem SP.unwish {D : Ends} {f : Flow} {s' : Shared} (h : SP (X.wish E) pins D f s') : SP X pins D f s' := by
  cases f with
  | next => obtain ⟨σ', H', I, q⟩ := h; exact ⟨σ', H', I.unwish, q⟩
  | brk => obtain ⟨σ', H', I, q⟩ := h; exact ⟨σ', H', I.unwish, q⟩
  | cont => obtain ⟨σ', H', I, q⟩ := h; exact ⟨σ', H', I.unwish, q⟩
  | ret u => obtain ⟨v, σ', H', I, r, q⟩ := h; exact ⟨v, σ', H', I.unwish, r, q⟩
theorem PE.nox {e : Expr} {t : TE} (h : PE X.nox e t) : PE X e t := fun pins s σ H Q I hw =>
  wpAny_mono (h pins s σ H Q (I.wish _) hw) (fun _ _ ⟨v, H', I', r, q⟩ => ⟨v, H', I'.unwish, r, q⟩) fun _ _ z => False.elim z
theorem PT.nox {e : Expr} {t : TT} (h : PT X.nox e t) : PT X e t := fun pins s σ H Q I hw =>
  wpAny_mono (h pins s σ H Q (I.wish _) hw) (fun _ _ ⟨H', I', q⟩ => ⟨H', I'.unwish, q⟩) fun _ _ z => False.elim z
theorem PSs.nox {st : List Stmt} {t : TS} (h : PSs X.nox st t) : PSs X st t := fun pins s σ H D I hw =>
  wpAny_mono (h pins s σ H D (I.wish _) hw) (fun _ _ q => q.unwish) fun _ _ z => False.elim z
end

/-! ### blocks and small statements -/
section
variable {X : Cx} {st : Stmt} {rest : List Stmt} {t u : TS} {e : Expr} {te : TE} {pos : Pos}
def tNext : TS := fun D σ H => D.nx σ H
def tSeq (t u : TS) : TS := fun D σ H => t { D with nx := u D } σ H
theorem pss_nil : PSs X [] tNext := fun _ _ σ H _ I h => wpAny_execs_nil ⟨σ, H, I, h⟩
theorem pss_cons (h1 : PS X st t) (h2 : PSs X rest u) : PSs X (st :: rest) (tSeq t u) := by
  intro pins s σ H D I h
  refine wpAny_execs_cons (thn (h1 pins s σ H { D with nx := u D } I h) fun f s1 q => ?_)
  cases f with
  | next =>
    obtain ⟨σ', H', I', q⟩ := q
    exact h2 pins s1 σ' H' D I' q
  | ret v => exact q
  | brk => exact q
  | cont => exact q
theorem pss_one (h1 : PS X st t) : PSs X [st] t := by
  intro pins s σ H D I h
  refine wpAny_execs_cons (thn (h1 pins s σ H D I h) fun f s1 q => ?_)
  cases f with
  | next => exact wpAny_execs_nil q
  | ret v => exact q
  | brk => exact q
  | cont => exact q
def tBreak : TS := fun D σ H => D.bk σ H
def tCont : TS := fun D σ H => D.ct σ H
theorem ps_pass : PS X (.Pass pos) tNext := fun _ _ σ H _ I h => wpAny_Pass ⟨σ, H, I, h⟩
theorem ps_break : PS X (.Break pos) tBreak := fun _ _ σ H _ I h => wpAny_Break ⟨σ, H, I, h⟩
theorem ps_continue : PS X (.Continue pos) tCont := fun _ _ σ H _ I h => wpAny_Continue ⟨σ, H, I, h⟩
/-- in a def's body nothing is shown -/
theorem Inv.quiet {pins : List (Addr × Obj)} {σ : St} {H : Hp} {s : Shared} (I : Inv X pins σ H s) : interactive X.env = false := by simp [interactive, I.ok.kind]
/-- a docstring -/
theorem ps_doc {x j pos pos'} : PS X (.Expr (.Constant (.str x) j pos) pos') tNext := fun _ s σ H _ I h => wpAny_Expr (Calls.Constant_str (show SP X _ _ .next { s with toks := s.toks + 1 } from ⟨σ, H, I.tok _, h⟩)) I.quiet
/-- an expression whose value is dropped -/
def tDrop (te : TE) : TS := fun D σ H => te σ H fun _ H1 => D.nx σ H1
theorem ps_expr (he : PE X e te) (hs : swapsWith e none pos.line X.env = pure false := by rfl) : PS X (.Expr e pos) (tDrop te) := by
  intro pins s σ H D I h
  exact wpAny_Expr_any (thn (he pins s σ H _ I h) fun v s1 ⟨x, H1, I1, r1, q1⟩ => ⟨σ, H1, I1, q1⟩) I.quiet hs
def tRet (te : TE) : TS := fun D σ H => te σ H D.rt
theorem ps_ret (he : PE X e te) : PS X (.Return (some e) pos) (tRet te) := by
  intro pins s σ H D I h
  exact wpAny_Return_some (thn (he pins s σ H _ I h) fun v s1 ⟨x, H1, I1, r1, q1⟩ => ⟨x, σ, H1, I1, r1, q1⟩)
def tRetN : TS := fun D _ H => D.rt .non H
theorem ps_retN : PS X (.Return none pos) tRetN := fun _ _ σ H _ I h => wpAny_Return_none ⟨.non, σ, H, I, rfl, h⟩
def tIfS (c : TT) (t u : TS) : TS := fun D σ H => c σ H fun b H1 => if b = true then t D σ H1 else u D σ H1
theorem ps_if {c : Expr} {a b : List Stmt} {tc : TT} (hc : PT X c tc) (ha : PSs X a t) (hb : PSs X b u) : PS X (.If c a b pos) (tIfS tc t u) := by
  intro pins s σ H D I h
  refine wpAny_If (thn (hc pins s σ H _ I h) fun d s1 ⟨H1, I1, q1⟩ => ?_)
  cases d with
  | true => exact ha pins s1 σ H1 D I1 q1
  | false => exact hb pins s1 σ H1 D I1 q1
/-- code that the proof never comes to -/
def tNever : TS := fun _ _ _ => False
theorem ps_never : PS X st tNever := fun _ _ _ _ _ _ h => h.elim
theorem pss_never {sts : List Stmt} : PSs X sts tNever := fun _ _ _ _ _ _ h => h.elim
end

/-! ### targets -/
abbrev TG := V → St → Hp → (St → Hp → Prop) → Prop
abbrev TGs := List V → St → Hp → (St → Hp → Prop) → Prop
def PG (X : Cx) (target : Expr) (t : TG) : Prop :=
  ∀ (pins : List (Addr × Obj)) (s : Shared) (σ : St) (H : Hp) (v : V) (u : Value) (Q : St → Hp → Prop), Inv X pins σ H s → RelV v u → t v σ H Q →
    wpAny (model X.prog X.w) X.A (assign target X.env u) (fun _ s' => ∃ σ' H', Inv X pins σ' H' s' ∧ Q σ' H') X.xe s
/-- several targets, one after another -/
def PGs (X : Cx) (ts : List Expr) (t : TGs) : Prop :=
  ∀ (pins : List (Addr × Obj)) (s : Shared) (σ : St) (H : Hp) (vs : List V) (us : List Value) (Q : St → Hp → Prop), Inv X pins σ H s → Vals vs us → t vs σ H Q →
    wpAny (model X.prog X.w) X.A (assignInOrder ((assignEach ts X.env).map (·.2)) us) (fun _ s' => ∃ σ' H', Inv X pins σ' H' s' ∧ Q σ' H') X.xe s
/-- o[i] = v, by values -/
abbrev TSet := V → V → V → Hp → (Hp → Prop) → Prop
def PSet (X : Cx) (t : TSet) : Prop :=
  ∀ (pins : List (Addr × Obj)) (s : Shared) (σ : St) (H : Hp) (o i v : V) (ov iv u : Value) (Q : Hp → Prop), Inv X pins σ H s → RelV o ov → RelV i iv → RelV v u → t o i v H Q →
    wpAny (model X.prog X.w) X.A (setItem ov iv u) (fun _ s' => ∃ H', Inv X pins σ H' s' ∧ Q H') X.xe s
/-- a op= b, by values -/
abbrev TIp := V → V → Hp → VK → Prop
def PIp (X : Cx) (op : Operator) (t : TIp) : Prop :=
  ∀ (pins : List (Addr × Obj)) (s : Shared) (σ : St) (H : Hp) (x y : V) (v u : Value) (Q : VK), Inv X pins σ H s → RelV x v → RelV y u → t x y H Q →
    wpAny (model X.prog X.w) X.A (inplaceOp op v u) (EP X pins σ Q) X.xe s
section
variable {X : Cx} {pos : Pos}
def gName (i : Nat) : TG := fun v σ H Q => Q (σ.set i (some v)) H
theorem pg_name {i : Nat} {x : Str} (hN : X.N.Nodup) (hi : X.N[i]? = some x) (hx : Loc X.env.scope x) (hf : X.fn x = true ∨ X.env.scope.names.lookup x = some .local := by first | exact .inl rfl | exact .inr rfl | assumption) : PG X (.Name x pos) (gName i) := by
  intro pins s σ H v u Q I r h
  exact wpAny_assign_Name (store_ok I hN hi hx r (fun s' I' => ⟨_, H, I', h⟩) hf)
def gNil : TGs := fun vs σ H Q => vs = [] ∧ Q σ H
def gCons (t : TG) (u : TGs) : TGs := fun vs σ H Q => ∃ v r, vs = v :: r ∧ t v σ H fun σ' H' => u r σ' H' Q
theorem pgs_nil : PGs X [] gNil := by
  intro pins s σ H vs us Q I r h
  obtain ⟨e, h⟩ := h
  subst e
  cases r
  exact assignInOrder_nil ⟨σ, H, I, h⟩
theorem pgs_cons {e : Expr} {es : List Expr} {t : TG} {u : TGs} (h1 : PG X e t) (h2 : PGs X es u)
    (hs : (assignEach (e :: es) X.env).map (·.2) = assign e X.env :: (assignEach es X.env).map (·.2) := by rfl) : PGs X (e :: es) (gCons t u) := by
  intro pins s σ H vs us Q I r h
  obtain ⟨v, vr, e1, h⟩ := h
  subst e1
  cases r with
  | cons r rr =>
    rw [hs]
    refine assignInOrder_cons (thn (h1 pins s σ H _ _ _ I r h) fun _ s1 ⟨σ1, H1, I1, q1⟩ => ?_)
    exact h2 pins s1 σ1 H1 _ _ Q I1 rr q1
/-- (a, b, ..) = a tuple of that length -/
def gTup (K : PySem.W.Frag) (n : Nat) (t : TGs) : TG := fun v σ H Q => ∃ a xs, v = .ref a ∧ SqT K H a xs ∧ xs.length = n ∧ t xs σ H Q
theorem pg_tup {es : List Expr} {k : Nat} {t : TGs} {n : Nat} (hc : X.calm = true) (h : PGs X es t)
    (hn : (assignEach es X.env).length = n := by rfl) (hst : (assignEach es X.env).findIdx? (·.1) = none := by rfl) : PG X (.Tuple es k pos) (gTup X.K n t) := by
  intro pins s σ H v u Q I r hw
  obtain ⟨a, xs, e1, hq, hl, hw⟩ := hw
  subst e1
  cases r
  obtain ⟨its, rv, ht, hz⟩ := I.tuple hq
  refine assign_Tuple_tuple (I.ok.hd hc) ht (by simp [hn, ← hl, rv.length]) hst fun h' hx => ?_
  have I1 : Inv X pins σ H { s with heap := h' } := I.kept (t' := s.toks) fun b o e => hx b o (Nat.ne_of_lt (Heap.lt_size e)) e
  exact h pins _ σ H xs _ Q I1 (by simpa using rv) hw
/-- o[i] = .. -/
def gSub (to ti : TE) (t : TSet) : TG := fun v σ H Q => to σ H fun o H1 => ti σ H1 fun i H2 => t o i v H2 fun H3 => Q σ H3
theorem pg_sub {o i : Expr} {to ti : TE} {t : TSet} (ho : PE X o to) (hi : PE X i ti) (hs : PSet X t)
    (ha : ∀ v, assign (.Subscript o i pos) X.env v = (do
      let ov ← holding [v] (eval o X.env)
      let iv ← holding [v, ov] (eval i X.env)
      standAt pos
      holding [v, ov, iv] (setItem ov iv v)
      release [v, ov, iv] []) := by intro _; rfl) : PG X (.Subscript o i pos) (gSub to ti t) := by
  intro pins s σ H v u Q I r h
  rw [ha]
  refine wpAny_bind (wpAny_holding (thn (ho pins s σ H _ I h) fun ov s1 ⟨x, H1, I1, r1, q1⟩ => ?_))
  refine wpAny_bind (wpAny_holding (thn (hi pins s1 σ H1 _ I1 q1) fun iv s2 ⟨y, H2, I2, r2, q2⟩ => ?_))
  refine wpAny_bind (wpAny_standAt (wpAny_bind (wpAny_holding (thn (hs pins s2 σ H2 x y v ov iv u _ I2 r1 r2 r q2) fun _ s3 ⟨H3, I3, q3⟩ => ?_))))
  exact wpAny_release ⟨σ, H3, I3, q3⟩
/-- target = value -/
def tAsg (te : TE) (g : TG) : TS := fun D σ H => te σ H fun x H1 => g x σ H1 D.nx
theorem ps_asg {tg e : Expr} {te : TE} {g : TG} (he : PE X e te) (hg : PG X tg g) (hs : swapsWithSole [tg] e pos.line X.env = pure false := by rfl) (hw : swappedStores [tg] e X.env = pure none := by rfl)
    (h1 : (assignEach [tg] X.env).map (·.2) = [assign tg X.env] := by rfl) : PS X (.Assign [tg] e pos) (tAsg te g) := by
  intro pins s σ H D I h
  refine wpAny_Assign_stores (thn (he pins s σ H _ I h) fun v s1 ⟨x, H1, I1, r1, q1⟩ => ?_) hs hw
  rw [h1]
  exact thn (hg pins s1 σ H1 x v _ I1 r1 q1) fun _ s2 q => q
/-- name = value -/
theorem ps_set {i : Nat} {x : Str} {e : Expr} {te : TE} {pos' : Pos} (hN : X.N.Nodup) (hi : X.N[i]? = some x) (hx : Loc X.env.scope x) (he : PE X e te) (hs : swapsWith e (some (.Name x pos')) pos.line X.env = pure false := by rfl) (hf : X.fn x = true ∨ X.env.scope.names.lookup x = some .local := by first | exact .inl rfl | exact .inr rfl | assumption) :
    PS X (.Assign [.Name x pos'] e pos) (tAsg te (gName i)) := by
  intro pins s σ H D I h
  refine wpAny_Assign_Name (thn (he pins s σ H _ I h) fun v s1 ⟨y, H1, I1, r1, q1⟩ => ?_) hs
  exact store_ok I1 hN hi hx r1 (fun s2 I2 => ⟨_, H1, I2, q1⟩) hf
/-- a, b = x, y with plain local names: stored from the right; the pair itself is not tracked (the opening rows as in PyProof/Rows/TupAssign.lean:23) -/
def tPar (i j : Nat) (ta : TA) : TS := fun D σ H => ta σ H fun vs H1 => ∃ v w, vs = [v, w] ∧ D.nx ((σ.set i (some v)).set j (some w)) H1
theorem ps_par {i j : Nat} {x y : Str} {a b : Expr} {ta : TA} {px py pt : Pos} {kt k2 pt2} (hc : X.calm = true) (hN : X.N.Nodup) (hi : X.N[i]? = some x) (hj : X.N[j]? = some y) (hij : i ≠ j)
    (hx : X.env.scope.names.lookup x = some .local) (hy : X.env.scope.names.lookup y = some .local) (ha : PA X [a, b] ta)
    (hw : swappedStores [.Tuple [.Name x px, .Name y py] kt pt] (.Tuple [a, b] k2 pt2) X.env = pure (some [x, y]))
    (hs : swapsWithSole [.Tuple [.Name x px, .Name y py] kt pt] (.Tuple [a, b] k2 pt2) pos.line X.env = pure false := by rfl) :
    PS X (.Assign [.Tuple [.Name x px, .Name y py] kt pt] (.Tuple [a, b] k2 pt2) pos) (tPar i j ta) := by
  intro pins s σ H D I h
  rw [exec_Assign_arm]
  refine wpAny_bind (wpAny_standAt ?_)
  rw [hs]
  refine wpAny_bind (wpAny_pure ?_)
  rw [if_neg (by decide)]
  refine wpAny_bind (Tuple_ (thn (ha _ pins s σ H _ I h) fun us s1 ⟨vs, H1, I1, r1, q1⟩ => ?_))
  obtain ⟨v, w, e1, q1⟩ := q1
  subst e1
  obtain ⟨u1, u2, rfl, rv, rw'⟩ : ∃ u1 u2, us = [u1, u2] ∧ RelV v u1 ∧ RelV w u2 := by
    cases r1 with
    | cons p q =>
      cases q with
      | cons p' q' =>
        cases q'
        exact ⟨_, _, rfl, p, p'⟩
  refine wpAny_newObj_type ?_ (by show 2 ≤ sizeLine; decide)
  have I2 : Inv X pins σ H1 { s1 with heap := s1.heap.push { cls := .type "tuple", data := .seq [u1, u2].toArray } } := I1.kept (t' := s1.toks) fun b o e => Heap.get?_push_of_some _ e
  rw [hw]
  refine wpAny_bind (wpAny_pure ?_)
  show wpAny (model X.prog X.w) X.A (do rule "assign.swapped-stores"; let items ← unpackItems (.ref s1.heap.objs.size) 2 none; assignInOrder [fun v => bindName X.env y v, fun v => bindName X.env x v] items.reverse; pure Flow.next) _ _ _
  refine wpAny_bind (wpAny_rule (wpAny_bind (unpackItems_tuple (items := #[u1, u2]) (I.ok.hd hc) (IsTup.new s1.heap _) fun h' hx' => ?_)))
  have I3 := I2.kept (h' := h') (t' := s1.toks) fun b o e => hx' b o (Nat.ne_of_lt (Heap.lt_size e)) e
  show wpAny _ _ (assignInOrder [fun v => bindName X.env y v, fun v => bindName X.env x v] [u2, u1] >>= fun _ => pure Flow.next) _ _ _
  refine wpAny_bind (assignInOrder_cons (wpAny_bindName (store_ok I3 hN hj (.inl hy) rw' (fun s2 I4 => ?_) (.inr hy))))
  refine assignInOrder_cons (wpAny_bindName (store_ok I4 hN hi (.inl hx) rv (fun s3 I5 => assignInOrder_nil (wpAny_pure ?_)) (.inr hx)))
  rw [List.set_comm _ _ (Ne.symm hij)] at I5
  exact ⟨_, H1, I5, q1⟩
/-- name op= e -/
def tAug (i : Nat) (te : TE) (ti : TIp) : TS := fun D σ H => ∃ x, σ[i]? = some (some x) ∧ te σ H fun y H1 => ti x y H1 fun z H2 => D.nx (σ.set i (some z)) H2
theorem ps_aug {i : Nat} {x : Str} {e : Expr} {te : TE} {op : Operator} {ti : TIp} {pos' : Pos} (hN : X.N.Nodup) (hi : X.N[i]? = some x) (hx : Loc X.env.scope x) (he : PE X e te) (ho : PIp X op ti) (hf : X.fn x = true ∨ X.env.scope.names.lookup x = some .local := by first | exact .inl rfl | exact .inr rfl | assumption) :
    PS X (.AugAssign (.Name x pos') op e pos) (tAug i te ti) := by
  intro pins s σ H D I h
  obtain ⟨v, e1, h⟩ := h
  obtain ⟨m, hn, hl⟩ := I.loc
  have vis : Vis X.env.scope x := by rcases hx with k | k; exact .inl k; exact .inr (.inl k)
  obtain ⟨u, r, l⟩ := hl i x v hi e1 vis
  refine wpAny_AugAssign_Name ?_
  have go : wpAny (model X.prog X.w) X.A (eval e X.env) (fun w s₂ => wpAny (model X.prog X.w) X.A (inplaceOp op u w) (fun r s₃ => wpAny (model X.prog X.w) X.A (storeName X.env x r) (fun _ => SP X pins D .next) X.xe s₃) X.xe s₂) X.xe s := by
    refine thn (he pins s σ H _ I h) fun w s1 ⟨y, H1, I1, r1, q1⟩ => ?_
    refine thn (ho pins s1 σ H1 v y u w _ I1 r r1 q1) fun z s2 ⟨zv, H2, I2, r2, q2⟩ => ?_
    exact store_ok I2 hN hi hx r2 (fun s3 I3 => ⟨_, H2, I3, q2⟩) hf
  rcases l with ⟨hk, hm⟩ | ⟨hk, c, hc, hcell⟩
  · exact wpAny_loadName_local I.ok.kind hk hn hm go
  · rcases hk with hk | hk
    · exact wpAny_loadName_cell I.ok.kind hk hc hcell go
    · rcases hx with k | k
      · have : X.env.scope.names.lookup x = some .free := hk
        rw [k] at this; cases this
      · have : X.env.scope.names.lookup x = some .free := hk
        rw [k] at this; cases this
/-- o[i] op= e -/
def tAugS (to ti te : TE) (tget : V → V → Hp → VK → Prop) (tip : TIp) (tset : TSet) : TS := fun D σ H => to σ H fun o H1 => ti σ H1 fun i H2 => tget o i H2 fun x H3 => te σ H3 fun y H4 => tip x y H4 fun z H5 => tset o i z H5 fun H6 => D.nx σ H6
/-- o[i], by values -/
def PGet (X : Cx) (t : V → V → Hp → VK → Prop) : Prop :=
  ∀ (pins : List (Addr × Obj)) (s : Shared) (σ : St) (H : Hp) (o i : V) (ov iv : Value) (Q : VK), Inv X pins σ H s → RelV o ov → RelV i iv → t o i H Q →
    wpAny (model X.prog X.w) X.A (getItem ov iv) (EP X pins σ Q) X.xe s
theorem ps_augS {o i e : Expr} {to ti te : TE} {tget : V → V → Hp → VK → Prop} {tip : TIp} {tset : TSet} {op : Operator} {tpos : Pos} (ho : PE X o to) (hi : PE X i ti) (hg : PGet X tget) (he : PE X e te) (hp : PIp X op tip) (hs : PSet X tset)
    (ha : ∀ ov iv new, augStore i ov iv new = (do holding [new, ov, iv] (setItem ov iv new); release [new, ov, iv] []; pure .next) := by intros; rfl) : PS X (.AugAssign (.Subscript o i tpos) op e pos) (tAugS to ti te tget tip tset) := by
  intro pins s σ H D I h
  refine wpAny_AugAssign_SubscriptAny (thn (ho pins s σ H _ I h) fun ov s1 ⟨x1, H1, I1, r1, q1⟩ => ?_) ha
  refine thn (hi pins s1 σ H1 _ I1 q1) fun iv s2 ⟨x2, H2, I2, r2, q2⟩ => ?_
  refine thn (hg pins s2 σ H2 x1 x2 ov iv _ I2 r1 r2 q2) fun old s3 ⟨x3, H3, I3, r3, q3⟩ => ?_
  refine thn (he pins s3 σ H3 _ I3 q3) fun v s4 ⟨x4, H4, I4, r4, q4⟩ => ?_
  refine thn (hp pins s4 σ H4 x3 x4 old v _ I4 r3 r4 q4) fun new s5 ⟨x5, H5, I5, r5, q5⟩ => ?_
  exact thn (hs pins s5 σ H5 x1 x2 x5 ov iv new _ I5 r1 r2 r5 q5) fun _ s6 ⟨H6, I6, q6⟩ => ⟨σ, H6, I6, q6⟩
/-- ints -/
def ipI (f : Int → Int → Int) : TIp := fun x y H Q => ∃ i j, x = .int i ∧ y = .int j ∧ Q (.int (f i j)) H
theorem ip_add : PIp X .Add (ipI fun i j => i + j) := by
  intro pins s σ H x y v u Q I r1 r2 h
  obtain ⟨i, j, e1, e2, q⟩ := h
  subst e1; subst e2
  obtain ⟨t, rfl⟩ := r1
  obtain ⟨t', rfl⟩ := r2
  exact iadd_int ⟨.int _, H, I.tok _, ⟨_, rfl⟩, q⟩
theorem ip_sub : PIp X .Sub (ipI fun i j => i - j) := by
  intro pins s σ H x y v u Q I r1 r2 h
  obtain ⟨i, j, e1, e2, q⟩ := h
  subst e1; subst e2
  obtain ⟨t, rfl⟩ := r1
  obtain ⟨t', rfl⟩ := r2
  exact isub_int ⟨.int _, H, I.tok _, ⟨_, rfl⟩, q⟩
end

/-! ### while -/
section
variable {X : Cx} {pos : Pos}
/-- the invariant W with its measure -/
def tWhile (c : TT) (tb : TS) : TS := fun D σ H => ∃ W : Nat → St → Hp → Prop, (∃ m, W m σ H) ∧ ∀ m σ H, W m σ H →
  c σ H fun b H1 => if b = true then ∃ N : St → Hp → Prop, (∀ σ' H', N σ' H' → ∃ m', m' < m ∧ W m' σ' H') ∧ tb { D with nx := N, ct := N, bk := D.nx } σ H1 else D.nx σ H1
theorem ps_while {c : Expr} {body : List Stmt} {tc : TT} {tb : TS} (hp : PassesOwn (model X.prog X.w) X.A X.env X.xe) (hc : PT X c tc) (hb : PSs X body tb) : PS X (.While c body [] pos) (tWhile tc tb) := by
  intro pins s σ H D I h
  obtain ⟨W, ⟨m0, w0⟩, turn⟩ := h
  refine wpAny_While (codeAny_whileLoop (fun n s' => ∃ σ' H', Inv X pins σ' H' s' ∧ W n σ' H') ?_ m0 ⟨σ, H, I, w0⟩)
  rintro n s1 ⟨σ1, H1, I1, w1⟩
  refine wpAny_passesOwn hp (thn (hc pins s1 σ1 H1 _ I1 (turn n σ1 H1 w1)) fun b s2 ⟨H2, I2, q2⟩ => ?_)
  cases b with
  | true =>
    obtain ⟨N, hN, q2⟩ := q2
    rw [if_pos rfl]
    refine wpAny_passesOwn hp (thn (hb pins s2 σ1 H2 _ I2 q2) fun f s3 q3 => ?_)
    cases f with
    | next =>
      obtain ⟨σ3, H3, I3, n3⟩ := q3
      obtain ⟨m', hm, w3⟩ := hN σ3 H3 n3
      exact ⟨m', hm, σ3, H3, I3, w3⟩
    | cont =>
      obtain ⟨σ3, H3, I3, n3⟩ := q3
      obtain ⟨m', hm, w3⟩ := hN σ3 H3 n3
      exact ⟨m', hm, σ3, H3, I3, w3⟩
    | brk => exact q3
    | ret v => exact q3
  | false =>
    rw [if_neg Bool.false_ne_true]
    exact wpAny_execs_nil ⟨σ1, H2, I2, q2⟩
end

/-! ### what a loop or a comprehension walks -/
/-- at turn i: it yields x (the heap may grow), or it stops -/
structure It where
  go : Nat → Hp → Prop
  yld : Nat → Hp → V → Hp → Prop
  stop : Nat → Hp → Prop
/-- the iterator's own objects may turn: they are not the frame's, not pinned, younger than the entry (or a comprehension's own) -/
def FpOk (X : Cx) (pins : List (Addr × Obj)) (H : Hp) (b : Addr) : Prop :=
  H b = none ∧ b ≠ X.env.locals ∧ b ∉ X.fs ∧ (b ∈ X.ex ∨ X.s₀.heap.objs.size ≤ b) ∧ (∀ x c, X.env.cells.lookup x = some c → c ≠ b) ∧ ∀ p ∈ X.pn ++ pins, p.1 ≠ b
theorem Inv.fpOk {X : Cx} {pins : List (Addr × Obj)} {σ : St} {H H' : Hp} {s : Shared} {b : Addr} (I : Inv X pins σ H s) (hb : s.heap.objs.size ≤ b) (hn : H' b = none) : FpOk X pins H' b := by
  refine ⟨hn, Nat.ne_of_gt (Nat.lt_of_lt_of_le I.lt hb), I.nofs hb, .inr (Nat.le_trans I.sz hb), fun x c e z => ?_, fun p hp z => ?_⟩
  · obtain ⟨v, q⟩ := I.cell x c e
    exact absurd (Nat.lt_of_lt_of_le q.lt (by rw [z]; exact hb)) (Nat.lt_irrefl _)
  · exact absurd (Nat.lt_of_lt_of_le (Heap.lt_size (I.pin p hp).1) (by rw [z]; exact hb)) (Nat.lt_irrefl _)
structure Turn (P : Program) (w : World) (K : PySem.W.Frag) (tg : Expr) (J : It) (fp : List Addr) (it : Addr) (tn : Nat → Heap → Prop) : Prop where
  mem : it ∈ fp
  obj : ∀ i h, tn i h → ∀ b ∈ fp, ∃ o, h.get? b = some o ∧ ∀ v, o.data ≠ .cell v
  keep : ∀ i h h', tn i h → (∀ b ∈ fp, ∀ o, h.get? b = some o → h'.get? b = some o) → tn i h'
  item : ∀ (X : Cx), X.prog = P → X.w = w → X.K = K → X.calm = true → ∀ (i : Nat) (pins : List (Addr × Obj)) (s : Shared) (σ : St) (H : Hp) (E : Value → Shared → Prop), Inv X pins σ H s → (∀ b ∈ fp, FpOk X pins H b) → tn i s.heap → J.go i H →
    wpAny (model P w) X.A (pyNext (.ref it)) (fun r s1 => ∃ u, r = some u ∧
      wpAny (model P w) X.A (letOwnedTupleGo tg (.ref it) u) (fun _ s2 => ∃ x H', Inv X pins σ H' s2 ∧ RelV x u ∧ J.yld i H x H' ∧ tn (i + 1) s2.heap ∧ ∀ b ∈ fp, H' b = none) E s1) E s
  done : ∀ (X : Cx), X.prog = P → X.w = w → X.K = K → X.calm = true → ∀ (i : Nat) (pins : List (Addr × Obj)) (s : Shared) (σ : St) (H : Hp) (E : Value → Shared → Prop), Inv X pins σ H s → (∀ b ∈ fp, FpOk X pins H b) → tn i s.heap → J.stop i H →
    wpAny (model P w) X.A (pyNext (.ref it)) (fun r s1 => r = none ∧ Inv X pins σ H s1) E s
  self : ∀ (A : Around) (i : Nat) (s : Shared) (Q : Value → Shared → Prop) (E : Value → Shared → Prop), tn i s.heap → Q (.ref it) s → wpAny (model P w) A (pyIter (.ref it)) Q E s
abbrev TI := St → Hp → (It → Hp → Prop) → Prop
/-- an iterator has come -/
def PIE (X : Cx) (pins : List (Addr × Obj)) (σ : St) (tg : Expr) (R : It → Hp → Prop) (itv : Value) (s2 : Shared) : Prop :=
  ∃ (it : Addr) (fp : List Addr) (tn : Nat → Heap → Prop) (J : It) (H' : Hp), itv = .ref it ∧ Inv X pins σ H' s2 ∧ Turn X.prog X.w X.K tg J fp it tn ∧ tn 0 s2.heap ∧ (∀ b ∈ fp, FpOk X pins H' b) ∧ R J H'
def PI (X : Cx) (tg iter : Expr) (wi : TI) : Prop :=
  ∀ (pins : List (Addr × Obj)) (s : Shared) (σ : St) (H : Hp) (R : It → Hp → Prop), Inv X pins σ H s → wi σ H R →
    wpAny (model X.prog X.w) X.A (eval iter X.env) (fun v s1 => wpAny (model X.prog X.w) X.A (pyIter v) (PIE X pins σ tg R) X.xe s1) X.xe s

/-- the step ahead of the store is nothing for an iterator that keeps no tuple -/
theorem go_of {M : Model} {A : Around} {E : Value → Shared → Prop} {s : Shared} {tg : Expr} {it : Addr} {u : Value} {o : Obj} {n : String} {vs : Array Value} {Q : Unit → Shared → Prop} (ho : s.heap.get? it = some o) (hc : o.cls = .type n) (hd : o.data = .fields vs)
    (hn : ["enumerate", "zip", "dict_itemiterator", "dict_reverseitemiterator", "odict_iterator", "itertools.zip_longest", "itertools.pairwise"].contains n = false) (hQ : Q () s) : wpAny M A (letOwnedTupleGo tg (.ref it) u) Q E s := by
  unfold letOwnedTupleGo
  cases tg <;> first
    | exact wpAny_pure hQ
    | (cases u <;> first
        | exact wpAny_pure hQ
        | (refine wpAny_bind (wpAny_load ho ?_)
           rw [hc, hd]
           show wpAny M A (if (["enumerate", "zip", "dict_itemiterator", "dict_reverseitemiterator", "odict_iterator", "itertools.zip_longest", "itertools.pairwise"].contains n && vs[0]? == some (rawInt _)) = true then _ else _) Q E s
           rw [if_neg (by intro h; rw [hn, Bool.false_and] at h; cases h)]
           exact wpAny_pure hQ))

/-- the list at a, as it stands at each turn (a loop may append to it) -/
def Itl (K : PySem.W.Frag) (a : Addr) : It :=
  ⟨fun i H => ∃ xs x, SqL K H a xs ∧ xs[i]? = some x, fun i H x H' => H' = H ∧ ∀ xs, SqL K H a xs → xs[i]? = some x, fun i H => ∃ xs, SqL K H a xs ∧ xs.length ≤ i⟩
def Itt (K : PySem.W.Frag) (a : Addr) : It :=
  ⟨fun i H => ∃ xs x, SqT K H a xs ∧ xs[i]? = some x, fun i H x H' => H' = H ∧ ∀ xs, SqT K H a xs → xs[i]? = some x, fun i H => ∃ xs, SqT K H a xs ∧ xs.length ≤ i⟩
/-- lo, lo + 1, .. (n of them) -/
def Itr (lo : Int) (n : Nat) : It := ⟨fun i _ => i < n, fun i H x H' => H' = H ∧ x = .int (lo + i), fun i _ => n ≤ i⟩
theorem turn_list {P : Program} {w : World} {K : PySem.W.Frag} {tg : Expr} (a it : Addr) : Turn P w K tg (Itl K a) [it] it (fun i h => h.IsListIter it a i) where
  mem := by simp
  obj := fun i h st b hb => by
    have e : b = it := by simpa using hb
    subst e
    obtain ⟨o, e, c, d⟩ := st
    exact ⟨o, e, fun v z => by rw [d] at z; cases z⟩
  keep := fun i h h' st k => st.at fun o e => k it (by simp) o e
  item := by
    intro X hP hw hK hc i pins s σ H E I hf st hg
    subst hP hw hK
    obtain ⟨xs, x, hq, hx⟩ := hg
    obtain ⟨its, rv, p, hz⟩ := I.list hq
    obtain ⟨u, hu, ru⟩ := rv.get hx
    obtain ⟨f0, f1, f2, f3, f4, f5⟩ := hf it (by simp)
    refine wpAny_pyNext_list_item st p.isList (x := u) (by simpa using hu) fun h' st' sb => ?_
    have I1 : Inv X pins σ H { s with heap := h' } := I.turned (t' := s.toks) (fun b o hb e => (sb.2 b hb).trans e) f0 f1 f3 f4 f5
    obtain ⟨o, e, c, d⟩ := id st'
    exact ⟨u, rfl, go_of (s := { s with heap := h' }) e c d (by decide) ⟨x, H, I1, ru, ⟨rfl, fun ys hy => by rw [I.list_inj hy hq]; exact hx⟩, st', fun b hb => (hf b hb).1⟩⟩
  done := by
    intro X hP hw hK hc i pins s σ H E I hf st hg
    subst hP hw hK
    obtain ⟨xs, hq, hx⟩ := hg
    obtain ⟨its, rv, p, hz⟩ := I.list hq
    obtain ⟨f0, f1, f2, f3, f4, f5⟩ := hf it (by simp)
    have hl := rv.length
    exact wpAny_pyNext_list_end (I.ok.hd hc) st p.isList (by simp; omega) fun h' eb => ⟨rfl, I.turned (t' := s.toks) (fun b o hb e => eb b o hb e) f0 f1 f3 f4 f5⟩
  self := fun _ _ _ _ _ st h => wpAny_pyIter_listiter st h
theorem turn_tuple {P : Program} {w : World} {K : PySem.W.Frag} {tg : Expr} (a it : Addr) : Turn P w K tg (Itt K a) [it] it (fun i h => h.IsTupleIter it a i) where
  mem := by simp
  obj := fun i h st b hb => by
    have e : b = it := by simpa using hb
    subst e
    obtain ⟨o, e, c, d⟩ := st
    exact ⟨o, e, fun v z => by rw [d] at z; cases z⟩
  keep := fun i h h' st k => st.at fun o e => k it (by simp) o e
  item := by
    intro X hP hw hK hc i pins s σ H E I hf st hg
    subst hP hw hK
    obtain ⟨xs, x, hq, hx⟩ := hg
    obtain ⟨its, rv, p, hz⟩ := I.tuple hq
    obtain ⟨u, hu, ru⟩ := rv.get hx
    obtain ⟨f0, f1, f2, f3, f4, f5⟩ := hf it (by simp)
    refine wpAny_pyNext_tuple_item st (show s.heap.IsTuple a its.toArray from p) (x := u) (by simpa using hu) fun h' st' sb => ?_
    have I1 : Inv X pins σ H { s with heap := h' } := I.turned (t' := s.toks) (fun b o hb e => (sb.2 b hb).trans e) f0 f1 f3 f4 f5
    obtain ⟨o, e, c, d⟩ := id st'
    exact ⟨u, rfl, go_of (s := { s with heap := h' }) e c d (by decide) ⟨x, H, I1, ru, ⟨rfl, fun ys hy => by rw [I.tuple_inj hy hq]; exact hx⟩, st', fun b hb => (hf b hb).1⟩⟩
  done := by
    intro X hP hw hK hc i pins s σ H E I hf st hg
    subst hP hw hK
    obtain ⟨xs, hq, hx⟩ := hg
    obtain ⟨its, rv, p, hz⟩ := I.tuple hq
    obtain ⟨f0, f1, f2, f3, f4, f5⟩ := hf it (by simp)
    have hl := rv.length
    exact wpAny_pyNext_tuple_end (I.ok.hd hc) st (show s.heap.IsTuple a its.toArray from p) (by simp; omega) fun h' eb => ⟨rfl, I.turned (t' := s.toks) (fun b o hb e => eb b o hb e) f0 f1 f3 f4 f5⟩
  self := fun _ _ _ _ _ st h => wpAny_pyIter_tupleiter st h
theorem turn_range {P : Program} {w : World} {K : PySem.W.Frag} {tg : Expr} (it : Addr) (lo : Int) (n : Nat) : Turn P w K tg (Itr lo n) [it] it (fun i h => IsRangeIter h it (lo + (i : Nat) * 1) ((n : Int) - (i : Nat)) 1) where
  mem := by simp
  obj := fun i h st b hb => by
    have e : b = it := by simpa using hb
    subst e
    exact ⟨_, st, fun v z => by
      have z' : Data.fields _ = Data.cell v := z
      cases z'⟩
  keep := fun i h h' st k => k it (by simp) _ st
  item := by
    intro X hP hw hK hc i pins s σ H E I hf st hg
    subst hP hw hK
    obtain ⟨f0, f1, f2, f3, f4, f5⟩ := hf it (by simp)
    have W := Walks.range (prog := X.prog) (w := X.w) (I.ok.hd hc) it lo 1 n
    refine W.item i s _ _ hg st fun v h' tk hv st' kk => ?_
    obtain ⟨t, rfl⟩ := hv
    have I1 : Inv X pins σ H { s with heap := h', toks := tk } := I.turned (fun b o hb e => kk b o (by simpa using hb) e) f0 f1 f3 f4 f5
    refine ⟨_, rfl, go_of (s := { s with heap := h', toks := tk }) (n := "range_iterator") st' rfl rfl (by decide) ⟨.int (lo + i), H, I1, ⟨t, ?_⟩, ⟨rfl, rfl⟩, st', fun b hb => (hf b hb).1⟩⟩
    rw [Int.mul_one]
  done := by
    intro X hP hw hK hc i pins s σ H E I hf st hg
    subst hP hw hK
    obtain ⟨f0, f1, f2, f3, f4, f5⟩ := hf it (by simp)
    exact wpAny_pyNext_range_end (I.ok.hd hc) st (by have : n ≤ i := hg; omega) fun h' eb => ⟨rfl, I.turned (t' := s.toks) (fun b o hb e => eb b o hb e) f0 f1 f3 f4 f5⟩
  self := fun _ _ _ _ _ st h => wpAny_pyIter_rangeiter st h
end L2

namespace L2
open PySem PySem.Spec PyProof.Rows
section
variable {X : Cx} {tg : Expr}
def iList (K : PySem.W.Frag) (tl : TE) : TI := fun σ H R => tl σ H fun x H1 => ∃ a, x = .ref a ∧ (∃ xs, SqL K H1 a xs) ∧ R (Itl K a) H1
def iTup (K : PySem.W.Frag) (tl : TE) : TI := fun σ H R => tl σ H fun x H1 => ∃ a, x = .ref a ∧ (∃ xs, SqT K H1 a xs) ∧ R (Itt K a) H1
theorem pi_list {l : Expr} {tl : TE} (hl : PE X l tl) : PI X tg l (iList X.K tl) := by
  intro pins s σ H R I h
  refine thn (hl pins s σ H _ I h) fun v s1 ⟨x, H1, I1, r1, q1⟩ => ?_
  obtain ⟨a, e, ⟨xs, hq⟩, q⟩ := q1
  subst e
  cases r1
  obtain ⟨its, rv, p, hz⟩ := I1.list hq
  refine wpAny_pyIter_list p.isList ?_
  refine ⟨s1.heap.objs.size, [s1.heap.objs.size], _, _, H1, rfl, I1.kept (t' := s1.toks) fun b o e => Heap.get?_push_of_some _ e, turn_list a _, ⟨_, Heap.get?_push_size _ rfl, rfl, rfl⟩, fun b hb => ?_, q⟩
  have e : b = s1.heap.objs.size := by simpa using hb
  subst e
  exact I1.fpOk (Nat.le_refl _) (I1.hok.fresh (Nat.le_refl _))
theorem pi_tup {l : Expr} {tl : TE} (hl : PE X l tl) : PI X tg l (iTup X.K tl) := by
  intro pins s σ H R I h
  refine thn (hl pins s σ H _ I h) fun v s1 ⟨x, H1, I1, r1, q1⟩ => ?_
  obtain ⟨a, e, ⟨xs, hq⟩, q⟩ := q1
  subst e
  cases r1
  obtain ⟨its, rv, p, hz⟩ := I1.tuple hq
  refine wpAny_pyIter_tuple (show s1.heap.IsTuple a its.toArray from p) ?_
  refine ⟨s1.heap.objs.size, [s1.heap.objs.size], _, _, H1, rfl, I1.kept (t' := s1.toks) fun b o e => Heap.get?_push_of_some _ e, turn_tuple a _, ⟨_, Heap.get?_push_size _ rfl, rfl, rfl⟩, fun b hb => ?_, q⟩
  have e : b = s1.heap.objs.size := by simpa using hb
  subst e
  exact I1.fpOk (Nat.le_refl _) (I1.hok.fresh (Nat.le_refl _))
/-- a range object just made, walked -/
theorem range_it {pins : List (Addr × Obj)} {σ : St} {H : Hp} {s : Shared} {R : It → Hp → Prop} {E : Value → Shared → Prop} {lo hi : Int} {t u v : Tok} {tk : Nat} (I : Inv X pins σ H s) (h1 : -(2 ^ 62) ≤ lo) (h2 : lo < 2 ^ 62) (h3 : -(2 ^ 62) ≤ hi) (h4 : hi < 2 ^ 62)
    (q : R (Itr lo (hi - lo).toNat) H) : wpAny (model X.prog X.w) X.A (pyIter (.ref s.heap.objs.size)) (PIE X pins σ tg R) E { s with heap := s.heap.push { cls := .type "range", data := .fields #[.int lo t, .int hi u, .int 1 v] }, toks := tk } := by
  refine wpAny_pyIter_range (IsRange.new ..) (small_one h1 h2 h3 h4) ?_
  have I1 : Inv X pins σ H { s with heap := s.heap.push { cls := .type "range", data := .fields #[.int lo t, .int hi u, .int 1 v] }, toks := tk } := I.kept fun b o e => Heap.get?_push_of_some _ e
  refine ⟨(s.heap.push { cls := .type "range", data := .fields #[.int lo t, .int hi u, .int 1 v] }).objs.size, [(s.heap.push { cls := .type "range", data := .fields #[.int lo t, .int hi u, .int 1 v] }).objs.size], _, _, H, rfl,
    I1.kept (t' := tk) fun b o e => Heap.get?_push_of_some _ e, turn_range _ lo (hi - lo).toNat, ?_, fun b hb => ?_, q⟩
  · have e1 : lo + ((0 : Nat) : Int) * 1 = lo := by simp
    have e2 : (((hi - lo).toNat : Nat) : Int) - ((0 : Nat) : Int) = Builtin.Range.rangeSize lo hi 1 := by rw [rangeSize_one]; split <;> omega
    show IsRangeIter _ _ (lo + ((0 : Nat) : Int) * 1) ((((hi - lo).toNat : Nat) : Int) - ((0 : Nat) : Int)) 1
    rw [e1, e2]
    exact Heap.get?_push_size _ rfl
  · have e : b = (s.heap.push { cls := .type "range", data := .fields #[.int lo t, .int hi u, .int 1 v] }).objs.size := by simpa using hb
    subst e
    exact I1.fpOk (Nat.le_refl _) (I1.hok.fresh (Nat.le_refl _))
def iRng1 (ta : TA) : TI := fun σ H R => ta σ H fun vs H1 => ∃ j : Int, vs = [.int j] ∧ -(2 ^ 62) ≤ j ∧ j < 2 ^ 62 ∧ R (Itr 0 j.toNat) H1
def iRng2 (ta : TA) : TI := fun σ H R => ta σ H fun vs H1 => ∃ i j : Int, vs = [.int i, .int j] ∧ (-(2 ^ 62) ≤ i ∧ i < 2 ^ 62 ∧ -(2 ^ 62) ≤ j ∧ j < 2 ^ 62) ∧ R (Itr i (j - i).toNat) H1
theorem pi_range1 {a : Expr} {ta : TA} {p pos : Pos} (hg : Gl X "range") (hm : X.mg "range" = none) (ha : PA X [a] ta) (hs : starEach [a] X.env = [(false, eval a X.env)] := by rfl) : PI X tg (.Call (.Name "range" p) [a] [] pos) (iRng1 ta) := by
  intro pins s σ H R I h
  refine Call_ (ld_blt I hg hm boot_range (PyProof.Rows.callWith_type1 (thn (ha pos pins s σ H _ I h) fun us s1 ⟨vs, H1, I1, r1, q1⟩ => ?_) hs rfl))
  obtain ⟨j, e, q1, q2, q⟩ := q1
  subst e
  cases r1 with
  | cons r rr =>
    cases rr
    obtain ⟨t, rfl⟩ := r
    exact call_range_1 (range_it I1 (by omega) (by omega) q1 q2 (by simpa using q))
theorem pi_range2 {a b : Expr} {ta : TA} {p pos : Pos} (hg : Gl X "range") (hm : X.mg "range" = none) (ha : PA X [a, b] ta) (hs : starEach [a, b] X.env = [(false, eval a X.env), (false, eval b X.env)] := by rfl) (hs2 : starEach [b] X.env = [(false, eval b X.env)] := by rfl) :
    PI X tg (.Call (.Name "range" p) [a, b] [] pos) (iRng2 ta) := by
  intro pins s σ H R I h
  refine Call_ (ld_blt I hg hm boot_range (PyProof.Rows.callWith_type1 (thn (ha pos pins s σ H _ I h) fun us s1 ⟨vs, H1, I1, r1, q1⟩ => ?_) (by rw [hs, hs2]) (by rw [hs2]; rfl)))
  obtain ⟨i, j, e, ⟨q1, q2, q3, q4⟩, q⟩ := q1
  subst e
  cases r1 with
  | cons r rr =>
    cases rr with
    | cons r' rr =>
      cases rr
      obtain ⟨t, rfl⟩ := r
      obtain ⟨t', rfl⟩ := r'
      exact call_range_2 (range_it I1 q1 q2 q3 q4 q)

/-! ### for -/
/-- W: the invariant by the turn and a measure; N: what the body is to reach -/
def tFor (wi : TI) (g : TG) (tb : TS) : TS := fun D σ H => wi σ H fun J H1 => ∃ W : Nat → Nat → St → Hp → Prop, (∃ m, W 0 m σ H1) ∧ ∀ i m σ H, W i m σ H →
  (J.stop i H ∧ D.nx σ H) ∨ (J.go i H ∧ ∃ N : St → Hp → Prop, (∀ σ' H', N σ' H' → ∃ m', m' < m ∧ W (i + 1) m' σ' H') ∧ ∀ x H', J.yld i H x H' → g x σ H' fun σ2 H2 => tb { D with nx := N, ct := N, bk := D.nx } σ2 H2)
/-- the records at fp as they stand -/
def pinsAt (fp : List Addr) (h : Heap) : List (Addr × Obj) := fp.filterMap fun b => (h.get? b).map fun o => (b, o)
theorem mem_pinsAt {fp : List Addr} {h : Heap} {b : Addr} {o : Obj} (hb : b ∈ fp) (e : h.get? b = some o) : (b, o) ∈ pinsAt fp h := List.mem_filterMap.mpr ⟨b, hb, by rw [e]; rfl⟩
theorem of_pinsAt {fp : List Addr} {h : Heap} {p : Addr × Obj} (hp : p ∈ pinsAt fp h) : p.1 ∈ fp ∧ h.get? p.1 = some p.2 := by
  obtain ⟨b, hb, e⟩ := List.mem_filterMap.mp hp
  cases q : h.get? b with
  | none => rw [q] at e; cases e
  | some o =>
    rw [q] at e
    have e' : (b, o) = p := Option.some.inj e
    subst e'
    exact ⟨hb, q⟩
theorem Inv.pinned {pins : List (Addr × Obj)} {σ : St} {H : Hp} {s : Shared} {fp : List Addr} (I : Inv X pins σ H s) (hf : ∀ b ∈ fp, FpOk X pins H b) (ho : ∀ b ∈ fp, ∃ o, s.heap.get? b = some o ∧ ∀ v, o.data ≠ .cell v) : Inv X (pins ++ pinsAt fp s.heap) σ H s :=
  I.pins_of fun p hp => (List.mem_append.mp hp).elim (fun z => I.pin p (List.mem_append_right _ z)) fun z => by
    obtain ⟨hb, e⟩ := of_pinsAt z
    obtain ⟨f0, f1, f2, _⟩ := hf p.1 hb
    obtain ⟨o, e', d⟩ := ho p.1 hb
    rw [e] at e'; cases e'
    exact ⟨e, f0, f1, f2, d⟩
theorem Inv.unpinned {pins pl : List (Addr × Obj)} {σ : St} {H : Hp} {s : Shared} (I : Inv X (pins ++ pl) σ H s) : Inv X pins σ H s := I.pins_of fun p hp => I.pin p (List.mem_append_right _ (List.mem_append_left _ hp))
theorem ps_for {iter : Expr} {body : List Stmt} {wi : TI} {g : TG} {tb : TS} {pos : Pos} (hp : PassesOwn (model X.prog X.w) X.A X.env X.xe) (hc : X.calm = true) (hi : PI X tg iter wi) (hg : PG X tg g) (hb : PSs X body tb)
    (hs : ∀ x, foldedSetIterable iter X.env x = pure x := by intro _; rfl) : PS X (.For tg iter body [] pos) (tFor wi g tb) := by
  intro pins s σ H D I h
  refine wpAny_For (thn (hi pins s σ H _ I h) fun v s1 h1 => thn h1 fun itv s2 h2 => ?_) hs
  obtain ⟨it, fp, tn, J, H2, e, I2, T, st2, f2, W, ⟨m0, w0⟩, turn⟩ := h2
  subst e
  -- what stays true of the iterator's objects through the loop
  have stat : ∀ {H' : Hp}, (∀ b ∈ fp, H' b = none) → ∀ b ∈ fp, FpOk X pins H' b := fun hn b hb => ⟨hn b hb, (f2 b hb).2⟩
  refine codeAny_forLoop_any (fun n s' => ∃ i σ' H', Inv X pins σ' H' s' ∧ tn i s'.heap ∧ (∀ b ∈ fp, H' b = none) ∧ W i n σ' H') ?_ m0 ⟨0, σ, H2, I2, st2, fun b hb => (f2 b hb).1, w0⟩
  rintro n s3 ⟨i, σ3, H3, I3, st3, fr3, w3⟩
  rcases turn i n σ3 H3 w3 with ⟨stop, qn⟩ | ⟨go, N, hN, step⟩
  · refine wpAny_passesOwn hp (thn (T.done X rfl rfl rfl hc i pins s3 σ3 H3 X.xe I3 (stat fr3) st3 stop) fun r s4 ⟨hr, I4⟩ => ?_)
    subst hr
    exact wpAny_execs_nil ⟨σ3, H3, I4, qn⟩
  · refine wpAny_passesOwn hp (thn (T.item X rfl rfl rfl hc i pins s3 σ3 H3 X.xe I3 (stat fr3) st3 go) fun r s4 ⟨u, hr, h4⟩ => ?_)
    subst hr
    refine wpAny_passesOwn hp (thn h4 fun _ s5 ⟨x, H5, I5, r5, y5, st5, fr5⟩ => ?_)
    have I5' := I5.pinned (stat fr5) (T.obj _ _ st5)
    refine wpAny_passesOwn hp (thn (hg _ s5 σ3 H5 x u _ I5' r5 (step x H5 y5)) fun _ s6 ⟨σ6, H6, I6, q6⟩ => ?_)
    refine wpAny_passesOwn hp (thn (hb _ s6 σ6 H6 _ I6 q6) fun f s7 q7 => ?_)
    have again : ∀ {σ7 : St} {H7 : Hp}, Inv X (pins ++ pinsAt fp s5.heap) σ7 H7 s7 → N σ7 H7 → ∃ m, m < n ∧ ∃ i σ' H', Inv X pins σ' H' s7 ∧ tn i s7.heap ∧ (∀ b ∈ fp, H' b = none) ∧ W i m σ' H' := fun {σ7 H7} I7 n7 => by
      obtain ⟨m', hm, w7⟩ := hN σ7 H7 n7
      refine ⟨m', hm, i + 1, σ7, H7, I7.unpinned, T.keep _ _ _ st5 fun b hb o e => (I7.pin (b, o) (List.mem_append_right _ (List.mem_append_right _ (mem_pinsAt hb e)))).1, fun b hb => ?_, w7⟩
      obtain ⟨o, e, d⟩ := T.obj _ _ st5 b hb
      exact (I7.pin (b, o) (List.mem_append_right _ (List.mem_append_right _ (mem_pinsAt hb e)))).2.1
    cases f with
    | next => obtain ⟨σ7, H7, I7, n7⟩ := q7; exact again I7 n7
    | cont => obtain ⟨σ7, H7, I7, n7⟩ := q7; exact again I7 n7
    | brk => obtain ⟨σ7, H7, I7, q7⟩ := q7; exact ⟨σ7, H7, I7.unpinned, q7⟩
    | ret v => obtain ⟨x7, σ7, H7, I7, r7, q7⟩ := q7; exact ⟨x7, σ7, H7, I7.unpinned, r7, q7⟩
end

/-! ### the forms one uses -/
/-- over a list that the body leaves as it is -/
theorem for_list {K : PySem.W.Frag} {a : Addr} {xs : List V} {g : TG} {tb : TS} {D : Ends} {σ : St} {H : Hp} (Pv : Nat → St → Hp → Prop) (h0 : Pv 0 σ H) (hl : ∀ i σ H, i ≤ xs.length → Pv i σ H → SqL K H a xs)
    (hs : ∀ i x σ H, xs[i]? = some x → Pv i σ H → g x σ H fun σ2 H2 => tb { D with nx := Pv (i + 1), ct := Pv (i + 1), bk := D.nx } σ2 H2) (hd : ∀ σ H, Pv xs.length σ H → D.nx σ H) :
    ∃ W : Nat → Nat → St → Hp → Prop, (∃ m, W 0 m σ H) ∧ ∀ i m σ H, W i m σ H →
      ((Itl K a).stop i H ∧ D.nx σ H) ∨ ((Itl K a).go i H ∧ ∃ N : St → Hp → Prop, (∀ σ' H', N σ' H' → ∃ m', m' < m ∧ W (i + 1) m' σ' H') ∧ ∀ x H', (Itl K a).yld i H x H' → g x σ H' fun σ2 H2 => tb { D with nx := N, ct := N, bk := D.nx } σ2 H2) := by
  refine ⟨fun i m σ H => m = xs.length - i ∧ i ≤ xs.length ∧ Pv i σ H, ⟨xs.length, by simp, Nat.zero_le _, h0⟩, ?_⟩
  rintro i m σ H ⟨rfl, hi, p⟩
  have q := hl i σ H hi p
  by_cases hlt : i < xs.length
  · refine .inr ⟨⟨xs, xs[i], q, by simp [hlt]⟩, Pv (i + 1), fun σ' H' p' => ⟨xs.length - (i + 1), by omega, rfl, hlt, p'⟩, fun x H' y => ?_⟩
    obtain ⟨e, y⟩ := y
    subst e
    exact hs i x σ _ (y xs q) p
  · have e : i = xs.length := by omega
    subst e
    exact .inl ⟨⟨xs, q, Nat.le_refl _⟩, hd σ H p⟩
theorem for_tup {K : PySem.W.Frag} {a : Addr} {xs : List V} {g : TG} {tb : TS} {D : Ends} {σ : St} {H : Hp} (Pv : Nat → St → Hp → Prop) (h0 : Pv 0 σ H) (hl : ∀ i σ H, i ≤ xs.length → Pv i σ H → SqT K H a xs)
    (hs : ∀ i x σ H, xs[i]? = some x → Pv i σ H → g x σ H fun σ2 H2 => tb { D with nx := Pv (i + 1), ct := Pv (i + 1), bk := D.nx } σ2 H2) (hd : ∀ σ H, Pv xs.length σ H → D.nx σ H) :
    ∃ W : Nat → Nat → St → Hp → Prop, (∃ m, W 0 m σ H) ∧ ∀ i m σ H, W i m σ H →
      ((Itt K a).stop i H ∧ D.nx σ H) ∨ ((Itt K a).go i H ∧ ∃ N : St → Hp → Prop, (∀ σ' H', N σ' H' → ∃ m', m' < m ∧ W (i + 1) m' σ' H') ∧ ∀ x H', (Itt K a).yld i H x H' → g x σ H' fun σ2 H2 => tb { D with nx := N, ct := N, bk := D.nx } σ2 H2) := by
  refine ⟨fun i m σ H => m = xs.length - i ∧ i ≤ xs.length ∧ Pv i σ H, ⟨xs.length, by simp, Nat.zero_le _, h0⟩, ?_⟩
  rintro i m σ H ⟨rfl, hi, p⟩
  have q := hl i σ H hi p
  by_cases hlt : i < xs.length
  · refine .inr ⟨⟨xs, xs[i], q, by simp [hlt]⟩, Pv (i + 1), fun σ' H' p' => ⟨xs.length - (i + 1), by omega, rfl, hlt, p'⟩, fun x H' y => ?_⟩
    obtain ⟨e, y⟩ := y
    subst e
    exact hs i x σ _ (y xs q) p
  · have e : i = xs.length := by omega
    subst e
    exact .inl ⟨⟨xs, q, Nat.le_refl _⟩, hd σ H p⟩
theorem for_range {lo : Int} {n : Nat} {g : TG} {tb : TS} {D : Ends} {σ : St} {H : Hp} (Pv : Nat → St → Hp → Prop) (h0 : Pv 0 σ H)
    (hs : ∀ i σ H, i < n → Pv i σ H → g (.int (lo + i)) σ H fun σ2 H2 => tb { D with nx := Pv (i + 1), ct := Pv (i + 1), bk := D.nx } σ2 H2) (hd : ∀ σ H, Pv n σ H → D.nx σ H) :
    ∃ W : Nat → Nat → St → Hp → Prop, (∃ m, W 0 m σ H) ∧ ∀ i m σ H, W i m σ H →
      ((Itr lo n).stop i H ∧ D.nx σ H) ∨ ((Itr lo n).go i H ∧ ∃ N : St → Hp → Prop, (∀ σ' H', N σ' H' → ∃ m', m' < m ∧ W (i + 1) m' σ' H') ∧ ∀ x H', (Itr lo n).yld i H x H' → g x σ H' fun σ2 H2 => tb { D with nx := N, ct := N, bk := D.nx } σ2 H2) := by
  refine ⟨fun i m σ H => m = n - i ∧ i ≤ n ∧ Pv i σ H, ⟨n, by simp, Nat.zero_le _, h0⟩, ?_⟩
  rintro i m σ H ⟨rfl, hi, p⟩
  by_cases hlt : i < n
  · refine .inr ⟨hlt, Pv (i + 1), fun σ' H' p' => ⟨n - (i + 1), by omega, rfl, hlt, p'⟩, fun x H' y => ?_⟩
    obtain ⟨e, y⟩ := y
    subst e y
    exact hs i σ _ hlt p
  · have e : i = n := by omega
    subst e
    exact .inl ⟨Nat.le_refl _, hd σ H p⟩
/-- while, by a word and a measure of the state -/
theorem while_by {c : TT} {tb : TS} {D : Ends} {σ : St} {H : Hp} (Pv : St → Hp → Prop) (μ : St → Hp → Nat) (h0 : Pv σ H)
    (hs : ∀ σ H, Pv σ H → c σ H fun b H1 => if b = true then tb { D with nx := fun σ' H' => Pv σ' H' ∧ μ σ' H' < μ σ H, ct := fun σ' H' => Pv σ' H' ∧ μ σ' H' < μ σ H, bk := D.nx } σ H1 else D.nx σ H1)
    (mono : ∀ σ H Q Q', (∀ b H1, Q b H1 → Q' b H1) → c σ H Q → c σ H Q') : tWhile c tb D σ H := by
  refine ⟨fun m σ H => m = μ σ H ∧ Pv σ H, ⟨_, rfl, h0⟩, ?_⟩
  rintro m σ H ⟨rfl, p⟩
  refine mono σ H _ _ (fun b H1 q => ?_) (hs σ H p)
  cases b with
  | true => exact ⟨_, fun σ' H' ⟨p', l⟩ => ⟨_, l, rfl, p'⟩, q⟩
  | false => exact q
end L2

namespace L2
open PySem PySem.Spec PyProof.Rows

abbrev R2 := V → V → Hp → VK → Prop
/-- a two-place operation on values: f is binaryOp op, inplaceOp op or compareOp op -/
def OpR (X : Cx) (f : Value → Value → Sem Value) (r : R2) : Prop :=
  ∀ (pins : List (Addr × Obj)) (s : Shared) (σ : St) (H : Hp) (x y : V) (v u : Value) (Q : VK), Inv X pins σ H s → RelV x v → RelV y u → r x y H Q →
    wpAny (model X.prog X.w) X.A (f v u) (EP X pins σ Q) X.xe s
/-- a one-place operation -/
def UnR (X : Cx) (f : Value → Sem Value) (r : V → Hp → VK → Prop) : Prop :=
  ∀ (pins : List (Addr × Obj)) (s : Shared) (σ : St) (H : Hp) (x : V) (v : Value) (Q : VK), Inv X pins σ H s → RelV x v → r x H Q →
    wpAny (model X.prog X.w) X.A (f v) (EP X pins σ Q) X.xe s
/-- a call of a value that is known (a builtin, a type) with values -/
def CallR (X : Cx) (f : Value) (r : List V → Hp → VK → Prop) : Prop :=
  ∀ (pins : List (Addr × Obj)) (s : Shared) (σ : St) (H : Hp) (xs : List V) (us : List Value) (Q : VK), Inv X pins σ H s → Vals xs us → r xs H Q →
    wpAny (model X.prog X.w) X.A (call f us) (EP X pins σ Q) X.xe s
/-- a value's truth -/
def TruR (X : Cx) (r : V → Hp → (Bool → Hp → Prop) → Prop) : Prop :=
  ∀ (pins : List (Addr × Obj)) (s : Shared) (σ : St) (H : Hp) (x : V) (v : Value) (Q : Bool → Hp → Prop), Inv X pins σ H s → RelV x v → r x H Q →
    wpAny (model X.prog X.w) X.A (truthy v) (TP X pins σ Q) X.xe s

def tOp (r : R2) (ta tb : TE) : TE := fun σ H Q => ta σ H fun x H1 => tb σ H1 fun y H2 => r x y H2 Q
def tUn (r : V → Hp → VK → Prop) (ta : TE) : TE := fun σ H Q => ta σ H fun x H1 => r x H1 Q
/-- ints in, under C, and a value out -/
def rI (C : Int → Int → Prop) (g : Int → Int → V) : R2 := fun x y H Q => ∃ i j, x = .int i ∧ y = .int j ∧ C i j ∧ Q (g i j) H
def rI0 (g : Int → Int → V) : R2 := fun x y H Q => ∃ i j, x = .int i ∧ y = .int j ∧ Q (g i j) H
def rU (g : Int → V) : V → Hp → VK → Prop := fun x H Q => ∃ i, x = .int i ∧ Q (g i) H

section
variable {X : Cx} {a b c : Expr} {ta tb tc : TE} {pos : Pos}

theorem binT (ha : PE X a ta) (hb : PE X b tb) {pins : List (Addr × Obj)} {s : Shared} {σ : St} {H : Hp} {R : V → V → Hp → Prop} (I : Inv X pins σ H s)
    (h : ta σ H fun x H1 => tb σ H1 fun y H2 => R x y H2) {Q : Value → Shared → Prop} {f : Value → Value → Sem Value}
    (hf : ∀ v u s2 x y H2, Inv X pins σ H2 s2 → RelV x v → RelV y u → R x y H2 → wpAny (model X.prog X.w) X.A (f v u) Q X.xe s2) :
    wpAny (model X.prog X.w) X.A (eval a X.env) (fun v s₁ => wpAny (model X.prog X.w) X.A (eval b X.env) (fun u s₂ => wpAny (model X.prog X.w) X.A (f v u) Q X.xe s₂) X.xe s₁) X.xe s := by
  refine thn (ha pins s σ H _ I h) fun v s1 ⟨x, H1, I1, r1, q1⟩ => ?_
  refine thn (hb pins s1 σ H1 _ I1 q1) fun u s2 ⟨y, H2, I2, r2, q2⟩ => ?_
  exact hf v u s2 x y H2 I2 r1 r2 q2

theorem pe_op {op : Operator} {r : R2} (ho : OpR X (binaryOp op) r) (ha : PE X a ta) (hb : PE X b tb) : PE X (.BinOp a op b pos) (tOp r ta tb) := by
  intro pins s σ H Q I h
  exact wpAny_BinOp (binT ha hb I h fun v u s2 x y H2 I2 rx ry q => ho pins s2 σ H2 x y v u Q I2 rx ry q)
theorem pe_un {op : UnaryOp} {r : V → Hp → VK → Prop} (ho : UnR X (unaryOp op) r) (ha : PE X a ta) : PE X (.UnaryOp op a pos) (tUn r ta) := by
  intro pins s σ H Q I h
  exact UnaryOp_ (thn (ha pins s σ H _ I h) fun v s1 ⟨x, H1, I1, r1, q1⟩ => ho pins s1 σ H1 x v Q I1 r1 q1)
/-- a op= e at a name: the name's slot i -/
theorem augR {op : Operator} {r : R2} (ho : OpR X (inplaceOp op) r) {pins : List (Addr × Obj)} {s : Shared} {σ : St} {H : Hp} {x y : V} {v u : Value} {Q : VK} (I : Inv X pins σ H s)
    (rx : RelV x v) (ry : RelV y u) (q : r x y H Q) : wpAny (model X.prog X.w) X.A (inplaceOp op v u) (EP X pins σ Q) X.xe s := ho pins s σ H x y v u Q I rx ry q

/-! ### ints -/
theorem opI {f : Value → Value → Sem Value} {C : Int → Int → Prop} {g : Int → Int → Int}
    (rule : ∀ (i j : Int) (t u : Tok) (s : Shared) (Q : Value → Shared → Prop) (E : Value → Shared → Prop), C i j → Q (.int (g i j) s.toks) { s with toks := s.toks + 1 } → wpAny (model X.prog X.w) X.A (f (.int i t) (.int j u)) Q E s) :
    OpR X f (rI C fun i j => .int (g i j)) := by
  intro pins s σ H x y v u Q I rx ry h
  obtain ⟨i, j, rfl, rfl, hc, q⟩ := h
  obtain ⟨t, rfl⟩ := rx
  obtain ⟨t', rfl⟩ := ry
  exact rule i j t t' s _ _ hc ⟨.int (g i j), H, I.tok _, ⟨_, rfl⟩, q⟩
theorem opI0 {f : Value → Value → Sem Value} {g : Int → Int → Int}
    (rule : ∀ (i j : Int) (t u : Tok) (s : Shared) (Q : Value → Shared → Prop) (E : Value → Shared → Prop), Q (.int (g i j) s.toks) { s with toks := s.toks + 1 } → wpAny (model X.prog X.w) X.A (f (.int i t) (.int j u)) Q E s) :
    OpR X f (rI0 fun i j => .int (g i j)) := by
  intro pins s σ H x y v u Q I rx ry h
  obtain ⟨i, j, rfl, rfl, q⟩ := h
  obtain ⟨t, rfl⟩ := rx
  obtain ⟨t', rfl⟩ := ry
  exact rule i j t t' s _ _ ⟨.int (g i j), H, I.tok _, ⟨_, rfl⟩, q⟩
theorem opB0 {f : Value → Value → Sem Value} {g : Int → Int → Bool}
    (rule : ∀ (i j : Int) (t u : Tok) (s : Shared) (Q : Value → Shared → Prop) (E : Value → Shared → Prop), Q (.bool (g i j)) s → wpAny (model X.prog X.w) X.A (f (.int i t) (.int j u)) Q E s) :
    OpR X f (rI0 fun i j => .bl (g i j)) := by
  intro pins s σ H x y v u Q I rx ry h
  obtain ⟨i, j, rfl, rfl, q⟩ := h
  obtain ⟨t, rfl⟩ := rx
  obtain ⟨t', rfl⟩ := ry
  exact rule i j t t' s _ _ ⟨.bl (g i j), H, I, rfl, q⟩

def CDiv (i j : Int) : Prop := 0 < j ∧ j < 1073741824
def CDivN (i j : Int) : Prop := j ≠ 0 ∧ j.natAbs < 1073741824
def CPow (i j : Int) : Prop := 0 ≤ j ∧ j ≤ 1000000 ∧ i.natAbs < 2 ^ 64
def CMul (i j : Int) : Prop := (-(2 ^ 64) < i ∧ i < 2 ^ 64) ∨ (-(2 ^ 64) < j ∧ j < 2 ^ 64)
theorem CMul.ok {i j : Int} (h : CMul i j) : IntMulOk i j := by
  rcases h with ⟨h1, h2⟩ | ⟨h1, h2⟩
  · exact .of_left (intBits_le_64 h1 h2)
  · exact .of_right (intBits_le_64 h1 h2)
theorem two_pow_nn (k : Nat) : (0 : Int) ≤ 2 ^ k := by
  rw [two_pow_cast]
  exact Int.natCast_nonneg _

theorem op_add : OpR X (binaryOp .Add) (rI0 fun i j => .int (i + j)) := opI0 fun _ _ _ _ _ _ _ q => add_int q
theorem op_sub : OpR X (binaryOp .Sub) (rI0 fun i j => .int (i - j)) := opI0 fun _ _ _ _ _ _ _ q => sub_int q
theorem op_mul : OpR X (binaryOp .Mult) (rI CMul fun i j => .int (i * j)) := opI fun _ _ _ _ _ _ _ hc q => mul_int q hc.ok
/-- // by a positive divisor -/
theorem op_fdiv : OpR X (binaryOp .FloorDiv) (rI CDiv fun i j => .int (i / j)) := opI fun i j _ _ _ _ _ hc q => by
  have h1 : (0 : Int) < j := hc.1
  have h2 : j < 1073741824 := hc.2
  exact floordiv_int (by omega) (by rw [Int.fdiv_eq_ediv_of_nonneg i (by omega)]; exact q) (.inl (PyProof.noPylong_small (by omega)))
theorem op_fdivN : OpR X (binaryOp .FloorDiv) (rI CDivN fun i j => .int (i.fdiv j)) := opI fun _ _ _ _ _ _ _ hc q => floordiv_int hc.1 q (.inl (PyProof.noPylong_small hc.2))
/-- % by a positive divisor of any size -/
theorem op_mod : OpR X (binaryOp .Mod) (rI (fun _ j => 0 < j) fun i j => .int (i % j)) := opI fun i j _ _ _ _ _ hc q => by
  have h1 : (0 : Int) < j := hc
  exact mod_int' (by omega) (by rw [Int.fmod_eq_emod_of_nonneg i (by omega)]; exact q)
theorem op_modN : OpR X (binaryOp .Mod) (rI (fun _ j => j ≠ 0) fun i j => .int (i.fmod j)) := opI fun _ _ _ _ _ _ _ hc q => mod_int' hc q
theorem op_pow : OpR X (binaryOp .Pow) (rI CPow fun i j => .int (i ^ j.toNat)) := opI fun _ _ _ _ _ _ _ hc q => pow_int_small hc.1 hc.2.1 hc.2.2 q
theorem op_shl : OpR X (binaryOp .LShift) (rI CPow fun i j => .int (i * 2 ^ j.toNat)) := opI fun _ _ _ _ _ _ _ hc q => lshift_int_small hc.1 hc.2.1 hc.2.2 q
theorem op_shr : OpR X (binaryOp .RShift) (rI (fun _ j => 0 ≤ j) fun i j => .int (i / 2 ^ j.toNat)) := opI fun i j _ _ _ _ _ hc q =>
  rshift_int hc (by rw [Int.fdiv_eq_ediv_of_nonneg i (two_pow_nn _)]; exact q)
theorem op_and : OpR X (binaryOp .BitAnd) (rI0 fun i j => .int (Builtin.bitAnd i j)) := opI0 fun _ _ _ _ _ _ _ q => and_int q
theorem op_or : OpR X (binaryOp .BitOr) (rI0 fun i j => .int (Builtin.bitOr i j)) := opI0 fun _ _ _ _ _ _ _ q => or_int q
theorem op_xor : OpR X (binaryOp .BitXor) (rI0 fun i j => .int (Builtin.bitXor i j)) := opI0 fun _ _ _ _ _ _ _ q => xor_int q

theorem iop_add : OpR X (inplaceOp .Add) (rI0 fun i j => .int (i + j)) := opI0 fun _ _ _ _ _ _ _ q => iadd_int q
theorem iop_sub : OpR X (inplaceOp .Sub) (rI0 fun i j => .int (i - j)) := opI0 fun _ _ _ _ _ _ _ q => isub_int q
theorem iop_mul : OpR X (inplaceOp .Mult) (rI CMul fun i j => .int (i * j)) := opI fun _ _ _ _ _ _ _ hc q => imul_int q hc.ok
theorem iop_fdiv : OpR X (inplaceOp .FloorDiv) (rI CDiv fun i j => .int (i / j)) := opI fun i j _ _ _ _ _ hc q => by
  have h1 : (0 : Int) < j := hc.1
  have h2 : j < 1073741824 := hc.2
  exact ifloordiv_int (by omega) (by rw [Int.fdiv_eq_ediv_of_nonneg i (by omega)]; exact q) (.inl (PyProof.noPylong_small (by omega)))
theorem iop_mod : OpR X (inplaceOp .Mod) (rI (fun _ j => 0 < j) fun i j => .int (i % j)) := opI fun i j _ _ _ _ _ hc q => by
  have h1 : (0 : Int) < j := hc
  exact imod_int (by omega) (by rw [Int.fmod_eq_emod_of_nonneg i (by omega)]; exact q)
theorem iop_shl : OpR X (inplaceOp .LShift) (rI CPow fun i j => .int (i * 2 ^ j.toNat)) := opI fun _ _ _ _ _ _ _ hc q => ilshift_int_small hc.1 hc.2.1 hc.2.2 q
theorem iop_shr : OpR X (inplaceOp .RShift) (rI (fun _ j => 0 ≤ j) fun i j => .int (i / 2 ^ j.toNat)) := opI fun i j _ _ _ _ _ hc q =>
  irshift_int hc (by rw [Int.fdiv_eq_ediv_of_nonneg i (two_pow_nn _)]; exact q)
theorem iop_and : OpR X (inplaceOp .BitAnd) (rI0 fun i j => .int (Builtin.bitAnd i j)) := opI0 fun _ _ _ _ _ _ _ q => iand_int q
theorem iop_or : OpR X (inplaceOp .BitOr) (rI0 fun i j => .int (Builtin.bitOr i j)) := opI0 fun _ _ _ _ _ _ _ q => ior_int q
theorem iop_xor : OpR X (inplaceOp .BitXor) (rI0 fun i j => .int (Builtin.bitXor i j)) := opI0 fun _ _ _ _ _ _ _ q => ixor_int q

theorem unI {f : Value → Sem Value} {g : Int → Int}
    (rule : ∀ (i : Int) (t : Tok) (s : Shared) (Q : Value → Shared → Prop) (E : Value → Shared → Prop), Q (.int (g i) s.toks) { s with toks := s.toks + 1 } → wpAny (model X.prog X.w) X.A (f (.int i t)) Q E s) :
    UnR X f (rU fun i => .int (g i)) := by
  intro pins s σ H x v Q I rx h
  obtain ⟨i, rfl, q⟩ := h
  obtain ⟨t, rfl⟩ := rx
  exact rule i t s _ _ ⟨.int (g i), H, I.tok _, ⟨_, rfl⟩, q⟩
theorem un_neg : UnR X (unaryOp .USub) (rU fun i => .int (-i)) := unI fun _ _ _ _ _ q => neg_int q
theorem un_inv : UnR X (unaryOp .Invert) (rU fun i => .int (Builtin.bitNot i)) := unI fun _ _ _ _ _ q => invert_int q

/-! ### bools among ints: n += (a < b) -/
theorem op_add_ib : OpR X (binaryOp .Add) (fun x y H Q => ∃ i k, x = .int i ∧ y = .bl k ∧ Q (.int (i + b2i k)) H) := by
  intro pins s σ H x y v u Q I rx ry h
  obtain ⟨i, k, rfl, rfl, q⟩ := h
  obtain ⟨t, rfl⟩ := rx
  cases ry
  exact add_int_bool ⟨.int (i + b2i k), H, I.tok _, ⟨_, rfl⟩, q⟩
end

/-! ### comparisons -/
/-- the scalars that == tells apart as data does -/
def scal : V → V → Bool
  | .non, .non => true | .non, .int _ => true | .int _, .non => true | .non, .bl _ => true | .bl _, .non => true | .non, .str _ => true | .str _, .non => true
  | .int _, .int _ => true | .bl _, .bl _ => true | .str _, .str _ => true | .byt _, .byt _ => true
  | .int _, .str _ => true | .str _, .int _ => true | .bl _, .str _ => true | .str _, .bl _ => true
  | _, _ => false
def rEq : R2 := fun x y H Q => scal x y = true ∧ Q (.bl (decide (x = y))) H
def rNe : R2 := fun x y H Q => scal x y = true ∧ Q (.bl (!decide (x = y))) H

theorem dec_int {i j : Int} : decide (V.int i = V.int j) = (i == j) := by
  rw [Bool.eq_iff_iff]
  simp
theorem dec_bl {i j : Bool} : decide (V.bl i = V.bl j) = (i == j) := by
  rw [Bool.eq_iff_iff]
  simp
theorem dec_str {i j : Str} : decide (V.str i = V.str j) = (i == j) := by
  rw [Bool.eq_iff_iff]
  simp
theorem dec_byt {i j : Array UInt8} : decide (V.byt i = V.byt j) = (i.toList == j.toList) := by
  rw [Bool.eq_iff_iff]
  cases i
  cases j
  simp

section
variable {X : Cx} {a b c : Expr} {ta tb tc : TE} {pos : Pos}
theorem fin_bl {pins : List (Addr × Obj)} {σ : St} {H : Hp} {s : Shared} {Q : VK} {k k' : Bool} (I : Inv X pins σ H s) (q : Q (.bl k) H) (e : k = k') : EP X pins σ Q (.bool k') s := by
  subst e
  exact ⟨.bl k, H, I, rfl, q⟩
theorem op_eq : OpR X (compareOp .Eq) rEq := by
  intro pins s σ H x y v u Q I rx ry h
  obtain ⟨hs, q⟩ := h
  cases x with
  | non =>
    cases rx
    cases y with
    | non => cases ry; exact PySem.EqNone.eq_none_none (fin_bl I q (by simp))
    | bl j => cases ry; exact PySem.EqNone.eq_none_bool (fin_bl I q (by simp))
    | int j => obtain ⟨t', rfl⟩ := ry; exact PySem.EqNone.eq_none_int (fin_bl I q (by simp))
    | str j => obtain ⟨t', rfl⟩ := ry; exact PySem.EqNone.eq_none_str (fin_bl I q (by simp))
    | _ => exact absurd (show false = true from hs) Bool.false_ne_true
  | bl i =>
    cases rx
    cases y with
    | non => cases ry; exact PySem.EqNone.eq_bool_none (fin_bl I q (by simp))
    | bl j => cases ry; exact eq_bool (fin_bl I q dec_bl)
    | str j => obtain ⟨t', rfl⟩ := ry; exact PySem.EqMixed.eq_bool_str (fin_bl I q (by simp))
    | _ => exact absurd (show false = true from hs) Bool.false_ne_true
  | int i =>
    obtain ⟨t, rfl⟩ := rx
    cases y with
    | non => cases ry; exact PySem.EqNone.eq_int_none (fin_bl I q (by simp))
    | int j => obtain ⟨t', rfl⟩ := ry; exact eq_int (fin_bl I q dec_int)
    | str j => obtain ⟨t', rfl⟩ := ry; exact PySem.EqMixed.eq_int_str (fin_bl I q (by simp))
    | _ => exact absurd (show false = true from hs) Bool.false_ne_true
  | str i =>
    obtain ⟨t, rfl⟩ := rx
    cases y with
    | non => cases ry; exact PySem.EqNone.eq_str_none (fin_bl I q (by simp))
    | bl j => cases ry; exact PySem.EqMixed.eq_str_bool (fin_bl I q (by simp))
    | int j => obtain ⟨t', rfl⟩ := ry; exact PySem.EqMixed.eq_str_int (fin_bl I q (by simp))
    | str j => obtain ⟨t', rfl⟩ := ry; exact eq_str (fin_bl I q dec_str)
    | _ => exact absurd (show false = true from hs) Bool.false_ne_true
  | byt i =>
    obtain ⟨t, rfl⟩ := rx
    cases y with
    | byt j => obtain ⟨t', rfl⟩ := ry; exact PySem.W.eq_bytes (fin_bl I q dec_byt)
    | _ => exact absurd (show false = true from hs) Bool.false_ne_true
  | _ => cases y <;> exact absurd (show false = true from hs) Bool.false_ne_true
theorem op_ne : OpR X (compareOp .NotEq) rNe := by
  intro pins s σ H x y v u Q I rx ry h
  obtain ⟨hs, q⟩ := h
  cases x with
  | non =>
    cases rx
    cases y with
    | non => cases ry; exact PySem.EqNone.ne_none_none (fin_bl I q (by simp))
    | bl j => cases ry; exact PySem.EqNone.ne_none_bool (fin_bl I q (by simp))
    | int j => obtain ⟨t', rfl⟩ := ry; exact PySem.EqNone.ne_none_int (fin_bl I q (by simp))
    | str j => obtain ⟨t', rfl⟩ := ry; exact PySem.EqNone.ne_none_str (fin_bl I q (by simp))
    | _ => exact absurd (show false = true from hs) Bool.false_ne_true
  | bl i =>
    cases rx
    cases y with
    | non => cases ry; exact PySem.EqNone.ne_bool_none (fin_bl I q (by simp))
    | bl j => cases ry; exact ne_bool (fin_bl I q (congrArg not dec_bl))
    | str j => obtain ⟨t', rfl⟩ := ry; exact PySem.EqMixed.ne_bool_str (fin_bl I q (by simp))
    | _ => exact absurd (show false = true from hs) Bool.false_ne_true
  | int i =>
    obtain ⟨t, rfl⟩ := rx
    cases y with
    | non => cases ry; exact PySem.EqNone.ne_int_none (fin_bl I q (by simp))
    | int j => obtain ⟨t', rfl⟩ := ry; exact ne_int (fin_bl I q (congrArg not dec_int))
    | str j => obtain ⟨t', rfl⟩ := ry; exact PySem.EqMixed.ne_int_str (fin_bl I q (by simp))
    | _ => exact absurd (show false = true from hs) Bool.false_ne_true
  | str i =>
    obtain ⟨t, rfl⟩ := rx
    cases y with
    | non => cases ry; exact PySem.EqNone.ne_str_none (fin_bl I q (by simp))
    | bl j => cases ry; exact PySem.EqMixed.ne_str_bool (fin_bl I q (by simp))
    | int j => obtain ⟨t', rfl⟩ := ry; exact PySem.EqMixed.ne_str_int (fin_bl I q (by simp))
    | str j => obtain ⟨t', rfl⟩ := ry; exact ne_str (fin_bl I q (congrArg not dec_str))
    | _ => exact absurd (show false = true from hs) Bool.false_ne_true
  | byt i =>
    obtain ⟨t, rfl⟩ := rx
    cases y with
    | byt j => obtain ⟨t', rfl⟩ := ry; exact PySem.W.ne_bytes (fin_bl I q (congrArg not dec_byt))
    | _ => exact absurd (show false = true from hs) Bool.false_ne_true
  | _ => cases y <;> exact absurd (show false = true from hs) Bool.false_ne_true

theorem op_lt : OpR X (compareOp .Lt) (rI0 fun i j => .bl (decide (i < j))) := opB0 fun _ _ _ _ _ _ _ q => lt_int q
theorem op_le : OpR X (compareOp .LtE) (rI0 fun i j => .bl (decide (i ≤ j))) := opB0 fun _ _ _ _ _ _ _ q => le_int q
theorem op_gt : OpR X (compareOp .Gt) (rI0 fun i j => .bl (decide (j < i))) := opB0 fun _ _ _ _ _ _ _ q => gt_int q
theorem op_ge : OpR X (compareOp .GtE) (rI0 fun i j => .bl (decide (j ≤ i))) := opB0 fun _ _ _ _ _ _ _ q => ge_int q
theorem op_lt_str : OpR X (compareOp .Lt) (fun x y H Q => ∃ i j, x = .str i ∧ y = .str j ∧ Q (.bl (decide (i.cps.toList < j.cps.toList))) H) := by
  intro pins s σ H x y v u Q I rx ry h
  obtain ⟨i, j, rfl, rfl, q⟩ := h
  obtain ⟨t, rfl⟩ := rx
  obtain ⟨t', rfl⟩ := ry
  exact lt_str (fin_bl I q rfl)
/-- the one string within the other -/
theorem op_in_str : OpR X (compareOp .In) (fun x y H Q => ∃ i j, x = .str i ∧ y = .str j ∧ Q (.bl (!(Builtin.Str.occurrences j i 0 j.length 1).isEmpty)) H) := by
  intro pins s σ H x y v u Q I rx ry h
  obtain ⟨i, j, rfl, rfl, q⟩ := h
  obtain ⟨t, rfl⟩ := rx
  obtain ⟨t', rfl⟩ := ry
  exact in_str (fin_bl I q rfl)

/-- is None, is not None: the right side a value none -/
theorem op_isN : OpR X (compareOp .Is) (fun x y H Q => y = .non ∧ Q (.bl (decide (x = .non))) H) := by
  intro pins s σ H x y v u Q I rx ry h
  obtain ⟨rfl, q⟩ := h
  cases ry
  refine is_none_gen (fin_bl I q ?_)
  cases x <;> first
    | (cases rx; rfl)
    | (obtain ⟨t, rfl⟩ := rx; rfl)
theorem op_notN : OpR X (compareOp .IsNot) (fun x y H Q => y = .non ∧ Q (.bl (!decide (x = .non))) H) := by
  intro pins s σ H x y v u Q I rx ry h
  obtain ⟨rfl, q⟩ := h
  cases ry
  refine isnot_none_gen (fin_bl I q ?_)
  cases x <;> first
    | (cases rx; rfl)
    | (obtain ⟨t, rfl⟩ := rx; rfl)

theorem op_notin_str : OpR X (compareOp .NotIn) (fun x y H Q => ∃ i j, x = .str i ∧ y = .str j ∧ Q (.bl (!(!(Builtin.Str.occurrences j i 0 j.length 1).isEmpty))) H) := by
  intro pins s σ H x y v u Q I rx ry h
  obtain ⟨i, j, rfl, rfl, q⟩ := h
  obtain ⟨t, rfl⟩ := rx
  obtain ⟨t', rfl⟩ := ry
  exact notIn_str (fin_bl I q rfl)
/-- is, is not of two objects that are tracked lists or instances -/
def isObj : HO → Bool
  | .lst _ => true
  | .ins _ _ _ => true
  | _ => false
theorem obj_there {pins : List (Addr × Obj)} {s : Shared} {σ : St} {H : Hp} {a : Addr} {o : HO} (I : Inv X pins σ H s) (h : H a = some o) (p : isObj o = true) : ∃ ob, s.heap.get? a = some ob ∧ ob.cls ≠ .type "tuple" := by
  cases o with
  | lst xs =>
    obtain ⟨_, its, n, _, e⟩ : xs.length ≤ sizeLine ∧ ∃ (its : List Value) (n : Nat), Vals xs its ∧ s.heap.get? a = some { cls := .type "list", data := .seq its.toArray n } := I.hok a _ h
    exact ⟨_, e, (by show Value.type "list" ≠ .type "tuple"; decide +kernel)⟩
  | ins C dx fs =>
    have x := I.hok a _ h
    obtain ⟨_, _, _, e, _⟩ := x
    exact ⟨_, e, (by show Value.ref C ≠ .type "tuple"; exact fun z => by cases z)⟩
  | _ => exact absurd (show false = true from p) Bool.false_ne_true
theorem op_is_ref : OpR X (compareOp .Is) (fun x y H Q => ∃ a b oa ob, x = .ref a ∧ y = .ref b ∧ H a = some oa ∧ isObj oa = true ∧ H b = some ob ∧ isObj ob = true ∧ Q (.bl (decide (a = b))) H) := by
  intro pins s σ H x y v u Q I rx ry h
  obtain ⟨a, b, oa, ob, rfl, rfl, ha, pa, hb, pb, q⟩ := h
  cases rx
  cases ry
  obtain ⟨o1, e1, n1⟩ := obj_there I ha pa
  obtain ⟨o2, e2, _⟩ := obj_there I hb pb
  by_cases z : a = b
  · subst z
    exact wpAny_is_ref_self (fin_bl I q (by simp))
  · exact wpAny_is_ref_other z e1 e2 n1 (fin_bl I q (by simp [z]))
theorem op_isnot_ref : OpR X (compareOp .IsNot) (fun x y H Q => ∃ a b oa ob, x = .ref a ∧ y = .ref b ∧ H a = some oa ∧ isObj oa = true ∧ H b = some ob ∧ isObj ob = true ∧ Q (.bl (!decide (a = b))) H) := by
  intro pins s σ H x y v u Q I rx ry h
  obtain ⟨a, b, oa, ob, rfl, rfl, ha, pa, hb, pb, q⟩ := h
  cases rx
  cases ry
  obtain ⟨o1, e1, n1⟩ := obj_there I ha pa
  obtain ⟨o2, e2, _⟩ := obj_there I hb pb
  by_cases z : a = b
  · subst z
    exact wpAny_isNot_ref_self (fin_bl I q (by simp))
  · exact wpAny_isNot_ref_other z e1 e2 n1 (fin_bl I q (by simp [z]))

/-- two rules for one operation: by cases -/
theorem OpR.or {f : Value → Value → Sem Value} {r r' : R2} (h : OpR X f r) (h' : OpR X f r') : OpR X f (fun x y H Q => r x y H Q ∨ r' x y H Q) := by
  intro pins s σ H x y v u Q I rx ry q
  rcases q with q | q
  · exact h pins s σ H x y v u Q I rx ry q
  · exact h' pins s σ H x y v u Q I rx ry q

theorem nomark (b : Expr) {op : CmpOp} (h : op ≠ .In := by decide) (h2 : op ≠ .NotIn := by decide) : behindInMarks op b = false := by
  have e1 : (op == CmpOp.In) = false := by cases op <;> first | rfl | exact absurd rfl h
  have e2 : (op == CmpOp.NotIn) = false := by cases op <;> first | rfl | exact absurd rfl h2
  cases b <;> simp [behindInMarks, e1, e2]
/-- a comparison as a value; hm: nomark b, or (for in, not in) by with_unfolding_all rfl -/
theorem pe_cmpR {op : CmpOp} {r : R2} (ho : OpR X (compareOp op) r) (ha : PE X a ta) (hb : PE X b tb) (hm : behindInMarks op b = false) : PE X (.Compare a [op] [b] pos) (tOp r ta tb) := by
  intro pins s σ H Q I h
  exact wpAny_Compare1 (binT ha hb I h fun v u s2 x y H2 I2 rx ry q => ho pins s2 σ H2 x y v u Q I2 rx ry q) hm
/-- a reading of a value as a test -/
def tTest (t : TE) : TT := fun σ H Q => t σ H fun x H' => ∃ k, x = .bl k ∧ Q k H'
theorem pt_cmpR {op : CmpOp} {r : R2} (ho : OpR X (compareOp op) r) (ha : PE X a ta) (hb : PE X b tb) (hm : behindInMarks op b = false) : PT X (.Compare a [op] [b] pos) (tTest (tOp r ta tb)) := by
  intro pins s σ H Q I h
  refine wpAny_isTrue_Compare1 (thn (ha pins s σ H _ I h) fun v s1 ⟨x, H1, I1, r1, q1⟩ => thn (hb pins s1 σ H1 _ I1 q1) fun u s2 ⟨y, H2, I2, r2, q2⟩ =>
    thn (ho pins s2 σ H2 x y v u _ I2 r1 r2 q2) fun c s3 ⟨z, H3, I3, r3, k, e, q3⟩ => ?_) hm
  subst e
  cases r3
  exact wpAny_truthy_bool ⟨H3, I3, q3⟩
/-- a op1 b op2 c -/
def tChain (r r' : R2) (ta tb tc : TE) : TE := fun σ H Q => ta σ H fun x H1 => tb σ H1 fun y H2 => r x y H2 fun z H3 => ∃ k, z = .bl k ∧
  (if k = true then tc σ H3 fun w' H4 => r' y w' H4 Q else Q (.bl false) H3)
theorem pe_chain {op op' : CmpOp} {r r' : R2} (ho : OpR X (compareOp op) r) (ho' : OpR X (compareOp op') r') (ha : PE X a ta) (hb : PE X b tb) (hc : PE X c tc)
    (hm : lastMarks [op, op'] [b, c] = false := by with_unfolding_all rfl) : PE X (.Compare a [op, op'] [b, c] pos) (tChain r r' ta tb tc) := by
  intro pins s σ H Q I h
  refine Compare_chain (thn (ha pins s σ H _ I h) fun v s1 ⟨x, H1, I1, r1, q1⟩ => chain_link (thn (hb pins s1 σ H1 _ I1 q1) fun u s2 ⟨y, H2, I2, r2, q2⟩ =>
    thn (ho pins s2 σ H2 x y v u _ I2 r1 r2 q2) fun d s3 ⟨z, H3, I3, r3, k, e, q3⟩ => ?_)) hm
  subst e
  cases r3
  refine wpAny_truthy_bool ?_
  cases k with
  | false => exact ite_ff ⟨.bl false, H3, I3, rfl, q3⟩
  | true => exact ite_tt (chain_last (thn (hc pins s3 σ H3 _ I3 q3) fun w' s4 ⟨z', H4, I4, r4, q4⟩ => ho' pins s4 σ H4 y z' u w' Q I4 r2 r4 q4))
theorem pt_chain {op op' : CmpOp} {r r' : R2} (ho : OpR X (compareOp op) r) (ho' : OpR X (compareOp op') r') (ha : PE X a ta) (hb : PE X b tb) (hc : PE X c tc)
    (hm : lastMarks [op, op'] [b, c] = false := by with_unfolding_all rfl) : PT X (.Compare a [op, op'] [b, c] pos) (tTest (tChain r r' ta tb tc)) := by
  intro pins s σ H Q I h
  refine isTrue_chain (thn (ha pins s σ H _ I h) fun v s1 ⟨x, H1, I1, r1, q1⟩ => test_link (thn (hb pins s1 σ H1 _ I1 q1) fun u s2 ⟨y, H2, I2, r2, q2⟩ =>
    thn (ho pins s2 σ H2 x y v u _ I2 r1 r2 q2) fun d s3 ⟨z, H3, I3, r3, k, e, q3⟩ => ?_)) hm
  subst e
  cases r3
  refine wpAny_truthy_bool ?_
  cases k with
  | false =>
    obtain ⟨k', e', q'⟩ := q3
    cases e'
    exact ite_ff ⟨H3, I3, q'⟩
  | true =>
    refine ite_tt (test_last (thn (hc pins s3 σ H3 _ I3 q3) fun w' s4 ⟨z', H4, I4, r4, q4⟩ => thn (ho' pins s4 σ H4 y z' u w' _ I4 r2 r4 q4) fun d' s5 ⟨z2, H5, I5, r5, k2, e2, q5⟩ => ?_))
    subst e2
    cases r5
    exact wpAny_truthy_bool ⟨H5, I5, q5⟩

/-! ### truth -/
/-- a value's truth by the abstract heap -/
def TruV (K : PySem.W.Frag) (x : V) (H : Hp) (k : Bool) : Prop :=
  match x with
  | .non => k = false
  | .bl b => k = b
  | .int i => k = (i != 0)
  | .str y => y.length ≤ sizeLine ∧ k = ((y.length : Int) != 0)
  | .byt y => y.size ≤ sizeLine ∧ k = ((y.size : Int) != 0)
  | .ref p => (∃ xs, SqL K H p xs ∧ k = !xs.isEmpty) ∨ (∃ xs, SqT K H p xs ∧ k = !xs.isEmpty) ∨ ∃ kvs, H p = some (.dK kvs) ∧ k = !kvs.isEmpty
  | _ => False
theorem isEmpty_kv {κ : Type} {kvs : List (κ × V)} {vs : List (κ × Value)} (r : KV kvs vs) : (!vs.isEmpty) = !kvs.isEmpty := by
  cases r <;> rfl
theorem isEmpty_of {xs : List V} {its : List Value} (r : Vals xs its) : (!its.toArray.isEmpty) = !xs.isEmpty := by
  cases r <;> simp
theorem line63 : (sizeLine : Nat) < 2 ^ 63 := by rw [sizeLine_eq]; decide
theorem tru_ok : TruR X (fun x H Q => ∃ k, TruV X.K x H k ∧ Q k H) := by
  intro pins s σ H x v Q I rx h
  obtain ⟨k, e, q⟩ := h
  have hl := line63
  have hs : sizeLine = 16777216 := sizeLine_eq
  cases x with
  | non =>
    cases rx
    have e' : k = false := e
    subst e'
    exact truthy_none ⟨H, I, q⟩
  | bl b =>
    cases rx
    have e' : k = b := e
    subst e'
    exact wpAny_truthy_bool ⟨H, I, q⟩
  | int i =>
    obtain ⟨t, rfl⟩ := rx
    have e' : k = (i != 0) := e
    subst e'
    exact PySem.P.truthy_int ⟨H, I, q⟩
  | str y =>
    obtain ⟨t, rfl⟩ := rx
    obtain ⟨hy, e'⟩ : y.length ≤ sizeLine ∧ k = ((y.length : Int) != 0) := e
    subst e'
    exact PySem.P.truthy_str (by omega) ⟨H, I.tok _, q⟩
  | byt y =>
    obtain ⟨t, rfl⟩ := rx
    obtain ⟨hy, e'⟩ : y.size ≤ sizeLine ∧ k = ((y.size : Int) != 0) := e
    subst e'
    exact PySem.W.truthy_bytes (by omega) ⟨H, I.tok _, q⟩
  | ref p =>
    cases rx
    have e' : (∃ xs, SqL X.K H p xs ∧ k = !xs.isEmpty) ∨ (∃ xs, SqT X.K H p xs ∧ k = !xs.isEmpty) ∨ ∃ kvs, H p = some (.dK kvs) ∧ k = !kvs.isEmpty := e
    rcases e' with ⟨xs, hx, e'⟩ | ⟨xs, hx, e'⟩ | ⟨kvs, hx, e'⟩
    · subst e'
      obtain ⟨its, r, pl, hz⟩ := I.list hx
      have hlen := r.length
      exact wpAny_truthy_list pl.isList (by simp only [List.size_toArray]; omega) ⟨H, I.tok _, by rw [isEmpty_of r]; exact q⟩
    · subst e'
      obtain ⟨its, r, pl, hz⟩ := I.tuple hx
      have hlen := r.length
      exact truthy_tuple pl (by simp only [List.size_toArray]; omega) ⟨H, I.tok _, by rw [isEmpty_of r]; exact q⟩
    · subst e'
      obtain ⟨hz, hS, vs, r, m⟩ : kvs.length ≤ sizeLine ∧ (p == sysModules) = false ∧ ∃ vs, KV kvs vs ∧ s.heap.DictOf (mixKind X.prog X.w) p vs := I.hok p _ hx
      have hlen : kvs.length = vs.length := Paired.length r
      exact wpAny_truthy_dict hS m (by omega) ⟨H, I.tok _, by rw [isEmpty_kv r]; exact q⟩
  | _ => exact (show False from e).elim
/-- any expression whose test is its value's truth (a name, a call, a subscript, a field ..: he by fun _ => rfl) -/
theorem pt_truth (ha : PE X a ta) (he : ∀ whole, isTrue a X.env whole = (do let v ← whole; standAt a.pos; holding [v] (truthy v))) :
    PT X a (fun σ H Q => ta σ H fun x H' => ∃ k, TruV X.K x H' k ∧ Q k H') := by
  intro pins s σ H Q I h
  exact isTrue_plain (thn (ha pins s σ H _ I h) fun v s1 ⟨x, H1, I1, r1, q1⟩ => tru_ok pins s1 σ H1 x v Q I1 r1 q1) (he _)

/-! ### strs and bytes -/
theorem pe_byt {x : List UInt8} {k : Nat} : PE X (.Constant (.bytes x) k pos) (fun _ H Q => Q (.byt x.toArray) H) := fun _ _ _ H _ I h => PySem.W.Constant_bytes ⟨.byt x.toArray, H, I.tok _, ⟨_, rfl⟩, h⟩
theorem op_add_str : OpR X (binaryOp .Add) (fun x y H Q => ∃ i j, x = .str i ∧ y = .str j ∧ i.length + j.length ≤ sizeLine ∧ Q (.str (i ++ j)) H) := by
  intro pins s σ H x y v u Q I rx ry h
  obtain ⟨i, j, rfl, rfl, hz, q⟩ := h
  obtain ⟨t, rfl⟩ := rx
  obtain ⟨t', rfl⟩ := ry
  exact add_str (fun t' tk => ⟨.str (i ++ j), H, I.tok _, ⟨_, rfl⟩, q⟩) hz
theorem iop_add_str : OpR X (inplaceOp .Add) (fun x y H Q => ∃ i j, x = .str i ∧ y = .str j ∧ i.length + j.length ≤ sizeLine ∧ Q (.str (i ++ j)) H) := by
  intro pins s σ H x y v u Q I rx ry h
  obtain ⟨i, j, rfl, rfl, hz, q⟩ := h
  obtain ⟨t, rfl⟩ := rx
  obtain ⟨t', rfl⟩ := ry
  exact iadd_str (fun t' tk => ⟨.str (i ++ j), H, I.tok _, ⟨_, rfl⟩, q⟩) hz
theorem op_add_byt : OpR X (binaryOp .Add) (fun x y H Q => ∃ i j, x = .byt i ∧ y = .byt j ∧ i.size + j.size ≤ 16777216 ∧ Q (.byt (i ++ j)) H) := by
  intro pins s σ H x y v u Q I rx ry h
  obtain ⟨i, j, rfl, rfl, hz, q⟩ := h
  obtain ⟨t, rfl⟩ := rx
  obtain ⟨t', rfl⟩ := ry
  exact PySem.W.KBy.add_bytes hz (fun t' tk => ⟨.byt (i ++ j), H, I.tok _, ⟨_, rfl⟩, q⟩)

def PlainIxT (b : Expr) : Prop := ∀ o i, subscripted b false o i = operate [o, i] (getItem o i)
/-- s[i], 0 ≤ i < len -/
theorem pe_item_str (ha : PE X a ta) (hb : PE X b tb) (hs : PlainIxT b) :
    PE X (.Subscript a b pos) (tOp (fun x y H Q => ∃ z i c, x = .str z ∧ y = .int i ∧ 0 ≤ i ∧ i < 2 ^ 63 ∧ i < z.length ∧ z.cps[i.toNat]? = some c ∧ Q (.str ⟨#[c]⟩) H) ta tb) := by
  intro pins s σ H Q I h
  refine Subscript_ (binT ha hb I h fun v u s2 x y H2 I2 rx ry q => ?_)
  obtain ⟨z, i, c, rfl, rfl, h0, h63, h1, hc, q⟩ := q
  obtain ⟨t, rfl⟩ := rx
  obtain ⟨t', rfl⟩ := ry
  have e : seqIndex? i z.length = some i.toNat := PySem.StrLaws.seqIndex_nonneg h0 h1
  exact tail_any (typeIs_str s2 z t) slot_str_getitem.lookup (getItem_str (c := c) (by
    have e1 : decide (i < -(2 ^ 63 : Int)) = false := decide_eq_false (by omega)
    have e2 : decide (i ≥ 2 ^ 63) = false := decide_eq_false (by omega)
    rw [e1, e2] <;> rfl) (by rw [e]; exact hc) ⟨.str ⟨#[c]⟩, H2, I2.tok _, ⟨_, rfl⟩, q⟩) (hs _ _)
/-- b[i], 0 ≤ i < len -/
theorem pe_item_byt (ha : PE X a ta) (hb : PE X b tb) (hs : PlainIxT b) :
    PE X (.Subscript a b pos) (tOp (fun x y H Q => ∃ (z : List UInt8) (i : Int), x = .byt z.toArray ∧ y = .int i ∧ z.length ≤ sizeLine ∧ 0 ≤ i ∧ i < z.length ∧ Q (.int ((z.getD i.toNat 0).toNat : Nat)) H) ta tb) := by
  intro pins s σ H Q I h
  refine Subscript_ (binT ha hb I h fun v u s2 x y H2 I2 rx ry q => ?_)
  obtain ⟨z, i, rfl, rfl, hz, h0, h1, q⟩ := q
  obtain ⟨t, rfl⟩ := rx
  obtain ⟨t', rfl⟩ := ry
  have hl : sizeLine = 16777216 := sizeLine_eq
  exact tail_any (PySem.W.typeIs_bytes s2 z.toArray t) PySem.W.FB.slot_bytes_getitem.lookup (PySem.W.getItem_bytes (by omega) h0 h1 ⟨.int ((z.getD i.toNat 0).toNat : Nat), H2, I2.tok _, ⟨_, rfl⟩, q⟩) (hs _ _)

/-! ### scalar builtins, by CallR -/
theorem vals1 {x : V} {us : List Value} (r : Vals [x] us) : ∃ u, us = [u] ∧ RelV x u := by
  cases r with
  | cons r1 r2 => cases r2; exact ⟨_, rfl, r1⟩
theorem vals2 {x y : V} {us : List Value} (r : Vals [x, y] us) : ∃ u w', us = [u, w'] ∧ RelV x u ∧ RelV y w' := by
  cases r with
  | cons r1 r2 =>
    cases r2 with
    | cons r3 r4 => cases r4; exact ⟨_, _, rfl, r1, r3⟩
theorem call_abs : CallR X (.builtin "abs") (fun xs H Q => ∃ i, xs = [.int i] ∧ Q (.int (if i < 0 then -i else i)) H) := by
  intro pins s σ H xs us Q I r h
  obtain ⟨i, rfl, q⟩ := h
  obtain ⟨u, rfl, t, rfl⟩ := vals1 r
  exact call_abs_int fun u tk => ⟨.int (if i < 0 then -i else i), H, I.tok _, ⟨_, rfl⟩, q⟩
theorem call_max2 (hc : X.calm = true) : CallR X (.builtin "max") (fun xs H Q => ∃ i j, xs = [.int i, .int j] ∧ Q (.int (if j > i then j else i)) H) := by
  intro pins s σ H xs us Q I r h
  obtain ⟨i, j, rfl, q⟩ := h
  obtain ⟨u, w', rfl, ⟨t, rfl⟩, ⟨t', rfl⟩⟩ := vals2 r
  refine max_two_ints (I.ok.hd hc) fun h' tk k => ⟨_, H, I.kept k, ?_, q⟩
  by_cases hj : j > i
  · rw [if_pos hj, if_pos hj]; exact ⟨_, rfl⟩
  · rw [if_neg hj, if_neg hj]; exact ⟨_, rfl⟩
theorem call_min2 (hc : X.calm = true) : CallR X (.builtin "min") (fun xs H Q => ∃ i j, xs = [.int i, .int j] ∧ Q (.int (if j < i then j else i)) H) := by
  intro pins s σ H xs us Q I r h
  obtain ⟨i, j, rfl, q⟩ := h
  obtain ⟨u, w', rfl, ⟨t, rfl⟩, ⟨t', rfl⟩⟩ := vals2 r
  refine min_two_ints (I.ok.hd hc) fun h' tk k => ⟨_, H, I.kept k, ?_, q⟩
  by_cases hj : j < i
  · rw [if_pos hj, if_pos hj]; exact ⟨_, rfl⟩
  · rw [if_neg hj, if_neg hj]; exact ⟨_, rfl⟩
theorem call_int1 : CallR X (.type "int") (fun xs H Q => (∃ i, xs = [.int i] ∧ Q (.int i) H) ∨ ∃ k, xs = [.bl k] ∧ Q (.int (if k then 1 else 0)) H) := by
  intro pins s σ H xs us Q I r h
  rcases h with ⟨i, rfl, q⟩ | ⟨k, rfl, q⟩
  · obtain ⟨u, rfl, t, rfl⟩ := vals1 r
    exact call_int_int ⟨.int i, H, I, ⟨_, rfl⟩, q⟩
  · obtain ⟨u, rfl, r1⟩ := vals1 r
    cases r1
    exact call_int_bool ⟨.int (if k then 1 else 0), H, I.tok _, ⟨_, rfl⟩, q⟩
theorem call_bool1 : CallR X (.type "bool") (fun xs H Q => (∃ i, xs = [.int i] ∧ Q (.bl (i != 0)) H) ∨ ∃ k, xs = [.bl k] ∧ Q (.bl k) H) := by
  intro pins s σ H xs us Q I r h
  rcases h with ⟨i, rfl, q⟩ | ⟨k, rfl, q⟩
  · obtain ⟨u, rfl, t, rfl⟩ := vals1 r
    exact call_bool_int ⟨.bl (i != 0), H, I, rfl, q⟩
  · obtain ⟨u, rfl, r1⟩ := vals1 r
    cases r1
    exact call_bool_bool ⟨.bl k, H, I, rfl, q⟩
theorem call_str_int : CallR X (.type "str") (fun xs H Q => ∃ i, xs = [.int i] ∧ i.natAbs.log2 < 1920 ∧ Q (.str (toString i)) H) := by
  intro pins s σ H xs us Q I r h
  obtain ⟨i, rfl, hz, q⟩ := h
  obtain ⟨u, rfl, t, rfl⟩ := vals1 r
  exact PySem.P.str_of_int hz ⟨.str _, H, I.tok _, ⟨_, rfl⟩, q⟩
theorem call_ord : CallR X (.builtin "ord") (fun xs H Q => ∃ x, xs = [.str x] ∧ x.length = 1 ∧ Q (.int (x.cps.getD 0 0 : Nat)) H) := by
  intro pins s σ H xs us Q I r h
  obtain ⟨x, rfl, hz, q⟩ := h
  obtain ⟨u, rfl, t, rfl⟩ := vals1 r
  exact ord_of_one hz ⟨.int _, H, I.tok _, ⟨_, rfl⟩, q⟩
theorem call_chr : CallR X (.builtin "chr") (fun xs H Q => ∃ i, xs = [.int i] ∧ 0 ≤ i ∧ i ≤ 1114111 ∧ Q (.str ⟨#[i.toNat]⟩) H) := by
  intro pins s σ H xs us Q I r h
  obtain ⟨i, rfl, h0, h1, q⟩ := h
  obtain ⟨u, rfl, t, rfl⟩ := vals1 r
  exact chr_of_range h0 h1 ⟨.str _, H, I.tok _, ⟨_, rfl⟩, q⟩
/-- len of a str, a bytes, a list, a tuple -/
def LenV (K : PySem.W.Frag) (x : V) (H : Hp) (n : Nat) : Prop :=
  match x with
  | .str y => y.length ≤ sizeLine ∧ n = y.length
  | .byt y => y.size ≤ sizeLine ∧ n = y.size
  | .ref p => (∃ xs, SqL K H p xs ∧ n = xs.length) ∨ ∃ xs, SqT K H p xs ∧ n = xs.length
  | _ => False
theorem call_len : CallR X (.builtin "len") (fun xs H Q => ∃ x n, xs = [x] ∧ LenV X.K x H n ∧ Q (.int n) H) := by
  intro pins s σ H xs us Q I r h
  obtain ⟨x, n, rfl, e, q⟩ := h
  obtain ⟨u, rfl, rx⟩ := vals1 r
  have hl := line63
  have hs : sizeLine = 16777216 := sizeLine_eq
  cases x with
  | str y =>
    obtain ⟨t, rfl⟩ := rx
    obtain ⟨hy, e'⟩ : y.length ≤ sizeLine ∧ n = y.length := e
    subst e'
    exact len_str (by omega) ⟨.int _, H, I.tok _, ⟨_, rfl⟩, q⟩
  | byt y =>
    obtain ⟨t, rfl⟩ := rx
    obtain ⟨hy, e'⟩ : y.size ≤ sizeLine ∧ n = y.size := e
    subst e'
    exact PySem.W.len_bytes (by omega) ⟨.int _, H, I.tok _, ⟨_, rfl⟩, q⟩
  | ref p =>
    cases rx
    have e' : (∃ xs, SqL X.K H p xs ∧ n = xs.length) ∨ ∃ xs, SqT X.K H p xs ∧ n = xs.length := e
    rcases e' with ⟨xs, hx, e'⟩ | ⟨xs, hx, e'⟩
    · subst e'
      obtain ⟨its, r', pl, hz⟩ := I.list hx
      have hlen := r'.length
      exact Calls.call_len_list pl.isList (by simp only [List.size_toArray]; omega) ⟨.int xs.length, H, I.tok _, ⟨_, by simp only [List.size_toArray]; rw [hlen]⟩, q⟩
    · subst e'
      obtain ⟨its, r', pl, hz⟩ := I.tuple hx
      have hlen := r'.length
      exact len_tuple pl (by simp only [List.size_toArray]; omega) ⟨.int xs.length, H, I.tok _, ⟨_, by simp only [List.size_toArray]; rw [hlen]⟩, q⟩
  | _ => exact (show False from e).elim
/-- divmod: a new tuple -/
theorem call_divmod : CallR X (.builtin "divmod") (fun xs H Q => ∃ i j, xs = [.int i, .int j] ∧ CDiv i j ∧ ∀ p, H p = none → Q (.ref p) (upd H p (.tup [.int (i / j), .int (i % j)]))) := by
  intro pins s σ H xs us Q I r h
  obtain ⟨i, j, rfl, ⟨h1, h2⟩, q⟩ := h
  obtain ⟨u, w', rfl, ⟨t, rfl⟩, ⟨t', rfl⟩⟩ := vals2 r
  refine divmod_int (by omega) ?_ (.inl (PyProof.noPylong_small (by omega)))
  rw [Int.fdiv_eq_ediv_of_nonneg i (by omega), Int.fmod_eq_emod_of_nonneg i (by omega)]
  have hn : H s.heap.objs.size = none := I.hok.fresh (Nat.le_refl _)
  refine ⟨.ref s.heap.objs.size, _, ?_, rfl, q _ hn⟩
  refine I.laid (fun b o e => Heap.get?_push_of_some _ e) (Nat.le_refl _) ⟨by simp only [List.length_cons, List.length_nil]; rw [sizeLine_eq]; decide, [.int (i / j) s.toks, .int (i % j) (s.toks + 1)], .cons ⟨_, rfl⟩ (.cons ⟨_, rfl⟩ .nil), ?_⟩
  exact ⟨_, Heap.get?_push_size s.heap rfl, rfl, 0, rfl⟩
end
end L2

namespace L2
open PySem PySem.Spec PyProof.Rows

/-! ### an instance, its attributes a map -/
structure ObjM (h : Heap) (x dx C : Addr) (mA : Str → Option Value) : Prop where
  obj : h.get? x = some (PySem.W.instObj C dx)
  ns : h.Ns1 dx mA
  ne : dx ≠ x

theorem lookIn_ns {h : Heap} {dx : Addr} {mA : Str → Option Value} (n : h.Ns1 dx mA) : ∃ od, h.get? dx = some od ∧ ∀ name, PySem.W.lookIn name od = some (mA name) := by
  obtain ⟨o, es, ep, ho, hd, hk, _, hm⟩ := n
  refine ⟨o, ho, fun name => ?_⟩
  have e := hm name
  unfold nsFind findBy at e
  rw [← Array.find?_toList] at e
  unfold PySem.W.lookIn
  rw [hd]
  dsimp only
  split
  · rename_i y q
    rw [q] at e
    exact congrArg some e
  · rename_i q
    rw [q] at e
    have a : es.toList.any (·.refKey) = false := by
      rw [List.any_eq_false]
      intro y hy
      obtain ⟨z, t, hkey⟩ := hk y (Array.mem_toList_iff.mp hy)
      simp [DictEntry.refKey, hkey]
    have a' : ¬ es.toList.any (·.refKey) = true := by rw [a]; exact Bool.false_ne_true
    rw [if_neg a']
    exact congrArg some e

theorem ObjM.look {h : Heap} {x dx C : Addr} {mA : Str → Option Value} (I : ObjM h x dx C mA) : ∃ od, PySem.W.InstAt h x (PySem.W.instObj C dx) C (some od) ∧ ∀ name, PySem.W.lookIn name od = some (mA name) :=
  let ⟨od, ho, hl⟩ := lookIn_ns I.ns
  ⟨od, ⟨I.obj, rfl, rfl, ho⟩, hl⟩

section
variable {prog : Program} {w : World} {A : Around} {E : Value → Shared → Prop} {s : Shared} {K : PySem.W.Frag} {x dx C f : Addr} {mA : Str → Option Value} {name : Str} {v : Value}

theorem get_map {expr : Bool} {Q : Value → Shared → Prop} (X : K.In s.heap) (I : ObjM s.heap x dx C mA) (hg : PySem.W.plainGet K C name = true) (hh : PySem.W.hasDictIn K C = true)
    (ha : PySem.W.findIn K (.ref C) name = some none) (hv : mA name = some v) (hv' : PySem.W.handedIn v = true) (h : Q v { s with toks := s.toks + 1 }) :
    wpAny (model prog w) A (getAttr (.ref x) name expr) Q E s := by
  obtain ⟨od, J, hl⟩ := I.look
  exact PySem.W.get_value X J (PySem.W.plainGet_of hg).1 (PySem.W.findObj_own hh ha rfl (by rw [hl, hv])) hv' h

theorem get_const {expr : Bool} {a : Value} {Q : Value → Shared → Prop} (X : K.In s.heap) (I : ObjM s.heap x dx C mA) (hg : PySem.W.plainGet K C name = true) (hh : PySem.W.hasDictIn K C = true)
    (ha : PySem.W.findIn K (.ref C) name = some (some a)) (hn : PySem.W.specialIn K a "__get__" = some none) (hc : PySem.W.copiedNames.contains name = false) (hv : mA name = none) (hv' : PySem.W.handedIn a = true)
    (h : Q a { s with toks := s.toks + 1 }) : wpAny (model prog w) A (getAttr (.ref x) name expr) Q E s := by
  obtain ⟨od, J, hl⟩ := I.look
  exact PySem.W.get_value X J (PySem.W.plainGet_of hg).1 (PySem.W.findObj_cls hh ha hn hv' hc (by rw [hl, hv])) hv' h

theorem get_meth {pl : Sem Bool} {Q : Value × List Value → Shared → Prop} (X : K.In s.heap) (I : ObjM s.heap x dx C mA) (hg : PySem.W.plainGet K C name = true)
    (hf : PySem.W.findIn K (.ref C) name = some (some (.ref f))) (ht : PySem.W.isFn K (.ref f) = true) (hv : mA name = none) (h : Q (.ref f, [.ref x]) s) :
    wpAny (model prog w) A (getMethod (.ref x) name pl) Q E s := by
  obtain ⟨od, J, hl⟩ := I.look
  exact PySem.W.method_fn X J (PySem.W.plainGet_of hg).1 (PySem.W.plainGet_of hg).2 hf (beq_iff_eq.mp ht) (by show (PySem.W.lookIn name od).map (·.isSome) = some false; rw [hl, hv]; rfl) h

theorem set_map {ns : List Str} {Q : Unit → Shared → Prop} (X : K.In s.heap) (I : ObjM s.heap x dx C mA)
    (hs : PySem.W.findIn K (.ref C) "__setattr__" = some (some (.builtin "object.__setattr__"))) (hp : PySem.W.plainOver K C = true) (ht : PySem.W.takerIn K C name = some none) (hh : PySem.W.hasDictIn K C = true)
    (hw : PySem.Within mA ns) (hsz : ns.length ≤ sizeLine)
    (h : ∀ h', ObjM h' x dx C (fun y => if y = name then some v else mA y) → Heap.SameBut dx s.heap h' → Q () { s with heap := h', toks := s.toks + 2 }) :
    wpAny (model prog w) A (setAttr (.ref x) name v) Q E s := by
  obtain ⟨od, J, hl⟩ := I.look
  refine PySem.W.set_plain X J hs (PySem.W.osa_open (s := { s with toks := s.toks + 1 }) (r := none) X J hp ht fun b => ?_)
  obtain ⟨cd, hc, hd'⟩ := PySem.W.any_some hh
  have hx : s.heap.get? x = some ⟨.ref C, some dx, .plain, #[]⟩ := I.obj
  refine wpAny_bind (wpAny_pure (wpAny_bind (wpAny_bind (wpAny_loadPart hx (wpAny_bind (PySem.W.Looks.here (s := { s with toks := s.toks + 1 }) (PySem.W.looks_clsIn X hc) ?_))))))
  rw [hd']
  refine wpAny_pure (a := some dx) (wpAny_bind (wpAny_pure (wpAny_bind ?_)))
  refine wpAny_nsSet1 (s := { s with toks := s.toks + 1 }) I.ns fun h' hn2 hs2 => ?_
  obtain ⟨oD, esD, epD, hoD, hdD, hcD⟩ := hn2.count (PySem.Within.cons name v hw)
  refine wpAny_bind (wpAny_lookBehind hoD (by rw [hdD]; exact pastItsLine_dict (Nat.le_trans hcD (by rw [List.length_cons]; omega))) ?_)
  exact wpAny_pure (h _ ⟨(hs2.2 _ (Ne.symm I.ne)).trans I.obj, hn2, I.ne⟩ hs2)

/-- C(..): the dict at the heap's end, the instance behind it; then its __init__ -/
theorem make_map {R : Result → Shared → Prop} {vs : List Value} {kw : List (Str × Value)} (X : K.In s.heap) (hm : PySem.W.makesIn K C = true)
    (hi : PySem.W.findIn K (.ref C) "__init__" = some (some (.ref f))) (hf : PySem.W.typeIn K (.ref f) = some (.type "function"))
    (h : codeAny (model prog w) (A.under (.builtin "type.__call__" ⟨.ref C :: vs, kw⟩)) (.call (.ref f) ⟨.ref (s.heap.objs.size + 1) :: vs, kw⟩) (PySem.W.InitBack (s.heap.objs.size + 1) R)
      { s with heap := (s.heap.push PySem.W.emptyDict).push (PySem.W.instObj C s.heap.objs.size) }) :
    codeAny (model prog w) A (.call (.ref C) ⟨vs, kw⟩) R s := by
  obtain ⟨hh, g, d, t, os⟩ := s
  exact PySem.W.make_core (PySem.W.makes_of X hm) (PySem.W.looks_findIn X hi) (fun self => PySem.W.bind_fn X self hf) (.inl rfl) h
/-- C() where there is no __init__ but object's -/
theorem make_map0 {R : Result → Shared → Prop} (X : K.In s.heap) (hm : PySem.W.makesIn K C = true)
    (hi : PySem.W.findIn K (.ref C) "__init__" = some (some (.builtin "object.__init__")))
    (hb : ∀ self, PySem.W.Looks (model prog w) s.heap (bindSpecial (.builtin "object.__init__") self) (.builtin "object.__init__", [self]))
    (h : codeAny (model prog w) (A.under (.builtin "type.__call__" ⟨[.ref C], []⟩)) (.call (.builtin "object.__init__") ⟨[.ref (s.heap.objs.size + 1)], []⟩) (PySem.W.InitBack (s.heap.objs.size + 1) R)
      { s with heap := (s.heap.push PySem.W.emptyDict).push (PySem.W.instObj C s.heap.objs.size) }) :
    codeAny (model prog w) A (.call (.ref C) ⟨[], []⟩) R s := by
  obtain ⟨hh, g, d, t, os⟩ := s
  exact PySem.W.make_core (PySem.W.makes_of X hm) (PySem.W.looks_findIn X hi) hb (.inr ⟨rfl, rfl⟩) h
end

/-! ### the attributes as a list of pairs -/
def putF (f : Str) (v : V) : List (Str × V) → List (Str × V)
  | [] => [(f, v)]
  | (g, x) :: r => if g = f then (g, v) :: r else (g, x) :: putF f v r
theorem lookup_putF (f g : Str) (v : V) : ∀ fs : List (Str × V), (putF f v fs).lookup g = if g = f then some v else fs.lookup g
  | [] => by
    show List.lookup g [(f, v)] = _
    by_cases h : g = f
    · have hb : (g == f) = true := beq_iff_eq.mpr h
      simp only [List.lookup, hb, if_pos h]
    · have hb : (g == f) = false := beq_eq_false_iff_ne.mpr h
      simp only [List.lookup, hb, if_neg h]
  | (k, x) :: r => by
    have ih := lookup_putF f g v r
    rw [show putF f v ((k, x) :: r) = (if k = f then (k, v) :: r else (k, x) :: putF f v r) from rfl]
    by_cases hk : k = f
    · rw [if_pos hk]
      by_cases h : g = k
      · have hb : (g == k) = true := beq_iff_eq.mpr h
        simp only [List.lookup, hb, if_pos (h.trans hk)]
      · have hb : (g == k) = false := beq_eq_false_iff_ne.mpr h
        simp only [List.lookup, hb, if_neg (fun e : g = f => h (e.trans hk.symm))]
    · rw [if_neg hk]
      by_cases h : g = k
      · have hb : (g == k) = true := beq_iff_eq.mpr h
        simp only [List.lookup, hb, if_neg (fun e : g = f => hk (h.symm.trans e))]
      · have hb : (g == k) = false := beq_eq_false_iff_ne.mpr h
        simp only [List.lookup, hb]
        exact ih
theorem keys_putF (f : Str) (v : V) : ∀ fs : List (Str × V), f ∈ (putF f v fs).map (·.1) ∧ ∀ g, g ∈ fs.map (·.1) → g ∈ (putF f v fs).map (·.1)
  | [] => ⟨by simp [putF], fun g h => by simp at h⟩
  | (k, x) :: r => by
    obtain ⟨i1, i2⟩ := keys_putF f v r
    rw [show putF f v ((k, x) :: r) = (if k = f then (k, v) :: r else (k, x) :: putF f v r) from rfl]
    by_cases hk : k = f
    · rw [if_pos hk]
      subst hk
      exact ⟨by simp, fun g h => by simpa using h⟩
    · rw [if_neg hk]
      refine ⟨?_, fun g h => ?_⟩
      · rw [List.map_cons]
        exact List.mem_cons_of_mem _ i1
      · rw [List.map_cons] at h ⊢
        rcases List.mem_cons.mp h with e | e
        · exact List.mem_cons.mpr (.inl e)
        · exact List.mem_cons_of_mem _ (i2 g e)
theorem length_putF (f : Str) (v : V) : ∀ fs : List (Str × V), (putF f v fs).length ≤ fs.length + 1
  | [] => by simp [putF]
  | (k, x) :: r => by
    have ih := length_putF f v r
    rw [show putF f v ((k, x) :: r) = (if k = f then (k, v) :: r else (k, x) :: putF f v r) from rfl]
    by_cases hk : k = f
    · rw [if_pos hk, List.length_cons, List.length_cons]; omega
    · rw [if_neg hk, List.length_cons, List.length_cons]; omega

theorem RelO.some_of {v : V} {o : Option Value} (r : RelO (some v) o) : ∃ u, o = some u ∧ RelV v u := by
  cases o with
  | none => exact (show False from r).elim
  | some u => exact ⟨u, rfl, r⟩
theorem RelO.none_of {o : Option Value} (r : RelO none o) : o = none := by
  cases o with
  | none => rfl
  | some u => exact (show False from r).elim
theorem handed_of {v : V} {u : Value} (r : RelV v u) : PySem.W.handedIn u = true := by
  cases v with
  | non => cases (show u = Value.none from r); rfl
  | bl b => cases (show u = Value.bool b from r); rfl
  | int i => obtain ⟨t, e⟩ := (show ∃ t, u = Value.int i t from r); cases e; rfl
  | str x => obtain ⟨t, e⟩ := (show ∃ t, u = Value.str x t from r); cases e; rfl
  | byt b => obtain ⟨t, e⟩ := (show ∃ t, u = Value.bytes b t from r); cases e; rfl
  | flt b => obtain ⟨t, e⟩ := (show ∃ t, u = Value.float b t from r); cases e; rfl
  | ref a => cases (show u = Value.ref a from r); rfl
  | ty n => cases (show u = Value.type n from r); rfl

section
variable {P : Program} {w : World} {H H' : Hp} {h h' : Heap} {a C dx : Addr} {fs fs' : List (Str × V)}
theorem ins_get (hok : HOk P w H h) (e : H a = some (.ins C dx fs)) : ∃ mA, ObjM h a dx C mA ∧ (∀ f, RelO (fs.lookup f) (mA f)) ∧ PySem.Within mA (fs.map (·.1)) ∧ fs.length ≤ 1000 ∧ H dx = some (.own a) := by
  obtain ⟨d, z, ne, ob, mA, n, r, q⟩ := (show ObjOk P w H h a (.ins C dx fs) from hok a _ e)
  exact ⟨mA, ⟨ob, n, ne⟩, r, q, z, d⟩
end

/-! ### what of the text a class must have -/
structure Cls (K : PySem.W.Frag) (C : Addr) : Prop where
  pg : PySem.W.plainGet K C Str.empty = true
  hd : PySem.W.hasDictIn K C = true
  po : PySem.W.plainOver K C = true
  sa : PySem.W.findIn K (.ref C) "__setattr__" = some (some (.builtin "object.__setattr__"))
theorem Cls.get {K : PySem.W.Frag} {C : Addr} (c : Cls K C) (f : Str) : PySem.W.plainGet K C f = true := c.pg
/-- no class of it has the name -/
def NoAttr (K : PySem.W.Frag) (C : Addr) (f : Str) : Prop := PySem.W.findIn K (.ref C) f = some none
theorem NoAttr.taker {K : PySem.W.Frag} {C : Addr} {f : Str} (n : NoAttr K C f) : PySem.W.takerIn K C f = some none := by
  unfold PySem.W.takerIn
  rw [show PySem.W.findIn K (.ref C) f = some none from n]
  rfl
/-- a constant of the class -/
structure Con (K : PySem.W.Frag) (C : Addr) (f : Str) (v : V) (u : Value) : Prop where
  at_ : PySem.W.findIn K (.ref C) f = some (some u)
  rel : RelV v u
  get : PySem.W.specialIn K u "__get__" = some none
  cp : PySem.W.copiedNames.contains f = false
/-- a method: a plain def of the class or of one above it -/
structure Meth (K : PySem.W.Frag) (C : Addr) (m : Str) (f : Addr) : Prop where
  at_ : PySem.W.findIn K (.ref C) m = some (some (.ref f))
  fn : PySem.W.isFn K (.ref f) = true
  kp : PySem.W.keepIn K (.ref f) = true

section
variable {X : Cx} {pins : List (Addr × Obj)} {σ : St} {H : Hp} {s : Shared} {a C dx : Addr} {fs : List (Str × V)} {f : Str} {v : V} {A : Around} {E : Value → Shared → Prop}

theorem getattr_ok {b : Bool} {Q : Value → Shared → Prop} (I : Inv X pins σ H s) (e : H a = some (.ins C dx fs)) (c : Cls X.K C) (n : NoAttr X.K C f) (l : fs.lookup f = some v)
    (h : ∀ u s', Inv X pins σ H s' → RelV v u → Q u s') : wpAny (model X.prog X.w) A (getAttr (.ref a) f b) Q E s := by
  obtain ⟨mA, O, r, _, _, _⟩ := ins_get I.hok e
  obtain ⟨u, hu, ru⟩ := RelO.some_of (v := v) (o := mA f) (by rw [← l]; exact r f)
  exact get_map I.kIn O (c.get f) c.hd n hu (handed_of ru) (h u _ (I.tok _) ru)

theorem getcon_ok {b : Bool} {u : Value} {Q : Value → Shared → Prop} (I : Inv X pins σ H s) (e : H a = some (.ins C dx fs)) (c : Cls X.K C) (k : Con X.K C f v u) (l : fs.lookup f = none)
    (h : ∀ s', Inv X pins σ H s' → Q u s') : wpAny (model X.prog X.w) A (getAttr (.ref a) f b) Q E s := by
  obtain ⟨mA, O, r, _, _, _⟩ := ins_get I.hok e
  have hn : mA f = none := RelO.none_of (by rw [← l]; exact r f)
  exact get_const I.kIn O (c.get f) c.hd k.at_ k.get k.cp hn (handed_of k.rel) (h _ (I.tok _))

theorem getmeth_ok {m : Str} {g : Addr} {pl : Sem Bool} {Q : Value × List Value → Shared → Prop} (I : Inv X pins σ H s) (e : H a = some (.ins C dx fs)) (c : Cls X.K C) (k : Meth X.K C m g) (l : fs.lookup m = none)
    (h : Q (.ref g, [.ref a]) s) : wpAny (model X.prog X.w) A (getMethod (.ref a) m pl) Q E s := by
  obtain ⟨mA, O, r, _, _, _⟩ := ins_get I.hok e
  have hn : mA m = none := RelO.none_of (by rw [← l]; exact r m)
  exact get_meth I.kIn O (c.get m) k.at_ k.fn hn h

theorem setattr_ok {y : V} {u : Value} {Q : Unit → Shared → Prop} (I : Inv X pins σ H s) (e : H a = some (.ins C dx fs)) (c : Cls X.K C) (n : NoAttr X.K C f) (hl : fs.length < 1000) (ry : RelV y u)
    (h : ∀ s', Inv X pins σ (upd H a (.ins C dx (putF f y fs))) s' → Q () s') : wpAny (model X.prog X.w) A (setAttr (.ref a) f u) Q E s := by
  obtain ⟨mA, O, r, wi, _, ho⟩ := ins_get I.hok e
  have hz : (fs.map (·.1)).length ≤ sizeLine := by rw [List.length_map, sizeLine_eq]; omega
  refine set_map I.kIn O c.sa c.po n.taker c.hd wi hz fun h' O' sb => h _ ?_
  have hd : ∃ o, h'.get? dx = some o := let ⟨o, _, _, e', _⟩ := O'.ns; ⟨o, e'⟩
  refine I.write (x := a) (e := dx) (by rw [e]; exact True.intro) (.inr ho) (fun b q hb z => (sb.2 b hb).trans z) hd ?_
  refine ⟨by rw [upd_ne O.ne]; exact ho, ?_, O.ne, O'.obj, _, O'.ns, fun g => ?_, fun g hg => ?_⟩
  · have := length_putF f y fs; omega
  · show RelO ((putF f y fs).lookup g) (if g = f then some u else mA g)
    rw [lookup_putF]
    by_cases q : g = f
    · rw [if_pos q, if_pos q]; exact ry
    · rw [if_neg q, if_neg q]; exact r g
  · by_cases q : g = f
    · rw [q]; exact (keys_putF f y fs).1
    · refine (keys_putF f y fs).2 g (wi g fun z => hg ?_)
      show (if g = f then some u else mA g) = none
      rw [if_neg q]; exact z

/-- a new instance, tracked, without attributes -/
theorem Inv.made (I : Inv X pins σ H s) : Inv X pins σ (upd (upd H s.heap.objs.size (.own (s.heap.objs.size + 1))) (s.heap.objs.size + 1) (.ins C s.heap.objs.size []))
    { s with heap := (s.heap.push PySem.W.emptyDict).push (PySem.W.instObj C s.heap.objs.size) } := by
  have e1 : (s.heap.push PySem.W.emptyDict).get? s.heap.objs.size = some PySem.W.emptyDict := Heap.get?_push_size s.heap rfl
  have e2 : ((s.heap.push PySem.W.emptyDict).push (PySem.W.instObj C s.heap.objs.size)).get? (s.heap.objs.size + 1) = some (PySem.W.instObj C s.heap.objs.size) := by
    have := Heap.get?_push_size (s.heap.push PySem.W.emptyDict) (o := PySem.W.instObj C s.heap.objs.size) rfl
    rwa [Heap.size_push] at this
  have e3 : (s.heap.push PySem.W.emptyDict).Ns s.heap.objs.size (fun _ => none) := ⟨PySem.W.emptyDict, #[], _, e1, rfl, (fun e he => absurd he (by simp)), fun _ => rfl⟩
  have I1 := I.laid (a := s.heap.objs.size) (o := .own (s.heap.objs.size + 1)) (h' := s.heap.push PySem.W.emptyDict) (t' := s.toks) (fun b u q => Heap.get?_push_of_some _ q) (Nat.le_refl _) ⟨_, e1⟩
  refine I1.laid (a := s.heap.objs.size + 1) (o := .ins C s.heap.objs.size []) (t' := s.toks) (fun b u q => Heap.get?_push_of_some _ q) (Nat.le_of_eq (Heap.size_push _ _)) ?_
  have ne : s.heap.objs.size ≠ s.heap.objs.size + 1 := Nat.ne_of_lt (Nat.lt_succ_self _)
  refine ⟨by rw [upd_ne ne, upd_same], Nat.zero_le _, ne, e2, fun _ => none, (Heap.Ns1.of_empty e3).at fun o q => Heap.get?_push_of_some _ q, fun _ => True.intro, fun y hy => absurd rfl hy⟩

/-- e.f where nothing but the object is asked: through attributeBase (super) and the last hold -/
theorem attr_of {prog : Program} {w : World} {env : Env} {e : Expr} {f : Str} {pos : Pos} {s : Shared} {Q : Value → Shared → Prop} (hb : attributeBase e f env (eval e env) = eval e env)
    (h : wpAny (model prog w) A (eval e env) (fun o s₁ => wpAny (model prog w) A (getAttr o f true) Q E s₁) E s) : wpAny (model prog w) A (eval (.Attribute e f pos) env) Q E s :=
  Attribute_any_ h (by rw [arm_eval_Attribute, hb])
end

/-! ### readings and rules -/
/-- e.f, an attribute of the instance -/
def tFld (K : PySem.W.Frag) (ta : TE) (f : Str) : TE := fun σ H Q => ta σ H fun x H1 => ∃ a C dx fs v, x = .ref a ∧ H1 a = some (.ins C dx fs) ∧ Cls K C ∧ NoAttr K C f ∧ fs.lookup f = some v ∧ Q v H1
/-- e.f, a constant of the class -/
def tCon (K : PySem.W.Frag) (ta : TE) (f : Str) : TE := fun σ H Q => ta σ H fun x H1 => ∃ a C dx fs v u, x = .ref a ∧ H1 a = some (.ins C dx fs) ∧ Cls K C ∧ Con K C f v u ∧ fs.lookup f = none ∧ Q v H1
/-- e.f = value -/
def sFld (K : PySem.W.Frag) (ta tv : TE) (f : Str) : TS := fun D σ H => tv σ H fun y H1 => ta σ H1 fun x H2 => ∃ a C dx fs, x = .ref a ∧ H2 a = some (.ins C dx fs) ∧ Cls K C ∧ NoAttr K C f ∧ fs.length < 1000 ∧
  D.nx σ (upd H2 a (.ins C dx (putF f y fs)))
/-- an augmented operator on two values -/
def InOp (X : Cx) (op : Operator) (rd : V → V → Hp → VK → Prop) : Prop :=
  ∀ (pins : List (Addr × Obj)) (s : Shared) (σ : St) (H : Hp) (x y : V) (u v : Value) (Q : VK), Inv X pins σ H s → RelV x u → RelV y v → rd x y H Q → wpAny (model X.prog X.w) X.A (inplaceOp op u v) (EP X pins σ Q) X.xe s
/-- e.f op= value -/
def sFldAug (K : PySem.W.Frag) (ta tv : TE) (rd : V → V → Hp → VK → Prop) (f : Str) : TS := fun D σ H => ta σ H fun x H1 => ∃ a C dx fs v, x = .ref a ∧ H1 a = some (.ins C dx fs) ∧ Cls K C ∧ NoAttr K C f ∧ fs.lookup f = some v ∧
  tv σ H1 fun y H2 => rd v y H2 fun z H3 => ∃ dx' fs', H3 a = some (.ins C dx' fs') ∧ fs'.length < 1000 ∧ D.nx σ (upd H3 a (.ins C dx' (putF f z fs')))

section
variable {X : Cx} {o e value : Expr} {f : Str} {pos pos' tpos : Pos} {ta tv : TE}
theorem pe_fld (he : PE X e ta) (hb : attributeBase e f X.env (eval e X.env) = eval e X.env) : PE X (.Attribute e f pos) (tFld X.K ta f) := by
  intro pins s σ H Q I h
  refine attr_of hb (thn (he pins s σ H _ I h) fun u s1 ⟨x, H1, I1, rx, a, C, dx, fs, v, ex, ea, c, n, l, q⟩ => ?_)
  subst ex
  obtain rfl : u = Value.ref a := rx
  exact getattr_ok I1 ea c n l fun u' s2 I2 ru => ⟨v, H1, I2, ru, q⟩
theorem pe_con (he : PE X e ta) (hb : attributeBase e f X.env (eval e X.env) = eval e X.env) : PE X (.Attribute e f pos) (tCon X.K ta f) := by
  intro pins s σ H Q I h
  refine attr_of hb (thn (he pins s σ H _ I h) fun u s1 ⟨x, H1, I1, rx, a, C, dx, fs, v, u0, ex, ea, c, k, l, q⟩ => ?_)
  subst ex
  obtain rfl : u = Value.ref a := rx
  exact getcon_ok I1 ea c k l fun s2 I2 => ⟨v, H1, I2, k.rel, q⟩
theorem ps_fld (ha : PE X o ta) (hv : PE X value tv) (hs : swapsWith value (some (.Attribute o f pos')) pos.line X.env = pure false) : PS X (.Assign [.Attribute o f pos'] value pos) (sFld X.K ta tv f) := by
  intro pins s σ H D I h
  refine plainObj_wpAny_Assign_Attribute (thn (hv pins s σ H _ I h) fun u s1 ⟨y, H1, I1, ry, q⟩ => thn (ha pins s1 σ H1 _ I1 q) fun ov s2 ⟨x, H2, I2, rx, a, C, dx, fs, ex, ea, c, n, l, q2⟩ => ?_) hs
  subst ex
  obtain rfl : ov = Value.ref a := rx
  exact setattr_ok I2 ea c n l ry fun s3 I3 => ⟨σ, _, I3, q2⟩
theorem ps_fldaug {op : Operator} {rd : V → V → Hp → VK → Prop} (ha : PE X o ta) (hv : PE X value tv) (hop : InOp X op rd) : PS X (.AugAssign (.Attribute o f tpos) op value pos) (sFldAug X.K ta tv rd f) := by
  intro pins s σ H D I h
  refine wpAny_AugAssign_AttributeAny (thn (ha pins s σ H _ I h) fun ov s1 ⟨x, H1, I1, rx, a, C, dx, fs, v, ex, ea, c, n, l, q⟩ => ?_)
  subst ex
  obtain rfl : ov = Value.ref a := rx
  refine getattr_ok I1 ea c n l fun u s2 I2 ru => thn (hv pins s2 σ H1 _ I2 q) fun w3 s3 ⟨y, H2, I3, ry, q3⟩ => thn (hop pins s3 σ H2 v y u w3 _ I3 ru ry q3) fun w4 s4 ⟨z, H3, I4, rz, dx', fs', ea', l', q4⟩ => ?_
  exact setattr_ok I4 ea' c n l' rz fun s5 I5 => ⟨σ, _, I5, q4⟩
def rAdd : V → V → Hp → VK → Prop := fun x y H Q => ∃ i j, x = .int i ∧ y = .int j ∧ Q (.int (i + j)) H
def rSub : V → V → Hp → VK → Prop := fun x y H Q => ∃ i j, x = .int i ∧ y = .int j ∧ Q (.int (i - j)) H
theorem in_add : InOp X .Add rAdd := by
  rintro pins s σ H x y u v Q I rx ry ⟨i, j, rfl, rfl, q⟩
  obtain ⟨t, rfl⟩ := (show ∃ t, u = Value.int i t from rx)
  obtain ⟨t', rfl⟩ := (show ∃ t', v = Value.int j t' from ry)
  exact PyProof.Rows.iadd_int ⟨.int (i + j), H, I.tok _, ⟨_, rfl⟩, q⟩
theorem in_sub : InOp X .Sub rSub := by
  rintro pins s σ H x y u v Q I rx ry ⟨i, j, rfl, rfl, q⟩
  obtain ⟨t, rfl⟩ := (show ∃ t, u = Value.int i t from rx)
  obtain ⟨t', rfl⟩ := (show ∃ t', v = Value.int j t' from ry)
  exact PyProof.Rows.isub_int ⟨.int (i - j), H, I.tok _, ⟨_, rfl⟩, q⟩

/-- what is between an instance and its method: the tree of a method call -/
theorem methcall_of {pl : Sem Bool} {m : Str} {apos : Pos} {args : List Expr} {pins : List (Addr × Obj)} {s : Shared} {σ : St} {H : Hp} {Q : Value → Shared → Prop} {te : TE} (he : PE X e te) (I : Inv X pins σ H s)
    (h : te σ H fun x H1 => ∃ a C dx fs g, x = .ref a ∧ H1 a = some (.ins C dx fs) ∧ Cls X.K C ∧ Meth X.K C m g ∧ fs.lookup m = none ∧
      ∀ s1, Inv X pins σ H1 s1 → wpAny (model X.prog X.w) X.A (callWith pos (.ref g) [.ref a] (backTo pos (starEach args X.env)) (backToKw pos (keywordEach [] X.env))) Q X.xe s1)
    (ht : eval (.Call (.Attribute e m apos) args [] pos) X.env = (do
      let ov ← eval e X.env
      standAt apos.atName
      let (f, first) ← holding [ov] (getMethod ov m pl)
      callWith pos f first (backTo pos (starEach args X.env)) (backToKw pos (keywordEach [] X.env)))) :
    wpAny (model X.prog X.w) X.A (eval (.Call (.Attribute e m apos) args [] pos) X.env) Q X.xe s := by
  refine PySem.W.methodCall_KW (pl := pl) (thn (he pins s σ H _ I h) fun u s1 ⟨x, H1, I1, rx, a, C, dx, fs, g, ex, ea, c, k, l, q⟩ => ?_) ht
  subst ex
  obtain rfl : u = Value.ref a := rx
  exact getmeth_ok I1 ea c k l (q s1 I1)
end

/-! ### isinstance -/
section
variable {X : Cx} {pins : List (Addr × Obj)} {σ : St} {H : Hp} {s : Shared} {A : Around} {E : Value → Shared → Prop} {Q : Value → Shared → Prop} {c : Value} {b : Bool}
/-- the type of a value, as the fragment's deciders take it; for an instance its class -/
inductive TyOf (K : PySem.W.Frag) (H : Hp) : V → Value → Prop where
  | non : TyOf K H .non (.type "NoneType")
  | bl (x : Bool) : TyOf K H (.bl x) (.type "bool")
  | int (i : Int) : TyOf K H (.int i) (.type "int")
  | str (x : Str) : TyOf K H (.str x) (.type "str")
  | flt (x : UInt64) : TyOf K H (.flt x) (.type "float")
  | lst {a : Addr} {xs : List V} (e : H a = some (.lst xs)) : TyOf K H (.ref a) (.type "list")
  | frz {a : Addr} {o : Obj} {xs : List V} (e : H a = some (.frz o (.lst xs))) : TyOf K H (.ref a) (.type "list")
  | tup {a : Addr} {xs : List V} (e : H a = some (.tup xs)) : TyOf K H (.ref a) (.type "tuple")
  | dK {a : Addr} {kvs : List (Key × V)} (e : H a = some (.dK kvs)) : TyOf K H (.ref a) (.type "dict")
  | dT {a : Addr} {kvs : List (List Key × V)} (e : H a = some (.dT kvs)) : TyOf K H (.ref a) (.type "dict")
  | ins {a C dx : Addr} {fs : List (Str × V)} (e : H a = some (.ins C dx fs)) (cl : Cls K C) (ha : PySem.W.findIn K (.ref C) "__class__" = some (some (.builtin "object.__class__")))
      (hn : PySem.W.specialIn K (.builtin "object.__class__") "__get__" = some (some (.builtin "getset_descriptor.__get__"))) (htk : PySem.W.takesIn K (.builtin "object.__class__") = some true)
      (hm : PySem.W.mroIn K C (.type "object") = some true) : TyOf K H (.ref a) (.ref C)
/-- isinstance(x, c) for one class c, a built-in or an own one: kitOne's answer -/
theorem isinst_ok {x : V} {u t : Value} (I : Inv X pins σ H s) (rx : RelV x u) (ty : TyOf X.K H x t) (e : PySem.W.kitOne X.K t c = some b) (h : ∀ tk, Q (.bool b) { s with toks := tk }) :
    wpAny (model X.prog X.w) A (call (.builtin "isinstance") [u, c]) Q E s := by
  cases ty with
  | non => cases (show u = Value.none from rx); exact PySem.W.kia_one PySem.W.kitx_none I.kIn True.intro e (fun z => nomatch z) h
  | bl y => cases (show u = Value.bool y from rx); exact PySem.W.kia_one PySem.W.kitx_bool I.kIn True.intro e (fun z => nomatch z) h
  | int i => obtain ⟨t, q⟩ := (show ∃ t, u = Value.int i t from rx); cases q; exact PySem.W.kia_one PySem.W.kitx_int I.kIn True.intro e (fun z => nomatch z) h
  | str y => obtain ⟨t, q⟩ := (show ∃ t, u = Value.str y t from rx); cases q; exact PySem.W.kia_one PySem.W.kitx_str I.kIn True.intro e (fun z => nomatch z) h
  | flt y => obtain ⟨t, q⟩ := (show ∃ t, u = Value.float y t from rx); cases q; exact PySem.W.kia_one PySem.W.kitx_float I.kIn True.intro e (fun z => nomatch z) h
  | @lst a xs ea =>
    cases (show u = Value.ref a from rx)
    obtain ⟨_, _, n, _, h1⟩ := (show ObjOk X.prog X.w H s.heap a (.lst xs) from I.hok a _ ea)
    exact PySem.W.kia_one PySem.W.kitx_list I.kIn ⟨_, h1, rfl⟩ e (fun z => nomatch z) h
  | @frz a ob xs ea =>
    cases (show u = Value.ref a from rx)
    obtain ⟨_, _, _, n, _, h1⟩ := (show ObjOk X.prog X.w H s.heap a (.frz ob (.lst xs)) from I.hok a _ ea)
    exact PySem.W.kia_one PySem.W.kitx_list I.kIn ⟨_, h1, rfl⟩ e (fun z => nomatch z) h
  | @tup a xs ea =>
    cases (show u = Value.ref a from rx)
    obtain ⟨_, _, _, p⟩ := (show ObjOk X.prog X.w H s.heap a (.tup xs) from I.hok a _ ea)
    obtain ⟨o, h1, h2, _⟩ := p
    exact PySem.W.kia_one PySem.W.kitx_tuple I.kIn ⟨o, h1, h2⟩ e (fun z => nomatch z) h
  | @dK a kvs ea =>
    cases (show u = Value.ref a from rx)
    obtain ⟨_, _, vs, _, p⟩ := (show ObjOk X.prog X.w H s.heap a (.dK kvs) from I.hok a _ ea)
    obtain ⟨o, es, ep, h1, h2, _⟩ := p
    exact PySem.W.kia_one PySem.W.kitx_dict I.kIn ⟨o, h1, h2.1⟩ e (fun z => nomatch z) h
  | @dT a kvs ea =>
    cases (show u = Value.ref a from rx)
    obtain ⟨_, _, xs, _, o, es, ep, h1, h2, _⟩ := (show ObjOk X.prog X.w H s.heap a (.dT kvs) from I.hok a _ ea)
    exact PySem.W.kia_one PySem.W.kitx_dict I.kIn ⟨o, h1, h2.1⟩ e (fun z => nomatch z) h
  | @ins a C dx fs ea cl ha hn htk hm =>
    cases (show u = Value.ref a from rx)
    obtain ⟨mA, O, _⟩ := ins_get I.hok ea
    obtain ⟨od, J, _⟩ := O.look
    exact PySem.W.kia_one (PySem.W.kitx_own (cl.get _) cl.hd ha hn htk hm) I.kIn J e (fun z => nomatch z) h
end
end L2

namespace L2
open PySem PySem.Spec PyProof.Rows

/-! ### room -/
structure Room (k : Nat) (A : Around) : Prop where
  hd : A.handled = none
  dp : A.depth + 3 * k + 5 < recursionLimit
  un : A.units + 16 * k + 200 < cLine
theorem Room.mono {j k : Nat} {A : Around} (r : Room k A) (h : j ≤ k) : Room j A := ⟨r.hd, by have := r.dp; omega, by have := r.un; omega⟩
theorem Room.deeper {k : Nat} {A : Around} (r : Room (k + 1) A) (env : Env) : Room k (A.deeper env) :=
  ⟨r.hd, by have := r.dp; show A.depth + 1 + 3 * k + 5 < _; omega, by have := r.un; show A.units + 3 + 16 * k + 200 < _; omega⟩
theorem Room.in1 {k : Nat} {A : Around} (r : Room (k + 1) A) : Room k A.in1 :=
  ⟨r.hd, by have := r.dp; show A.depth + 3 * k + 5 < _; omega, by have := r.un; show A.units + 1 + 16 * k + 200 < _; omega⟩
theorem make_depth {A : Around} {C : Addr} {us : List Value} {kw : List (Str × Value)} : (A.under (.builtin "type.__call__" ⟨.ref C :: us, kw⟩)).depth = A.depth + 1 := by
  first | rfl | simp [Around.under, Code.weight, Code.isCreation, Code.isGuard, Code.isCaller, Code.frames, Code.isFrame, guardIds]
theorem make_units {A : Around} {C : Addr} {us : List Value} {kw : List (Str × Value)} : (A.under (.builtin "type.__call__" ⟨.ref C :: us, kw⟩)).units = A.units + 1 := by
  first | rfl | simp [Around.under, Code.cUnits, Code.frames, Code.isFrame]
theorem Room.make {k : Nat} {A : Around} (r : Room (k + 1) A) (C : Addr) (us : List Value) (kw : List (Str × Value)) : Room k (A.under (.builtin "type.__call__" ⟨.ref C :: us, kw⟩)) :=
  ⟨r.hd, by have := r.dp; rw [make_depth]; omega, by have := r.un; rw [make_units]; omega⟩
theorem Room.depth {k : Nat} {A : Around} (r : Room k A) : A.depth < recursionLimit := by have := r.dp; omega
theorem Room.units {k : Nat} {A : Around} (r : Room k A) : A.units + 64 < cLine := by have := r.un; omega
theorem Room.units0 {k : Nat} {A : Around} (r : Room k A) : A.units < cLine := by have := r.un; omega

/-! ### argument lists and displays -/
def tNil : TA := fun _ H Q => Q [] H
def tCons (ta : TE) (tr : TA) : TA := fun σ H Q => ta σ H fun x H1 => tr σ H1 fun xs H2 => Q (x :: xs) H2
section
variable {X : Cx} {e : Expr} {es : List Expr} {te : TE} {t : TA} {pos : Pos}
theorem pa_nil : PA X [] tNil := fun _ _ _ _ H Q I h => Calls.spliced_nil ⟨[], H, I, .nil, h⟩
theorem pa_cons (ha : PE X e te) (hr : PA X es t) (hs : starEach (e :: es) X.env = (false, eval e X.env) :: starEach es X.env := by rfl) : PA X (e :: es) (tCons te t) := by
  intro pos pins s σ H Q I h
  rw [hs]
  show wpAny _ _ (spliced ((false, eval e X.env) :: backTo pos (starEach es X.env))) _ _ s
  refine Calls.spliced_cons (thn (ha pins s σ H _ I h) fun u s1 ⟨x, H1, I1, r1, q1⟩ => ?_)
  exact thn (hr pos pins s1 σ H1 _ I1 q1) fun us s2 ⟨xs, H2, I2, r2, q2⟩ => ⟨x :: xs, H2, I2, .cons r1 r2, q2⟩

/-- a tuple, a list of written items -/
def tTup (t : TA) : TE := fun σ H Q => t σ H fun xs H1 => xs.length ≤ sizeLine ∧ ∀ p, H1 p = none → Q (.ref p) (upd H1 p (.tup xs))
def tLst (t : TA) : TE := fun σ H Q => t σ H fun xs H1 => xs.length ≤ sizeLine ∧ ∀ p, H1 p = none → Q (.ref p) (upd H1 p (.lst xs))
theorem pe_tup {x1} (h : PA X es t) : PE X (.Tuple es x1 pos) (tTup t) := by
  intro pins s σ H Q I hq
  refine wpAny_Tuple_spliced (thn (h pos pins s σ H _ I hq) fun us s1 ⟨xs, H1, I1, r, z, q⟩ => ⟨by rw [← r.length]; exact z, ?_⟩)
  have hf : H1 s1.heap.objs.size = none := I1.hok.fresh (Nat.le_refl _)
  refine ⟨.ref s1.heap.objs.size, upd H1 s1.heap.objs.size (.tup xs), I1.laid (t' := s1.toks) (fun b u e => Heap.get?_push_of_some _ e) (Nat.le_refl _) ?_, rfl, q _ hf⟩
  exact ⟨z, us, r, ⟨_, Heap.get?_push_size _ rfl, rfl, _, rfl⟩⟩
theorem pe_lst (h : PA X es t) : PE X (.List es pos) (tLst t) := by
  intro pins s σ H Q I hq
  refine wpAny_List_spliced (thn (h pos pins s σ H _ I hq) fun us s1 ⟨xs, H1, I1, r, z, q⟩ => ⟨by rw [← r.length]; exact z, ?_⟩)
  have hf : H1 s1.heap.objs.size = none := I1.hok.fresh (Nat.le_refl _)
  refine ⟨.ref s1.heap.objs.size, upd H1 s1.heap.objs.size (.lst xs), I1.laid (t' := s1.toks) (fun b u e => Heap.get?_push_of_some _ e) (Nat.le_refl _) ?_, rfl, q _ hf⟩
  exact ⟨z, us, 0, r, Heap.get?_push_size _ rfl⟩
end

/-! ### what a def promises -/
/-- a def's promise: the bound arguments in the parameters' order, the heap, the wanted end, the wanted exception -/
abbrev Sp := List V → Hp → VK → XK → Prop
/-- how an exception lies behind a call (file 08 gives it): the callers' frames, abstract heap and state ahead of the call, the wish, the exception, the state -/
abbrev CXT := List Env → Hp → Shared → XK → Value → Shared → Prop

/-- the state at a call -/
structure Env0 (P : Program) (w : World) (K : PySem.W.Frag) (mg : Str → Option Value) (base : Heap) (A : Around) (outer : List Env) (s : Shared) (H : Hp) : Prop where
  frames : A.frames = some outer
  mod : Mod K mg base
  bs : ∀ b o, base.get? b = some o → s.heap.get? b = some o ∧ H b = none
  bsz : base.objs.size ≤ s.heap.objs.size
  funs : s.heap.FunFrames base outer
  frf : ∀ b ∈ frs outer, H b = none
  hok : HOk P w H s.heap
  bare : AllBare s.gens
/-- a call's end -/
def CE (outer : List Env) (P : Program) (w : World) (H : Hp) (s : Shared) (Q : VK) (u : Value) (s' : Shared) : Prop :=
  ∃ v H', s'.os = s.os ∧ AllBare s'.gens ∧ Un (frs outer) [] H H' s.heap s'.heap ∧ HOk P w H' s'.heap ∧ RelV v u ∧ Q v H'
def CR (CX : CXT) (outer : List Env) (P : Program) (w : World) (H : Hp) (s : Shared) (Q : VK) (E : XK) (r : Result) (s' : Shared) : Prop :=
  match r with
  | .ok (.ret u) => CE outer P w H s Q u s'
  | .ok _ => False
  | .error e => CX outer H s E e s'
structure FnOk (P : Program) (w : World) (K : PySem.W.Frag) (mg : Str → Option Value) (base : Heap) (CX : CXT) (k : Nat) (f : Addr) (fd : FuncData) (ps : List Str) (sp : Sp) : Prop where
  len : ∀ vs H Q E, sp vs H Q E → vs.length = ps.length
  run : ∀ (A : Around) (outer : List Env) (s : Shared) (H : Hp) (args : Args) (us : List Value) (vs : List V) (Q : VK) (E : XK), Room k A → Env0 P w K mg base A outer s H → BindsTo s fd args (ps.zip us) → Vals vs us → sp vs H Q E →
    codeAny (model P w) A (.call (.ref f) args) (CR CX outer P w H s Q E) s
theorem FnOk.mono {P : Program} {w : World} {K : PySem.W.Frag} {mg : Str → Option Value} {base : Heap} {CX : CXT} {j k : Nat} {f : Addr} {fd : FuncData} {ps : List Str} {sp : Sp} (F : FnOk P w K mg base CX j f fd ps sp) (h : j ≤ k) :
    FnOk P w K mg base CX k f fd ps sp := ⟨F.len, fun A outer s H args us vs Q E hr => F.run A outer s H args us vs Q E (hr.mono h)⟩
/-- a weaker promise -/
theorem FnOk.imp {P : Program} {w : World} {K : PySem.W.Frag} {mg : Str → Option Value} {base : Heap} {CX : CXT} {k : Nat} {f : Addr} {fd : FuncData} {ps : List Str} {sp sp' : Sp} (F : FnOk P w K mg base CX k f fd ps sp)
    (h : ∀ vs H Q E, sp' vs H Q E → sp vs H Q E) : FnOk P w K mg base CX k f fd ps sp' :=
  ⟨fun vs H Q E q => F.len vs H Q E (h _ _ _ _ q), fun A outer s H args us vs Q E hr he hb hv hs => F.run A outer s H args us vs Q E hr he hb hv (h _ _ _ _ hs)⟩

theorem Env0.make {P : Program} {w : World} {K : PySem.W.Frag} {mg : Str → Option Value} {base : Heap} {A : Around} {outer : List Env} {s : Shared} {H : Hp} (e : Env0 P w K mg base A outer s H) (C : Addr) (us : List Value) (kw : List (Str × Value)) :
    Env0 P w K mg base (A.under (.builtin "type.__call__" ⟨.ref C :: us, kw⟩)) outer s H := ⟨by first | exact e.frames | (simpa [Around.under, Code.envs, Code.isFrame, pushEnvs] using e.frames), e.mod, e.bs, e.bsz, e.funs, e.frf, e.hok, e.bare⟩
theorem Env0.in1 {P : Program} {w : World} {K : PySem.W.Frag} {mg : Str → Option Value} {base : Heap} {A : Around} {outer : List Env} {s : Shared} {H : Hp} (e : Env0 P w K mg base A outer s H) :
    Env0 P w K mg base A.in1 outer s H := ⟨e.frames, e.mod, e.bs, e.bsz, e.funs, e.frf, e.hok, e.bare⟩

section
variable {X : Cx} {pins : List (Addr × Obj)} {σ : St} {H : Hp} {s s' : Shared}
/-- from a body: what a callee wants -/
theorem Inv.env0 (I : Inv X pins σ H s) : Env0 X.prog X.w X.K X.mg X.base X.A X.stack s H :=
  ⟨I.ok.frames, I.ok.mod, I.bs, Nat.le_trans I.ok.bsz I.sz, I.stack, I.stkFree, I.hok, I.bare⟩
/-- behind a call -/
theorem Inv.after {Q : VK} {u : Value} (I : Inv X pins σ H s) (h : CE X.stack X.prog X.w H s Q u s') : EP X pins σ Q u s' := by
  obtain ⟨v, H', os, bare, un, hok, r, q⟩ := h
  obtain ⟨hh, g, d, t, os'⟩ := s'
  obtain rfl : os' = s.os := os
  exact ⟨v, H', I.call (h' := hh) (g' := g) (d' := d) (t' := t) (ch := []) un hok bare (fun b z => absurd z (by simp)), r, q⟩
end

/-! ### calls -/
/-- f(..): the written arguments, then the defaults dvs; E: what is wanted of an exception -/
def tCall (sp : Sp) (dvs : List V) (E : XK) (t : TA) : TE := fun σ H Q => t σ H fun vs H1 => sp (vs ++ dvs) H1 Q E
/-- o.m(..) of an instance of the class at C -/
def tMeth (C : Addr) (m : Str) (sp : Sp) (dvs : List V) (E : XK) (ta : TE) (t : TA) : TE := fun σ H Q => ta σ H fun x H1 => ∃ a dx fs, x = .ref a ∧ H1 a = some (.ins C dx fs) ∧ fs.lookup m = none ∧
  t σ H1 fun vs H2 => sp (x :: (vs ++ dvs)) H2 Q E
/-- C(..): a new instance and its dict, then __init__ -/
def tMake (C : Addr) (sp : Sp) (dvs : List V) (E : XK) (t : TA) : TE := fun σ H Q => t σ H fun vs H1 => ∀ x dx, H1 x = none → H1 dx = none → dx ≠ x →
  sp (.ref x :: (vs ++ dvs)) (upd (upd H1 dx (.own x)) x (.ins C dx [])) (fun v H2 => v = .non ∧ Q (.ref x) H2) E

/-- how the parameters are bound: us the positional arguments, kw the keywords' values by name, ds the defaults that fill up -/
def Binds (K : PySem.W.Frag) (fd : FuncData) (ps : List Str) (ds : List Value) : Prop :=
  ∀ (s : Shared) (us : List Value), K.In s.heap → (us ++ ds).length = ps.length → BindsTo s fd ⟨us, []⟩ (ps.zip (us ++ ds))
/-- every parameter is given -/
theorem Binds.all {K : PySem.W.Frag} {fd : FuncData} {ps : List Str} (h : ∀ us : List Value, us.length = ps.length → bindArgs fd ⟨us, []⟩ = pure (ps.zip us)) : Binds K fd ps [] := fun s us _ hl => by
  rw [List.append_nil] at hl ⊢
  exact .of_eq (h us hl)

/-- an exception of a callee reaches what this body wants of exceptions -/
def Passes (CX : CXT) (X : Cx) (E : XK) : Prop := ∀ (pins : List (Addr × Obj)) (σ : St) (H : Hp) (s : Shared) (e : Value) (s' : Shared), Inv X pins σ H s → CX X.stack H s E e s' → X.xe e s'

section
variable {X : Cx} {CX : CXT} {k : Nat} {f C : Addr} {fd : FuncData} {ps : List Str} {sp : Sp} {dvs : List V} {ds : List Value} {E : XK} {x m : Str} {p pos apos : Pos} {e o : Expr} {es : List Expr} {ta : TE} {t : TA}

/-- the callee runs -/
theorem run_fn {pins : List (Addr × Obj)} {σ : St} {H : Hp} {s : Shared} {Q : VK} {us : List Value} {vs : List V} (F : FnOk X.prog X.w X.K X.mg X.base CX k f fd ps sp) (hr : Room k X.A) (hb : Binds X.K fd ps ds) (hd : Vals dvs ds) (hx : Passes CX X E)
    (I : Inv X pins σ H s) (r : Vals vs us) (h : sp (vs ++ dvs) H Q E) : wpAny (model X.prog X.w) X.A (call (.ref f) us) (EP X pins σ Q) X.xe s := by
  have r2 : Vals (vs ++ dvs) (us ++ ds) := r.append hd
  have hl : (us ++ ds).length = ps.length := by rw [← r2.length]; exact F.len _ _ _ _ h
  refine wpAny_call (codeAny_mono (F.run X.A X.stack s H ⟨us, []⟩ (us ++ ds) (vs ++ dvs) Q E hr I.env0 (hb s us I.kIn hl) r2 h) fun r s' hq => ?_)
  cases r with
  | error e => exact hx pins σ H s e s' I hq
  | ok fl =>
    cases fl with
    | ret u => exact I.after hq
    | next => exact False.elim hq
    | brk => exact False.elim hq
    | cont => exact False.elim hq

theorem pe_call (F : FnOk X.prog X.w X.K X.mg X.base CX k f fd ps sp) (hr : Room k X.A) (hg : Gl X x) (hm : X.mg x = some (.ref f)) (hk : PySem.W.keepIn X.K (.ref f) = true) (hb : Binds X.K fd ps ds) (hd : Vals dvs ds) (hx : Passes CX X E)
    (ha : PA X (e :: es) t) (hdb : (x == ("__debug__" : Str)) = false := by decide) (he : starEach (e :: es) X.env = (false, eval e X.env) :: starEach es X.env := by rfl) (hpl : (backTo pos (starEach es X.env)).any (·.1) = false := by rfl) :
    PE X (.Call (.Name x p) (e :: es) [] pos) (tCall sp dvs E t) := by
  intro pins s σ H Q I h
  refine wpAny_Call_Name_kw (ld_glob I hg hm ?_ hdb)
  refine PySem.W.callWith_K (h₀ := X.base) I.ok.mod.kin hk (thn (ha pos pins s σ H _ I h) fun us s1 ⟨vs, H1, I1, r, q⟩ => ⟨I1.kIn, ?_⟩) he hpl
  exact run_fn F hr hb hd hx I1 r q
theorem pe_call0 (F : FnOk X.prog X.w X.K X.mg X.base CX k f fd ps sp) (hr : Room k X.A) (hg : Gl X x) (hm : X.mg x = some (.ref f)) (hk : PySem.W.keepIn X.K (.ref f) = true) (hb : Binds X.K fd ps ds) (hd : Vals dvs ds) (hx : Passes CX X E)
    (hdb : (x == ("__debug__" : Str)) = false := by decide) : PE X (.Call (.Name x p) [] [] pos) (tCall sp dvs E tNil) := by
  intro pins s σ H Q I h
  refine wpAny_Call_Name_kw (ld_glob I hg hm ?_ hdb)
  exact PySem.W.callWith_K0 I.kIn hk (run_fn (us := []) F hr hb hd hx I .nil h)

/-- o.m(e, ..) -/
theorem pe_meth {pl : Sem Bool} (he : PE X o ta) (c : Cls X.K C) (hm : Meth X.K C m f) (F : FnOk X.prog X.w X.K X.mg X.base CX k f fd ps sp) (hr : Room k X.A) (hb : Binds X.K fd ps ds) (hd : Vals dvs ds) (hx : Passes CX X E) (ha : PA X (e :: es) t)
    (hst : starEach (e :: es) X.env = (false, eval e X.env) :: starEach es X.env := by rfl) (hpl : (backTo pos (starEach es X.env)).any (·.1) = false := by rfl)
    (ht : eval (.Call (.Attribute o m apos) (e :: es) [] pos) X.env = (do
      let ov ← eval o X.env
      standAt apos.atName
      let (f, first) ← holding [ov] (getMethod ov m pl)
      callWith pos f first (backTo pos (starEach (e :: es) X.env)) (backToKw pos (keywordEach [] X.env))) := by rfl) :
    PE X (.Call (.Attribute o m apos) (e :: es) [] pos) (tMeth C m sp dvs E ta t) := by
  intro pins s σ H Q I h
  refine PySem.W.methodCall_KW (pl := pl) (thn (he pins s σ H _ I h) fun u s1 ⟨x, H1, I1, rx, a, dx, fs, ex, ea, l, q⟩ => ?_) ht
  subst ex
  obtain rfl : u = Value.ref a := rx
  refine getmeth_ok I1 ea c hm l ?_
  refine PySem.W.callWith_K (first := [.ref a]) (h₀ := X.base) I.ok.mod.kin hm.kp (thn (ha pos pins s1 σ H1 _ I1 q) fun us s2 ⟨vs, H2, I2, r, q2⟩ => ⟨I2.kIn, ?_⟩) hst hpl
  exact run_fn (us := .ref a :: us) (vs := .ref a :: vs) F hr hb hd hx I2 (.cons rfl r) q2
/-- o.m() -/
theorem pe_meth0 {pl : Sem Bool} (he : PE X o ta) (c : Cls X.K C) (hm : Meth X.K C m f) (F : FnOk X.prog X.w X.K X.mg X.base CX k f fd ps sp) (hr : Room k X.A) (hb : Binds X.K fd ps ds) (hd : Vals dvs ds) (hx : Passes CX X E)
    (ht : eval (.Call (.Attribute o m apos) [] [] pos) X.env = (do
      let ov ← eval o X.env
      standAt apos.atName
      let (f, first) ← holding [ov] (getMethod ov m pl)
      callWith pos f first (backTo pos (starEach [] X.env)) (backToKw pos (keywordEach [] X.env))) := by rfl) :
    PE X (.Call (.Attribute o m apos) [] [] pos) (tMeth C m sp dvs E ta tNil) := by
  intro pins s σ H Q I h
  refine PySem.W.methodCall_KW (pl := pl) (thn (he pins s σ H _ I h) fun u s1 ⟨x, H1, I1, rx, a, dx, fs, ex, ea, l, q⟩ => ?_) ht
  subst ex
  obtain rfl : u = Value.ref a := rx
  refine getmeth_ok I1 ea c hm l ?_
  exact PySem.W.callWith_K0 (first := [.ref a]) I1.kIn hm.kp (run_fn (us := [.ref a]) (vs := [.ref a]) F hr hb hd hx I1 (.cons rfl .nil) q)

/-- what a class must have to be made -/
structure Mk (K : PySem.W.Frag) (C f : Addr) : Prop where
  makes : PySem.W.makesIn K C = true
  init : PySem.W.findIn K (.ref C) "__init__" = some (some (.ref f))
  fn : PySem.W.isFn K (.ref f) = true
  kp : PySem.W.keepIn K (.ref C) = true

theorem run_make {pins : List (Addr × Obj)} {σ : St} {H : Hp} {s : Shared} {Q : VK} {us : List Value} {vs : List V} (M : Mk X.K C f) (F : FnOk X.prog X.w X.K X.mg X.base CX k f fd ps sp) (hr : Room (k + 1) X.A) (hb : Binds X.K fd ps ds) (hd : Vals dvs ds)
    (hx : Passes CX X E) (I : Inv X pins σ H s) (r : Vals vs us)
    (h : ∀ x dx, H x = none → H dx = none → dx ≠ x → sp (.ref x :: (vs ++ dvs)) (upd (upd H dx (.own x)) x (.ins C dx [])) (fun v H2 => v = .non ∧ Q (.ref x) H2) E) :
    wpAny (model X.prog X.w) X.A (call (.ref C) us) (EP X pins σ Q) X.xe s := by
  have hq := h (s.heap.objs.size + 1) s.heap.objs.size (I.hok.fresh (Nat.le_succ _)) (I.hok.fresh (Nat.le_refl _)) (Nat.ne_of_lt (Nat.lt_succ_self _))
  have I2 := Inv.made (C := C) I
  have r2 : Vals (V.ref (s.heap.objs.size + 1) :: (vs ++ dvs)) (Value.ref (s.heap.objs.size + 1) :: (us ++ ds)) := .cons rfl (r.append hd)
  have hl : (Value.ref (s.heap.objs.size + 1) :: us ++ ds).length = ps.length := by
    have e := r2.length
    rw [F.len _ _ _ _ hq] at e
    exact e.symm
  refine wpAny_call (make_map (f := f) I.kIn M.makes M.init (beq_iff_eq.mp M.fn) (codeAny_mono (F.run _ X.stack _ _ ⟨Value.ref (s.heap.objs.size + 1) :: us, []⟩ (Value.ref (s.heap.objs.size + 1) :: (us ++ ds)) _ _ E (hr.make C us [])
    (I2.env0.make C us []) (hb _ (Value.ref (s.heap.objs.size + 1) :: us) I2.kIn hl) r2 hq) fun r s' hq' => ?_))
  cases r with
  | error e => exact hx pins σ _ _ e s' I2 hq'
  | ok fl =>
    cases fl with
    | ret u =>
      obtain ⟨v, H', I3, rv, ev, q3⟩ := I2.after hq'
      subst ev
      exact ⟨rv, ⟨V.ref (s.heap.objs.size + 1), H', I3, rfl, q3⟩⟩
    | next => exact False.elim hq'
    | brk => exact False.elim hq'
    | cont => exact False.elim hq'
theorem pe_make (M : Mk X.K C f) (F : FnOk X.prog X.w X.K X.mg X.base CX k f fd ps sp) (hr : Room (k + 1) X.A) (hg : Gl X x) (hm : X.mg x = some (.ref C)) (hb : Binds X.K fd ps ds) (hd : Vals dvs ds) (hx : Passes CX X E)
    (ha : PA X (e :: es) t) (hdb : (x == ("__debug__" : Str)) = false := by decide) (he : starEach (e :: es) X.env = (false, eval e X.env) :: starEach es X.env := by rfl) (hpl : (backTo pos (starEach es X.env)).any (·.1) = false := by rfl) :
    PE X (.Call (.Name x p) (e :: es) [] pos) (tMake C sp dvs E t) := by
  intro pins s σ H Q I h
  refine wpAny_Call_Name_kw (ld_glob I hg hm ?_ hdb)
  refine PySem.W.callWith_K (h₀ := X.base) I.ok.mod.kin M.kp (thn (ha pos pins s σ H _ I h) fun us s1 ⟨vs, H1, I1, r, q⟩ => ⟨I1.kIn, ?_⟩) he hpl
  exact run_make M F hr hb hd hx I1 r q
theorem pe_make0 (M : Mk X.K C f) (F : FnOk X.prog X.w X.K X.mg X.base CX k f fd ps sp) (hr : Room (k + 1) X.A) (hg : Gl X x) (hm : X.mg x = some (.ref C)) (hb : Binds X.K fd ps ds) (hd : Vals dvs ds) (hx : Passes CX X E)
    (hdb : (x == ("__debug__" : Str)) = false := by decide) : PE X (.Call (.Name x p) [] [] pos) (tMake C sp dvs E tNil) := by
  intro pins s σ H Q I h
  refine wpAny_Call_Name_kw (ld_glob I hg hm ?_ hdb)
  exact PySem.W.callWith_K0 I.kIn M.kp (run_make (us := []) M F hr hb hd hx I .nil h)
end

/-! ### keywords -/
/-- the values of the keywords, from the left -/
def PK (X : Cx) (kws : List Keyword) (t : TA) : Prop :=
  ∀ (pos : Pos) (pins : List (Addr × Obj)) (s : Shared) (σ : St) (H : Hp) (Q : List V → Hp → Prop), Inv X pins σ H s → t σ H Q → wpAny (model X.prog X.w) X.A (evalAll ((backToKw pos (keywordEach kws X.env)).map (·.2))) (AP X pins σ Q) X.xe s
section
variable {X : Cx} {CX : CXT} {k : Nat} {f C : Addr} {fd : FuncData} {ps ks : List Str} {sp : Sp} {E : XK} {x m : Str} {p pos apos kpos : Pos} {e o : Expr} {es : List Expr} {kws : List Keyword} {te ta : TE} {t tk : TA} {nm : Option Str}
theorem pk_nil : PK X [] tNil := fun _ _ _ _ H Q I h => wpAny_evalAll_nil ⟨[], H, I, .nil, h⟩
theorem pk_cons (ha : PE X e te) (hr : PK X kws t) : PK X (⟨nm, e, kpos⟩ :: kws) (tCons te t) := by
  intro pos pins s σ H Q I h
  show wpAny _ _ (evalAll ((do let v ← eval e X.env; standAt pos; pure v) :: (backToKw pos (keywordEach kws X.env)).map (·.2))) _ _ s
  refine wpAny_evalAll_cons (wpAny_bind (thn (ha pins s σ H _ I h) fun u s1 ⟨x, H1, I1, r1, q1⟩ => wpAny_bind (wpAny_standAt (wpAny_pure ?_))))
  exact thn (hr pos pins s1 σ H1 _ I1 q1) fun us s2 ⟨xs, H2, I2, r2, q2⟩ => ⟨x :: xs, H2, I2, .cons r1 r2, q2⟩

/-- how a call with keywords binds: g puts the positional values us and the keywords' values ws (names ks) in the parameters' order, defaults among them -/
structure KBinds (K : PySem.W.Frag) (fd : FuncData) (ps ks : List Str) (g : List Value → List Value → List Value) (gV : List V → List V → List V) : Prop where
  to : ∀ (s : Shared) (us ws : List Value), K.In s.heap → (g us ws).length = ps.length → BindsTo s fd ⟨us, ks.zip ws⟩ (ps.zip (g us ws))
  rel : ∀ {vs : List V} {us : List Value} {zs : List V} {ws : List Value}, Vals vs us → Vals zs ws → Vals (gV vs zs) (g us ws)
def tCallK (sp : Sp) (gV : List V → List V → List V) (E : XK) (t tk : TA) : TE := fun σ H Q => t σ H fun vs H1 => tk σ H1 fun zs H2 => sp (gV vs zs) H2 Q E
variable {g : List Value → List Value → List Value} {gV : List V → List V → List V}
theorem run_fnk {pins : List (Addr × Obj)} {σ : St} {H : Hp} {s : Shared} {Q : VK} {us ws : List Value} {vs zs : List V} (F : FnOk X.prog X.w X.K X.mg X.base CX k f fd ps sp) (hr : Room k X.A) (hb : KBinds X.K fd ps ks g gV) (hx : Passes CX X E)
    (I : Inv X pins σ H s) (r : Vals vs us) (rz : Vals zs ws) (h : sp (gV vs zs) H Q E) : wpAny (model X.prog X.w) X.A (call (.ref f) us (ks.zip ws)) (EP X pins σ Q) X.xe s := by
  have r2 := hb.rel r rz
  have hl : (g us ws).length = ps.length := by rw [← r2.length]; exact F.len _ _ _ _ h
  refine wpAny_call (codeAny_mono (F.run X.A X.stack s H ⟨us, ks.zip ws⟩ (g us ws) (gV vs zs) Q E hr I.env0 (hb.to s us ws I.kIn hl) r2 h) fun r s' hq => ?_)
  cases r with
  | error e => exact hx pins σ H s e s' I hq
  | ok fl =>
    cases fl with
    | ret u => exact I.after hq
    | next => exact False.elim hq
    | brk => exact False.elim hq
    | cont => exact False.elim hq
/-- f(e, .., k = v, ..) -/
theorem pe_callK (F : FnOk X.prog X.w X.K X.mg X.base CX k f fd ps sp) (hr : Room k X.A) (hg : Gl X x) (hm : X.mg x = some (.ref f)) (hk : PySem.W.keepIn X.K (.ref f) = true) (hb : KBinds X.K fd ps ks g gV) (hx : Passes CX X E)
    (ha : PA X (e :: es) t) (hkw : PK X kws tk) (hall : (backToKw pos (keywordEach kws X.env)).all (·.1.isSome) = true := by rfl) (hks : (backToKw pos (keywordEach kws X.env)).filterMap (·.1) = ks := by rfl)
    (hdb : (x == ("__debug__" : Str)) = false := by decide) (he : starEach (e :: es) X.env = (false, eval e X.env) :: starEach es X.env := by rfl)
    (hpl : ((backTo pos (starEach (e :: es) X.env)).any (·.1) || (backToKw pos (keywordEach kws X.env)).any (·.1.isNone)) = false := by rfl) :
    PE X (.Call (.Name x p) (e :: es) kws pos) (tCallK sp gV E t tk) := by
  intro pins s σ H Q I h
  refine wpAny_Call_Name_kw (ld_glob I hg hm ?_ hdb)
  refine PySem.W.callWith_KW (h₀ := X.base) I.ok.mod.kin hk hall (thn (ha pos pins s σ H _ I h) fun us s1 ⟨vs, H1, I1, r, q⟩ => ?_) hpl he
  refine thn (hkw pos pins s1 σ H1 _ I1 q) fun ws s2 ⟨zs, H2, I2, rz, q2⟩ => ⟨I2.kIn, ?_⟩
  rw [hks]
  exact run_fnk F hr hb hx I2 r rz q2
end

/-! ### a def's body keeps its promise -/
/-- names: the parameters first -/
structure FnScope (N P : List Str) (sc : Scope) : Prop where
  kind : sc.kind = .function
  co : sc.isCoroutine = false
  gen : sc.isGenerator = false
  nd : N.Nodup
  pre : N.take P.length = P
  par : ∀ x ∈ P, sc.names.lookup x = some .local ∨ sc.names.lookup x = some .cell
  nofree : ∀ y ∈ sc.names, y.2 ≠ .free

theorem bindL_out {kindOf : Str → Option NameKind} {x : Str} : ∀ {binds : List (Str × Value)} {m : Str → Option Value}, (∀ v, (x, v) ∉ binds) → bindL kindOf binds m x = m x
  | [], _, _ => rfl
  | (n, v) :: r, m, h => by
    unfold bindL
    rw [bindL_out fun w hw => h w (List.mem_cons_of_mem _ hw)]
    split
    · have : x ≠ n := by rintro rfl; exact h v List.mem_cons_self
      simp [this]
    · rfl
theorem bindC_out {kindOf : Str → Option NameKind} {x : Str} : ∀ {binds : List (Str × Value)} {m : Str → Option Value}, (∀ v, (x, v) ∉ binds) → bindC kindOf binds m x = m x
  | [], _, _ => rfl
  | (n, v) :: r, m, h => by
    unfold bindC
    rw [bindC_out fun w hw => h w (List.mem_cons_of_mem _ hw)]
    split
    · rfl
    · have : x ≠ n := by rintro rfl; exact h v List.mem_cons_self
      simp [this]
theorem bindL_get {kindOf : Str → Option NameKind} {x : Str} {v : Value} : ∀ {P : List Str} {vs : List Value} {i : Nat} {m : Str → Option Value}, P.Nodup → P[i]? = some x → vs[i]? = some v → kindOf x = some .local →
    bindL kindOf (P.zip vs) m x = some v
  | [], _, _, _, _, h, _, _ => by simp at h
  | _ :: _, [], _, _, _, _, h, _ => by simp at h
  | p :: P, w :: vs, 0, m, nd, h1, h2, hk => by
    simp at h1 h2; subst h1; subst h2
    show bindL kindOf ((p, w) :: P.zip vs) m p = _
    unfold bindL
    rw [bindL_out fun v hv => (List.nodup_cons.mp nd).1 (List.of_mem_zip hv).1, if_pos hk]
    simp
  | p :: P, w :: vs, i + 1, m, nd, h1, h2, hk => by
    show bindL kindOf ((p, w) :: P.zip vs) m x = _
    unfold bindL
    exact bindL_get (i := i) (List.nodup_cons.mp nd).2 (by simpa using h1) (by simpa using h2) hk
theorem bindC_get {kindOf : Str → Option NameKind} {x : Str} {v : Value} : ∀ {P : List Str} {vs : List Value} {i : Nat} {m : Str → Option Value}, P.Nodup → P[i]? = some x → vs[i]? = some v → kindOf x ≠ some .local →
    bindC kindOf (P.zip vs) m x = some v
  | [], _, _, _, _, h, _, _ => by simp at h
  | _ :: _, [], _, _, _, _, h, _ => by simp at h
  | p :: P, w :: vs, 0, m, nd, h1, h2, hk => by
    simp at h1 h2; subst h1; subst h2
    show bindC kindOf ((p, w) :: P.zip vs) m p = _
    unfold bindC
    rw [bindC_out fun v hv => (List.nodup_cons.mp nd).1 (List.of_mem_zip hv).1, if_neg hk]
    simp
  | p :: P, w :: vs, i + 1, m, nd, h1, h2, hk => by
    show bindC kindOf ((p, w) :: P.zip vs) m x = _
    unfold bindC
    exact bindC_get (i := i) (List.nodup_cons.mp nd).2 (by simpa using h1) (by simpa using h2) hk

/-- the names' values at the entry -/
def start (N : List Str) (vs : List V) : St := vs.map some ++ List.replicate (N.length - vs.length) none

/-- the context of a def's body, at its entry; an exception leaves the frame, then lies as CX says -/
def cxOf (CX : CXT) (P : Program) (w : World) (K : PySem.W.Frag) (mg : Str → Option Value) (base : Heap) (N : List Str) (qual : Str) (scope : Scope) (f : Addr) (cd : Value) (A : Around) (outer : List Env) (s : Shared) (H : Hp) (E : XK) : Cx where
  prog := P
  w := w
  K := K
  mg := mg
  base := base
  A := A.deeper (envOfC qual scope s.heap.objs.size f cd)
  N := N
  s₀ := s
  H₀ := H
  env := envOfC qual scope s.heap.objs.size f cd
  outer := outer
  stack := envOfC qual scope s.heap.objs.size f cd :: outer
  ex := []
  calm := true
  fn := fun _ => true
  pn := []
  xe := fun e s' => wpAny (model P w) (A.deeper (envOfC qual scope s.heap.objs.size f cd)) (leaving (envOfC qual scope s.heap.objs.size f cd) e) (fun _ s'' => CX outer H s E e s'') (fun e' s'' => CX outer H s E e' s'') s'

theorem cell_has {sc : Scope} {n : Nat} {x : Str} (h : sc.names.lookup x = some .cell) : ∃ c, (cellsFrom n sc.names []).lookup x = some c := by
  have q := PySem.W.cellsFrom_some sc.names n [] (.inl h)
  exact Option.isSome_iff_exists.mp q

theorem inv_start {CX : CXT} {P : Program} {w : World} {K : PySem.W.Frag} {mg : Str → Option Value} {base : Heap} {N ps : List Str} {qual : Str} {scope : Scope} {f : Addr} {cd : Value} {A : Around} {outer : List Env} {s s1 : Shared} {H : Hp} {E : XK} {us : List Value} {vs : List V}
    (S : FnScope N ps scope) (hd : A.handled = none) (e0 : Env0 P w K mg base A outer s H) (hl : vs.length = ps.length) (r : Vals vs us)
    (x : InCallC s s.heap.objs.size (bindL (envOfC qual scope s.heap.objs.size f cd).kindOf (ps.zip us) fun _ => none) (cellsFrom (s.heap.objs.size + 1) scope.names []) (bindC (envOfC qual scope s.heap.objs.size f cd).kindOf (ps.zip us) fun _ => none) s1) :
    Inv (cxOf CX P w K mg base N qual scope f cd A outer s H E) [] (start N vs) H s1 := by
  have hpl : ps.length ≤ N.length := by have := congrArg List.length S.pre; rw [List.length_take] at this; omega
  obtain ⟨h1, tk, rfl, hk⟩ := x.done
  have noA : ∀ b : Addr, b ∉ (cxOf CX P w K mg base N qual scope f cd A outer s H E).ex := fun b z => absurd (show b ∈ ([] : List Addr) from z) (by simp)
  refine ⟨⟨e0.mod, S.kind, rfl, rfl, Nat.le_refl _, fun y z c h1 h2 => ?_, fun y hy => ?_, fun y c _ h => ?_, fun _ => hd, Around.frames_deeper e0.frames, .inr ⟨rfl, rfl⟩, fun b z => absurd z (noA b), e0.bs, e0.bsz, fun b _ _ => noA b, fun b z => absurd z (noA b), e0.funs, e0.frf⟩,
    rfl, e0.bare, Un.kept hk, ⟨_, x.toInCall.ns, fun i y v h1 h2 h3 => ?_⟩, fun y c h => ⟨_, x.cell y c h⟩, e0.hok.fresh (Nat.le_refl _), fun y c h => ?_, fun p hp => absurd (show p ∈ ([] : List (Addr × Obj)) from hp) (by simp), e0.hok.kept hk, ?_⟩
  · exact name_of_addr x.apart (PySem.mem_of_lookup h1) (PySem.mem_of_lookup h2)
  · have hy : scope.names.lookup y = some .cell ∨ scope.names.lookup y = some .free := hy
    rcases hy with hy | hy
    · exact cell_has hy
    · exact absurd rfl (S.nofree _ (PySem.mem_of_lookup hy))
  · exact Nat.le_of_lt (x.above y c (PySem.mem_of_lookup h))
  · have hi : i < vs.length := by
      unfold start at h2
      by_cases hi : i < vs.length
      · exact hi
      · rw [List.getElem?_append_right (by simpa using hi)] at h2
        rw [List.getElem?_replicate] at h2
        split at h2 <;> cases h2
    have ha : vs[i]? = some v := by
      unfold start at h2
      rw [List.getElem?_append_left (by simpa using hi), List.getElem?_map] at h2
      cases e : vs[i]? with
      | none => rw [e] at h2; cases h2
      | some a => rw [e] at h2; cases h2; rfl
    obtain ⟨u, hu, rv⟩ := r.get ha
    have hp : ps[i]? = some y := by
      rw [← S.pre, List.getElem?_take_of_lt (by omega)]; exact h1
    have ndP : ps.Nodup := by rw [← S.pre]; exact S.nd.sublist (List.take_sublist _ _)
    refine ⟨u, rv, ?_⟩
    rcases S.par y (List.mem_of_getElem? hp) with k | k
    · exact .inl ⟨k, bindL_get ndP hp hu k⟩
    · obtain ⟨c, e⟩ := cell_has (n := s.heap.objs.size + 1) k
      refine .inr ⟨.inl k, c, e, ?_⟩
      have q := x.cell y c e
      rw [bindC_get ndP hp hu (by show scope.names.lookup y ≠ _; rw [k]; decide)] at q
      exact q
  · exact e0.hok.fresh (Nat.le_of_lt (x.above y c (PySem.mem_of_lookup h)))
  · unfold start
    show _ = N.length
    rw [List.length_append, List.length_map, List.length_replicate]
    omega

/-- THE RULE: a def (or a method) of the text, by its body. The body's reading t is chosen for each entry; it is run at the parameters' values -/
theorem fn_of {CX : CXT} {P : Program} {w : World} {K : PySem.W.Frag} {mg : Str → Option Value} {base : Heap} {k : Nat} {f : Addr} {name qual : Str} {params : Arguments} {body : List Stmt} {scope : Scope} {dV kV doc pm cdv ct oc : Value} {an od : Option Addr}
    {osl : Array (Option Value)} {N ps : List Str} {sp : Sp} (lk : K.lookup f = some ⟨oc, od, .func (PySem.W.fnOf name qual params body scope dV kV doc pm an cdv ct), osl⟩) (hcd : PySem.W.codeIn K cdv qual = true) (S : FnScope N ps scope)
    (len : ∀ vs H Q E, sp vs H Q E → vs.length = ps.length)
    (hbody : ∀ (A : Around) (outer : List Env) (s : Shared) (H : Hp) (vs : List V) (Q : VK) (E : XK), Room k (A.deeper (envOfC qual scope s.heap.objs.size f cdv)) → sp vs H Q E →
      ∃ t, PSs (cxOf CX P w K mg base N qual scope f cdv A outer s H E) body t ∧ t { nx := fun _ H' => Q .non H', rt := Q } (start N vs) H) :
    FnOk P w K mg base CX (k + 1) f (PySem.W.fnOf name qual params body scope dV kV doc pm an cdv ct) ps sp := by
  refine ⟨len, fun A outer s H args us vs Q E hr e0 hb r hsp => ?_⟩
  have hl := len _ _ _ _ hsp
  have KX : K.In s.heap := e0.mod.kin.keeps fun b o e => (e0.bs b o e).1
  have lim : s.heap.NoLimit := e0.mod.nolimit.keeps fun b o e => (e0.bs b o e).1
  have hkind : ∀ y ∈ ps.zip us, scope.names.lookup y.1 = some .local ∨ (scope.names.lookup y.1 = some .cell ∧ ((cellsFrom (s.heap.objs.size + 1) scope.names []).lookup y.1).isSome = true) := fun ⟨n, v⟩ hy => by
    rcases S.par n (List.of_mem_zip hy).1 with q | q
    · exact .inl q
    · exact .inr ⟨q, PySem.W.cellsFrom_some _ _ _ (.inl q)⟩
  refine codeAny_call_function hr.depth (KX _ _ lk) rfl S.co S.gen rfl (PySem.W.codeRec_of KX hcd) (hb _ _ _ _ ?_)
  refine wpAny_newFunctionEnv_cells S.kind hkind fun env he s1 x => ?_
  subst he
  refine ⟨lim.keeps x.toInCall.keep, codeAny_func ?_⟩
  obtain ⟨t, ht, hq⟩ := hbody A outer s H vs Q E (hr.deeper _) hsp
  have I : Inv (cxOf CX P w K mg base N qual scope f cdv A outer s H E) [] (start N vs) H s1 := inv_start S hr.hd e0 hl r x
  refine wpAny_mono (ht [] s1 (start N vs) H _ I hq) (fun fl s' hs => ?_) fun e s' hs => hs
  have fin : ∀ {σ' : St} {H' : Hp} {v : V} {u : Value}, Inv (cxOf CX P w K mg base N qual scope f cdv A outer s H E) [] σ' H' s' → RelV v u → Q v H' → CE outer P w H s Q u s' :=
    fun {σ' H' v u} J rv q => ⟨v, H', J.os, J.bare, J.base, J.hok, rv, q⟩
  cases fl with
  | ret u =>
    obtain ⟨v, σ', H', J, rv, q⟩ := hs
    exact fin J rv q
  | next =>
    obtain ⟨σ', H', J, q⟩ := hs
    exact fin (v := V.non) (u := Value.none) J rfl q
  | brk =>
    obtain ⟨_, _, _, q⟩ := hs
    exact False.elim q
  | cont =>
    obtain ⟨_, _, _, q⟩ := hs
    exact False.elim q
end L2

namespace L2
open PySem PySem.Spec PyProof.Rows
section
variable {X : Cx} {x : Str} {p pos : Pos} {e : Expr} {es : List Expr} {t : TA} {id T : String} {r : List V → Hp → VK → Prop}

def tCB (r : List V → Hp → VK → Prop) (t : TA) : TE := fun σ H Q => t σ H fun vs H1 => r vs H1 Q
/-- f(e, ..), f a built-in function -/
theorem pe_callB (hc : CallR X (.builtin id) r) (hg : Gl X x) (hm : X.mg x = none) (hv : bootBuiltins x = some (.builtin id)) (ha : PA X (e :: es) t) (hn : x ≠ "__name__" := by decide) (hdb : (x == ("__debug__" : Str)) = false := by decide)
    (he : starEach (e :: es) X.env = (false, eval e X.env) :: starEach es X.env := by rfl) (hpl : (backTo pos (starEach es X.env)).any (·.1) = false := by rfl) : PE X (.Call (.Name x p) (e :: es) [] pos) (tCB r t) := by
  intro pins s σ H Q I h
  refine wpAny_Call_Name_kw (ld_blt I hg hm hv ?_ hn hdb)
  exact PyProof.Rows.callWith_builtin1 (thn (ha pos pins s σ H _ I h) fun us s1 ⟨vs, H1, I1, r1, q1⟩ => hc pins s1 σ H1 vs us Q I1 r1 q1) he hpl
/-- T(e, ..), T a built-in type -/
theorem pe_callTy (hc : CallR X (.type T) r) (hg : Gl X x) (hm : X.mg x = none) (hv : bootBuiltins x = some (.type T)) (ha : PA X (e :: es) t) (hn : x ≠ "__name__" := by decide) (hdb : (x == ("__debug__" : Str)) = false := by decide)
    (he : starEach (e :: es) X.env = (false, eval e X.env) :: starEach es X.env := by rfl) (hpl : (backTo pos (starEach es X.env)).any (·.1) = false := by rfl) : PE X (.Call (.Name x p) (e :: es) [] pos) (tCB r t) := by
  intro pins s σ H Q I h
  refine wpAny_Call_Name_kw (ld_blt I hg hm hv ?_ hn hdb)
  exact PyProof.Rows.callWith_type1 (thn (ha pos pins s σ H _ I h) fun us s1 ⟨vs, H1, I1, r1, q1⟩ => hc pins s1 σ H1 vs us Q I1 r1 q1) he hpl
/-- T() -/
theorem pe_callTy0 (hc : CallR X (.type T) r) (hg : Gl X x) (hm : X.mg x = none) (hv : bootBuiltins x = some (.type T)) (hn : x ≠ "__name__" := by decide) (hdb : (x == ("__debug__" : Str)) = false := by decide) :
    PE X (.Call (.Name x p) [] [] pos) (tCB r tNil) := by
  intro pins s σ H Q I h
  refine wpAny_Call_Name_kw (ld_blt I hg hm hv ?_ hn hdb)
  exact PyProof.Rows.callWith_type0 (hc pins s σ H [] [] Q I .nil h)
end
end L2

namespace HT
open PySem PyProof.Rows

/-- t < u of tuples of ints -/
def lexLt : List Int → List Int → Bool
  | [], [] => false
  | [], _ :: _ => true
  | _ :: _, [] => false
  | x :: xs, y :: ys => if x = y then lexLt xs ys else decide (x < y)
theorem lexLt_cons (x y : Int) (xs ys : List Int) : lexLt (x :: xs) (y :: ys) = if x = y then lexLt xs ys else decide (x < y) := rfl
theorem lexLt_nil_nil : lexLt [] [] = false := rfl
theorem lexLt_nil_cons (y : Int) (ys : List Int) : lexLt [] (y :: ys) = true := rfl
theorem lexLt_cons_nil (x : Int) (xs : List Int) : lexLt (x :: xs) [] = false := rfl

theorem eqAt_int (A : Around) (s : Shared) (a : Int) (t : Tok) (c : Int) (u : Tok) : ∃ e, SeqAt.EqAt A s (.int a t) (.int c u) e ∧ (e = true ↔ a = c) :=
  ⟨(a == c), SeqAt.EqAt.int_int a t c u, by simp⟩
theorem rcLt_int (A : Around) (s : Shared) (a : Int) (t : Tok) (c : Int) (u : Tok) (prog : Program) (w : World) (E : Value → Shared → Prop) (Q : Value → Shared → Prop) (h : Q (.bool (decide (a < c))) s) :
    wpAny (model prog w) A (richCompare .Lt (.int a t) (.int c u)) Q E s :=
  (PyProof.Rows.lt_int h : wpAny (model prog w) A (compareOp .Lt (.int a t) (.int c u)) Q E s)

section
open PySem.SeqAt
open PySem.AutoSeq1 (wpAny_loadPart')
open PySem.MeetsSeq PySem.MeetsSeq2 PySem.MeetsSeq3

theorem tuple_lt_ints (l b : Addr) (items items2 : Array Value) (n n2 : Nat) (dd dd2 : Option Addr) (sl sl2 : Array (Option Value)) (ns ms : List Int) (hi : IntsAre items.toList ns) (hj : IntsAre items2.toList ms) :
    Meets (Builtin.«tuple.__lt__» ⟨[.ref l, .ref b], []⟩)
      (fun _ R s => s.heap.get? l = some { cls := .type "tuple", dict := dd, data := .seq items n, slots := sl } ∧ s.heap.get? b = some { cls := .type "tuple", dict := dd2, data := .seq items2 n2, slots := sl2 } ∧
        R (.ok (.ret (.bool (lexLt ns ms)))) s) :=
  .of_wp fun prog w A R s h => by
    obtain ⟨hp, g, d, tk, os⟩ := s; obtain ⟨hl, hb, h⟩ := h
    have f2 := AutoSeq1.sub_tuple_tuple
    have z1 : items.size = ns.length := by rw [← hi.length]; simp
    have z2 : items2.size = ms.length := by rw [← hj.length]; simp
    wp_walk using wpAny_loadPart' hl, wpAny_loadPart' hb, wpAny_forIn_list _ (fun rest b s' => b.1 = none ∧ s' = ⟨hp, g, d, tk, os⟩ ∧ ∃ (vs ws : List Value) (ns' ms' : List Int), rest = vs.zip ws ∧
      IntsAre vs ns' ∧ IntsAre ws ms' ∧ ns'.length + items2.size = ms'.length + items.size ∧ R (.ok (.ret (.bool (lexLt ns' ms')))) ⟨hp, g, d, tk, os⟩) _
    case turn =>
      rintro ⟨y, x⟩ rest b s' ⟨hb', rfl, vs, ws, ns', ms', hz, hvi, hwi, hlen, hR⟩
      cases hvi with
      | nil => rw [List.zip_nil_left] at hz; cases hz
      | cons a t hvi' =>
        cases hwi with
        | nil => rw [List.zip_nil_right] at hz; cases hz
        | cons c u hwi' =>
          rw [List.zip_cons_cons] at hz
          injection hz with hyx hrest
          injection hyx with hy hx
          subst hy hx
          rw [lexLt_cons] at hR
          simp only [List.length_cons] at hlen
          obtain ⟨e, he, hiff⟩ := eqAt_int A.in1 ⟨hp, g, d, tk, os⟩ a t c u
          refine wpAny_bind (he prog w _ _ ?_)
          cases e with
          | true =>
            rw [if_pos (hiff.mp rfl)] at hR
            wp_walk
            exact ⟨rfl, rfl, _, _, _, _, hrest, hvi', hwi', by omega, hR⟩
          | false =>
            rw [if_neg (fun q => absurd (hiff.mpr q) Bool.false_ne_true)] at hR
            have hri := rcLt_int A.in1 ⟨hp, g, d, tk, os⟩ a t c u prog w
            wp_walk using hri
            exact ⟨_, rfl, by simpa using hR⟩
    case fin =>
      rintro ⟨b1, b2⟩ s' ⟨hb', rfl, vs, ws, ns', ms', hz, hvi, hwi, hlen, hR⟩
      simp only at hb'
      subst hb'
      have hv : lexLt ns' ms' = decide (items.size < items2.size) := by
        cases hvi with
        | nil =>
          cases hwi with
          | nil =>
            simp only [List.length_nil] at hlen
            rw [lexLt_nil_nil]
            exact (decide_eq_false (by omega)).symm
          | cons c u hw =>
            simp only [List.length_nil, List.length_cons] at hlen
            rw [lexLt_nil_cons]
            exact (decide_eq_true (by omega)).symm
        | cons a t hv =>
          cases hwi with
          | nil =>
            simp only [List.length_nil, List.length_cons] at hlen
            rw [lexLt_cons_nil]
            exact (decide_eq_false (by omega)).symm
          | cons c u hw =>
            rw [List.zip_cons_cons] at hz
            cases hz
      rw [hv] at hR
      wp_walk
      exact ⟨_, rfl, by simpa [Builtin.Tuple.tupleCompareSizes] using hR⟩
    case h =>
      exact ⟨rfl, rfl, items.toList, items2.toList, ns, ms, rfl, hi, hj, by omega, h⟩
end

section
variable {prog : Program} {w : World} {A : Around} {E : Value → Shared → Prop} {s : Shared}

theorem lt_tupInts {l b : Addr} {items items2 : Array Value} {ns ms : List Int} {Q : Value → Shared → Prop} (hl : IsTup s.heap l items) (hb : IsTup s.heap b items2) (hi : IntsAre items.toList ns) (hj : IntsAre items2.toList ms)
    (hu : A.units < cLine) (h : Q (.bool (lexLt ns ms)) s) : wpAny (model prog w) A (compareOp .Lt (.ref l) (.ref b)) Q E s := by
  obtain ⟨⟨cls, dd, data, sl⟩, ho, hc, n, hd⟩ := id hl
  obtain ⟨⟨cls2, dd2, data2, sl2⟩, ho2, hc2, n2, hd2⟩ := id hb
  simp only at hc hd hc2 hd2
  subst hc hd hc2 hd2
  exact richCompare_meets_room (op := .Lt) ⟨_, ho, rfl⟩ ⟨_, ho2, rfl⟩ PySem.F.slot_tuple_lt PySem.F.entry_tuple_lt (PySem.F.args_tuple_lt_2 _ _) (tuple_lt_ints l b items items2 n n2 dd dd2 sl sl2 ns ms hi hj)
    ⟨ho, ho2, show Value.bool (lexLt ns ms) ≠ Value.notImplemented ∧ Q (.bool (lexLt ns ms)) s from ⟨(fun x => nomatch x), h⟩⟩ hu

/-- t + u, t not empty -/
theorem cat_tup {t b : Addr} {vs ws : List Value} {Q : Value → Shared → Prop} (ht : IsTup s.heap t vs.toArray) (hb : IsTup s.heap b ws.toArray) (hv : vs ≠ [])
    (h1 : ws = [] → Q (.ref t) s) (h2 : ws ≠ [] → Q (.ref s.heap.objs.size) { s with heap := s.heap.push { cls := .type "tuple", data := .seq (vs ++ ws).toArray } })
    (hsz : vs.length + ws.length ≤ sizeLine) : wpAny (model prog w) A (binaryOp .Add (.ref t) (.ref b)) Q E s := by
  obtain ⟨⟨cls, dd, data, sl⟩, ho, hc, n, hd⟩ := id ht
  obtain ⟨⟨cls2, dd2, data2, sl2⟩, ho2, hc2, n2, hd2⟩ := id hb
  simp only at hc hd hc2 hd2
  subst hc hd hc2 hd2
  have e : vs.toArray ++ ws.toArray = (vs ++ ws).toArray := by simp
  by_cases hw : ws = []
  · exact concat_meets ⟨_, ho, rfl⟩ ⟨_, ho2, rfl⟩ noFill_tuple_add seq_tuple_add PySem.F.slot_tuple_add PySem.F.entry_tuple_add (PySem.F.args_tuple_add_2 _ _)
      (tuple_addW1 t b vs.toArray ws.toArray n n2 dd dd2 sl sl2 (by simpa using hv) (by simp [hw])) ⟨ho, ho2, h1 hw⟩
  · refine concat_meets ⟨_, ho, rfl⟩ ⟨_, ho2, rfl⟩ noFill_tuple_add seq_tuple_add PySem.F.slot_tuple_add PySem.F.entry_tuple_add (PySem.F.args_tuple_add_2 _ _)
      (tuple_addW2 t b vs.toArray ws.toArray n n2 dd dd2 sl sl2 (by simpa using hv) (by simpa using hw) (by rw [List.size_toArray, List.size_toArray]; exact hsz)) ⟨ho, ho2, ?_⟩
    rw [e]
    exact h2 hw

/-! ### t[a:b], not the whole -/
/-- a slice's bound as a place among n (d where it is left out) -/
def sIx (n d : Nat) : Option Int → Nat
  | none => d
  | some v => if v < 0 then (v + (n : Int)).toNat else min v.toNat n
theorem sIx_none (n d : Nat) : sIx n d none = d := rfl
theorem sIx_nat (n d k : Nat) : sIx n d (some (k : Int)) = min k n := by
  show (if (k : Int) < 0 then ((k : Int) + (n : Int)).toNat else min (k : Int).toNat n) = min k n
  rw [if_neg (by omega), Int.toNat_natCast]
theorem sIx_le (n d : Nat) (hd : d ≤ n) (o : Option Int) : sIx n d o ≤ n := by
  cases o with
  | none => exact hd
  | some v =>
    show (if v < 0 then (v + (n : Int)).toNat else min v.toNat n) ≤ n
    by_cases hv : v < 0
    · rw [if_pos hv]; omega
    · rw [if_neg hv]; exact Nat.min_le_right _ _
theorem clip_eq (v : Int) (n d : Nat) : (if v < 0 then max (v + (n : Int)) 0 else min v (n : Int)) = ((sIx n d (some v) : Nat) : Int) := by
  show (if v < 0 then max (v + (n : Int)) 0 else min v (n : Int)) = (((if v < 0 then (v + (n : Int)).toNat else min v.toNat n) : Nat) : Int)
  by_cases hv : v < 0
  · simp only [if_pos hv]; omega
  · simp only [if_neg hv]; omega
theorem adjust_gen (lo hi : Option Int) (n : Nat) : Builtin.Slice.sliceAdjust lo hi 1 (n : Int) = (((sIx n 0 lo : Nat) : Int), ((sIx n n hi : Nat) : Int)) := by
  have h1 : ¬ ((1 : Int) < 0) := by omega
  unfold Builtin.Slice.sliceAdjust
  simp only [h1, if_false]
  refine Prod.ext ?_ ?_
  · cases lo with
    | none => rfl
    | some v => exact clip_eq v n 0
  · cases hi with
    | none => rfl
    | some v => exact clip_eq v n n
theorem places_gen (i j : Nat) : Builtin.Slice.slicePlaces (i : Int) (j : Int) 1 = j - i := by
  unfold Builtin.Slice.slicePlaces
  have h1 : (1 : Int) > 0 := by omega
  simp only [h1, if_true, Int.ediv_one]
  split <;> omega
theorem slicePart_ {v : Value} {o : Option Int} {Q : Option Int → Shared → Prop} (p : IsPart v o) (h : Q o s) : wpAny (model prog w) A (Builtin.Slice.slicePartIndex v) Q E s := by
  cases p with
  | none => exact slicePart_none h
  | int i t => exact slicePart_int h
theorem sliceApplied_gen {sl : Addr} {vl vu : Value} {lo hi : Option Int} {n : Nat} {Q : Int × Int × Nat → Shared → Prop} (hs : s.heap.IsSliceOf sl vl vu .none) (pl : IsPart vl lo) (pu : IsPart vu hi)
    (h : Q (((sIx n 0 lo : Nat) : Int), 1, sIx n n hi - sIx n 0 lo) s) : wpAny (model prog w) A (Builtin.Slice.sliceApplied (.ref sl) (pure (n : Int))) Q E s := by
  obtain ⟨os, hos, hcs, hds⟩ := id hs
  unfold Builtin.Slice.sliceApplied Builtin.Slice.sliceFields
  refine wpAny_bind (wpAny_bind (wpAny_field hos hds (x := vl) rfl (wpAny_bind (wpAny_field hos hds (x := vu) rfl (wpAny_bind (wpAny_field hos hds (x := .none) rfl (wpAny_pure ?_)))))))
  refine wpAny_bind (slicePart_none ?_)
  show wpAny _ _ (if ((1 : Int) == 0) = true then _ else _) _ _ s
  rw [if_neg (by decide)]
  refine wpAny_bind (slicePart_ pl (wpAny_bind (slicePart_ pu (wpAny_bind (wpAny_pure ?_)))))
  show wpAny _ _ (match Builtin.Slice.sliceAdjust lo hi 1 (n : Int) with | (lo, hi) => pure (lo, (1 : Int), Builtin.Slice.slicePlaces lo hi 1)) _ _ s
  rw [adjust_gen lo hi n]
  show wpAny _ _ (pure (((sIx n 0 lo : Nat) : Int), (1 : Int), Builtin.Slice.slicePlaces ((sIx n 0 lo : Nat) : Int) ((sIx n n hi : Nat) : Int) 1)) _ _ s
  rw [places_gen]
  exact wpAny_pure h
theorem pick_gen (xs : Array Value) (i k : Nat) : ((List.range k).filterMap fun (m : Nat) => xs[((i : Int) + (m : Int) * 1).toNat]?).toArray = ((xs.toList.drop i).take k).toArray := by
  have e : (fun (m : Nat) => xs[((i : Int) + (m : Int) * 1).toNat]?) = fun m => xs[i + m]? := by
    funext m
    have : ((i : Int) + (m : Int) * 1).toNat = i + m := by omega
    rw [this]
  rw [e]
  have := pick_run xs i k
  rw [List.filterMap_map] at this
  have e2 : ((fun x => xs[x]?) ∘ fun x => i + x) = fun m => xs[i + m]? := rfl
  rw [e2] at this
  rw [this]

theorem getItem_tuple_cut {t sl : Addr} {items : Array Value} {vl vu : Value} {lo hi : Option Int} {Q : Value → Shared → Prop} (ht : IsTup s.heap t items) (hs : s.heap.IsSliceOf sl vl vu .none) (pl : IsPart vl lo) (pu : IsPart vu hi)
    (hw : ¬ (sIx items.size 0 lo = 0 ∧ sIx items.size items.size hi = items.size))
    (h : Q (.ref s.heap.objs.size) { s with heap := s.heap.push { cls := .type "tuple", data := .seq ((items.toList.drop (sIx items.size 0 lo)).take (sIx items.size items.size hi - sIx items.size 0 lo)).toArray } })
    (hsz : items.size ≤ sizeLine) : wpAny (model prog w) A (getItem (.ref t) (.ref sl)) Q E s := by
  have htake : sizeOk (.seq ((items.toList.drop (sIx items.size 0 lo)).take (sIx items.size items.size hi - sIx items.size 0 lo)).toArray) := by
    show ((items.toList.drop (sIx items.size 0 lo)).take (sIx items.size items.size hi - sIx items.size 0 lo)).toArray.size ≤ sizeLine
    rw [List.size_toArray, List.length_take, List.length_drop, Array.length_toList]
    omega
  have hj : sIx items.size items.size hi ≤ items.size := sIx_le _ _ (Nat.le_refl _) hi
  obtain ⟨os, hos, hcs, hds⟩ := id hs
  have hTs : s.TypeIs (.ref sl) "slice" := ⟨os, hos, hcs⟩
  unfold getItem
  try with_reducible refine wpAny_holding ?_
  first | refine wpAny_bind (wpAny_pure ?_) | skip
  refine wpAny_bind (wpAny_sequenceKey ht.typeIs (by decide) ?_)
  refine wpAny_bind (wpAny_callSpecial?_slot (name := Str.ofString "__getitem__") ht.typeIs PyProof.Rows.slot_tuple_getitem
    (wpAny_call_entry PyProof.Rows.slot_tuple_getitem ht.typeIs entry_tuple_getitem ?_ (args_tuple_getitem _ _)))
  show wpAny _ _ (Builtin.Tuple.tupleItemsOf (.ref t) >>= _) _ _ s
  refine wpAny_bind (tupleItemsOf_ ht ?_)
  refine wpAny_bind (wpAny_typeOf hTs ?_)
  rw [if_pos (by decide)]
  refine wpAny_bind (sliceApplied_gen hs pl pu ?_)
  have hno : ¬ ((((sIx items.size 0 lo : Nat) : Int) == 0 && (1 : Int) == 1 && (sIx items.size items.size hi - sIx items.size 0 lo) == items.size) = true) := by
    intro q
    rw [Bool.and_eq_true, Bool.and_eq_true] at q
    have q1 : ((sIx items.size 0 lo : Nat) : Int) = 0 := eq_of_beq q.1.1
    have q2 : sIx items.size items.size hi - sIx items.size 0 lo = items.size := eq_of_beq q.2
    exact hw ⟨by omega, by omega⟩
  show wpAny _ _ (if (((sIx items.size 0 lo : Nat) : Int) == 0 && (1 : Int) == 1 && (sIx items.size items.size hi - sIx items.size 0 lo) == items.size) = true then _ else _) _ _ s
  rw [if_neg hno, pick_gen]
  first
    | exact wpAny_bind (m := Builtin.Tuple.tupleExact _) (wpAny_newObj_type (wpAny_pure ⟨_, rfl, wpAny_pure h⟩) htake)
    | exact wpAny_bind (m := Builtin.Tuple.tupleExact _) (wpAny_newObj_type (wpAny_bind (wpAny_pure (wpAny_pure ⟨_, rfl, wpAny_pure h⟩))) htake)
    | exact wpAny_bind (wpAny_bind (m := Builtin.Tuple.tupleExact _) (wpAny_newObj_type (wpAny_pure (wpAny_pure ⟨_, rfl, wpAny_pure h⟩)) htake))
    | exact wpAny_bind (wpAny_bind (m := Builtin.Tuple.tupleExact _) (wpAny_newObj_type (wpAny_pure ⟨_, rfl, wpAny_pure h⟩) htake))
end
end HT

namespace L2
open PySem PySem.Spec PyProof.Rows

/-! ### the parts of a slice -/
abbrev TO := St → Hp → (Option Int → Hp → Prop) → Prop
/-- a slice's part (left out, or an int) -/
def PO (X : Cx) (e : Option Expr) (t : TO) : Prop :=
  ∀ (pins : List (Addr × Obj)) (s : Shared) (σ : St) (H : Hp) (Q : Option Int → Hp → Prop), Inv X pins σ H s → t σ H Q →
    wpAny (model X.prog X.w) X.A (evalPart e X.env) (fun u s' => ∃ o H', Inv X pins σ H' s' ∧ IsPart u o ∧ Q o H') X.xe s
def tNoPart : TO := fun _ H Q => Q none H
def tPart (t : TE) : TO := fun σ H Q => t σ H fun x H1 => ∃ i, x = .int i ∧ Q (some i) H1

theorem intsAre_of {ns : List Int} : ∀ {us : List Value}, Vals (ns.map V.int) us → IntsAre us ns := by
  induction ns with
  | nil => intro us r; rw [List.map_nil] at r; cases r; exact .nil
  | cons n ns ih =>
    intro us r
    rw [List.map_cons] at r
    cases r with
    | cons r1 r2 =>
      obtain ⟨t, e⟩ := r1
      subst e
      exact .cons n t (ih r2)

section
variable {X : Cx} {e : Expr} {te : TE} {lo hi : Option Expr} {tl th : TO} {pos p2 : Pos}

theorem po_none : PO X none tNoPart := by
  intro pins s σ H Q I h
  rw [evalPart_none]
  exact wpAny_pure ⟨none, H, I, .none, h⟩
theorem po_some (h : PE X e te) : PO X (some e) (tPart te) := by
  intro pins s σ H Q I hw
  rw [evalPart_some]
  refine thn (h pins s σ H _ I hw) fun u s1 ⟨x, H1, I1, r1, q1⟩ => ?_
  obtain ⟨i, rfl, q⟩ := q1
  obtain ⟨t, rfl⟩ := r1
  exact ⟨some i, H1, I1, .int i t, q⟩

/-- what a slice of a value is, by values: the slice object stands at sl -/
def SlR (X : Cx) (r : V → Option Int → Option Int → Hp → VK → Prop) : Prop :=
  ∀ (pins : List (Addr × Obj)) (s : Shared) (σ : St) (H : Hp) (x : V) (v vl vu : Value) (lo hi : Option Int) (sl : Addr) (Q : VK), Inv X pins σ H s → RelV x v → s.heap.IsSliceOf sl vl vu .none → IsPart vl lo → IsPart vu hi → r x lo hi H Q →
    ∃ T id, typeLookup (.type T) "__getitem__" = pure (some (.builtin id)) ∧ s.TypeIs v T ∧ wpAny (model X.prog X.w) X.A (getItem v (.ref sl)) (EP X pins σ Q) X.xe s
theorem SlR.or {r r' : V → Option Int → Option Int → Hp → VK → Prop} (h : SlR X r) (h' : SlR X r') : SlR X (fun x lo hi H Q => r x lo hi H Q ∨ r' x lo hi H Q) := by
  intro pins s σ H x v vl vu lo hi sl Q I rx hs pl pu q
  rcases q with q | q
  · exact h pins s σ H x v vl vu lo hi sl Q I rx hs pl pu q
  · exact h' pins s σ H x v vl vu lo hi sl Q I rx hs pl pu q
def tSl (r : V → Option Int → Option Int → Hp → VK → Prop) (te : TE) (tl th : TO) : TE := fun σ H Q => te σ H fun x H1 => tl σ H1 fun l H2 => th σ H2 fun u H3 => r x l u H3 Q
/-- a[lo:hi], any a -/
theorem pe_slice {r : V → Option Int → Option Int → Hp → VK → Prop} (hr : SlR X r) (he : PE X e te) (hl : PO X lo tl) (hu : PO X hi th) : PE X (.Subscript e (.Slice lo hi none p2) pos) (tSl r te tl th) := by
  intro pins s σ H Q I h
  refine Subscript_ (thn (he pins s σ H _ I h) fun v s1 ⟨x, H1, I1, r1, q1⟩ => ?_)
  refine wpAny_Slice (thn (hl pins s1 σ H1 _ I1 q1) fun vl s2 ⟨l, H2, I2, pl, q2⟩ => thn (hu pins s2 σ H2 _ I2 q2) fun vu s3 ⟨u, H3, I3, pu, q3⟩ => ?_)
  rw [evalPart_none]
  refine wpAny_pure ?_
  have I4 : Inv X pins σ H3 { s3 with heap := s3.heap.push { cls := .type "slice", data := .fields #[vl, vu, .none] } } := I3.kept (t' := s3.toks) fun b ob q => Heap.get?_push_of_some _ q
  obtain ⟨T, id, hT, ht, hg⟩ := hr pins { s3 with heap := s3.heap.push { cls := .type "slice", data := .fields #[vl, vu, .none] } } σ H3 x v vl vu l u s3.heap.objs.size Q I4 r1 (Heap.IsSliceOf.new ..) pl pu q3
  show wpAny (model X.prog X.w) X.A (subscriptTail e (.Slice lo hi none p2) v (.ref s3.heap.objs.size)) (EP X pins σ Q) X.xe { s3 with heap := s3.heap.push { cls := .type "slice", data := .fields #[vl, vu, .none] } }
  exact tail_any (ops := [.ref s3.heap.objs.size, v]) ht hT hg (by with_unfolding_all rfl)

/-- the items of xs[lo:hi] -/
def cutV (xs : List V) (lo hi : Option Int) : List V := (xs.drop (HT.sIx xs.length 0 lo)).take (HT.sIx xs.length xs.length hi - HT.sIx xs.length 0 lo)
theorem cutV_length (xs : List V) (lo hi : Option Int) : (cutV xs lo hi).length ≤ xs.length := by
  unfold cutV
  rw [List.length_take, List.length_drop]
  omega
/-- t[lo:hi], not the whole of it (the whole would be t itself) -/
def rSlT (K : PySem.W.Frag) : V → Option Int → Option Int → Hp → VK → Prop := fun x lo hi H Q => ∃ a xs, x = .ref a ∧ SqT K H a xs ∧
  ¬ (HT.sIx xs.length 0 lo = 0 ∧ HT.sIx xs.length xs.length hi = xs.length) ∧ ∀ p, H p = none → Q (.ref p) (upd H p (.tup (cutV xs lo hi)))
theorem sl_tup : SlR X (rSlT X.K) := by
  intro pins s σ H x v vl vu lo hi sl Q I rx hs pl pu h
  obtain ⟨a, xs, rfl, hx, hw, q⟩ := h
  cases rx
  obtain ⟨its, r, ht, hz⟩ := I.tuple hx
  have hlen : its.toArray.size = xs.length := by rw [List.size_toArray]; exact r.length.symm
  refine ⟨"tuple", _, PyProof.Rows.slot_tuple_getitem.lookup, ht.typeIs, ?_⟩
  refine HT.getItem_tuple_cut ht hs pl pu (by rw [hlen]; exact hw) ?_ (by rw [hlen]; exact hz)
  rw [hlen]
  refine ⟨.ref s.heap.objs.size, _, I.laid (t' := s.toks) (o := .tup (cutV xs lo hi)) (fun b ob q => Heap.get?_push_of_some _ q) (Nat.le_refl _) ?_, rfl, q _ (I.hok.fresh (Nat.le_refl _))⟩
  exact ⟨Nat.le_trans (cutV_length xs lo hi) hz, _, (r.drop (HT.sIx xs.length 0 lo)).take (HT.sIx xs.length xs.length hi - HT.sIx xs.length 0 lo), IsTup.new _ _⟩

/-! ### t < u, t + u -/
def rLtT (K : PySem.W.Frag) : R2 := fun x y H Q => ∃ a b ns ms, x = .ref a ∧ y = .ref b ∧ SqT K H a (ns.map V.int) ∧ SqT K H b (ms.map V.int) ∧ Q (.bl (HT.lexLt ns ms)) H
theorem op_ltT (hu : X.A.units < cLine) : OpR X (compareOp .Lt) (rLtT X.K) := by
  intro pins s σ H x y v u Q I rx ry h
  obtain ⟨a, b, ns, ms, rfl, rfl, ha, hb, q⟩ := h
  cases rx
  cases ry
  obtain ⟨its, r1, p1, _⟩ := I.tuple ha
  obtain ⟨its2, r2, p2, _⟩ := I.tuple hb
  have i1 : IntsAre its.toArray.toList ns := intsAre_of r1
  have i2 : IntsAre its2.toArray.toList ms := intsAre_of r2
  exact HT.lt_tupInts p1 p2 i1 i2 hu ⟨.bl (HT.lexLt ns ms), H, I, rfl, q⟩
/-- t + u, t not empty: u empty gives t itself -/
def rCatT (K : PySem.W.Frag) : R2 := fun x y H Q => ∃ a b xs ys, x = .ref a ∧ y = .ref b ∧ SqT K H a xs ∧ SqT K H b ys ∧ xs ≠ [] ∧ xs.length + ys.length ≤ sizeLine ∧
  (ys = [] → Q (.ref a) H) ∧ (ys ≠ [] → ∀ p, H p = none → Q (.ref p) (upd H p (.tup (xs ++ ys))))
theorem Vals.nil_iff {xs : List V} {us : List Value} (r : Vals xs us) : us = [] ↔ xs = [] := by
  cases r with
  | nil => simp
  | cons _ _ => simp
theorem op_catT : OpR X (binaryOp .Add) (rCatT X.K) := by
  intro pins s σ H x y v u Q I rx ry h
  obtain ⟨a, b, xs, ys, rfl, rfl, ha, hb, hx, hz, q1, q2⟩ := h
  cases rx
  cases ry
  obtain ⟨its, r1, p1, _⟩ := I.tuple ha
  obtain ⟨its2, r2, p2, _⟩ := I.tuple hb
  refine HT.cat_tup p1 p2 (fun z => hx (r1.nil_iff.mp z)) (fun z => ⟨.ref a, H, I, rfl, q1 (r2.nil_iff.mp z)⟩) (fun z => ?_) (by rw [← r1.length, ← r2.length]; exact hz)
  refine ⟨.ref s.heap.objs.size, _, I.laid (t' := s.toks) (o := .tup (xs ++ ys)) (fun b ob q => Heap.get?_push_of_some _ q) (Nat.le_refl _) ?_, rfl, q2 (fun w => z (r2.nil_iff.mpr w)) _ (I.hok.fresh (Nat.le_refl _))⟩
  exact ⟨by rw [List.length_append]; exact hz, _, r1.append r2, IsTup.new _ _⟩
/-- tuple(t) -/
theorem call_tupleT : CallR X (.type "tuple") (fun xs H Q => ∃ a ys, xs = [.ref a] ∧ SqT X.K H a ys ∧ Q (.ref a) H) := by
  intro pins s σ H xs us Q I r h
  obtain ⟨a, ys, rfl, ha, q⟩ := h
  obtain ⟨u, rfl, ru⟩ := vals1 r
  cases ru
  obtain ⟨its, _, p1, _⟩ := I.tuple ha
  exact call_tuple_same (items := its.toArray) p1 ⟨.ref a, H, I, rfl, q⟩
end
end L2

namespace L2
open PySem PySem.Spec PyProof.Rows

/-! ### places -/
/-- the place that an index of any sign means -/
def ixN (n : Nat) (i : Int) : Option Nat := if 0 ≤ i then (if i < n then some i.toNat else none) else if -(n : Int) ≤ i then some (i + n).toNat else none
def atI {α : Type} (xs : List α) (i : Int) : Option α := (ixN xs.length i).bind fun j => xs[j]?
theorem ixN_seq {n : Nat} {i : Int} {j : Nat} (h : ixN n i = some j) : seqIndex? i n = some j ∧ j < n ∧ -(n : Int) ≤ i ∧ i < n := by
  unfold ixN at h
  by_cases h0 : 0 ≤ i
  · rw [if_pos h0] at h
    by_cases h1 : i < n
    · rw [if_pos h1] at h
      have e : i.toNat = j := Option.some.inj h
      exact ⟨by rw [seqIndex_of h0 h1, e], by omega, by omega, h1⟩
    · rw [if_neg h1] at h; cases h
  · rw [if_neg h0] at h
    by_cases h1 : -(n : Int) ≤ i
    · rw [if_pos h1] at h
      have e : (i + n).toNat = j := Option.some.inj h
      exact ⟨by rw [seqIndex_neg (by omega) h1, e], by omega, h1, by omega⟩
    · rw [if_neg h1] at h; cases h
theorem atI_get {α : Type} {xs : List α} {i : Int} {v : α} (h : atI xs i = some v) : ∃ j, seqIndex? i xs.length = some j ∧ xs[j]? = some v ∧ j < xs.length ∧ -(xs.length : Int) ≤ i ∧ i < xs.length := by
  unfold atI at h
  cases e : ixN xs.length i with
  | none => rw [e] at h; cases h
  | some j =>
    rw [e] at h
    obtain ⟨h1, h2, h3, h4⟩ := ixN_seq e
    exact ⟨j, h1, h, h2, h3, h4⟩
theorem atI_nat {α : Type} {xs : List α} {j : Nat} {v : α} (h : xs[j]? = some v) : atI xs (j : Int) = some v := by
  have hj : j < xs.length := (List.getElem?_eq_some_iff.mp h).1
  have e : ixN xs.length (j : Int) = some j := by
    unfold ixN
    rw [if_pos (by omega), if_pos (by omega)]; simp
  unfold atI; rw [e]; exact h
theorem atI_last {α : Type} (xs : List α) (v : α) : atI (xs ++ [v]) (-1) = some v := by
  have hl : (xs ++ [v]).length = xs.length + 1 := by simp
  have e : ixN (xs ++ [v]).length (-1) = some xs.length := by
    unfold ixN
    rw [hl, if_neg (by decide), if_pos (by omega)]
    congr 1
    omega
  unfold atI
  rw [e]
  show (xs ++ [v])[xs.length]? = some v
  simp

/-! ### what may be subscripted -/
/-- what stands as an index of a plain subscript -/
def PlainIx (b : Expr) : Prop := ∀ o i, subscripted b false o i = operate [o, i] (getItem o i)
/-- a subscript by values -/
def IxR (X : Cx) (r : R2) : Prop :=
  ∀ (value slice : Expr) (pins : List (Addr × Obj)) (s : Shared) (σ : St) (H : Hp) (x y : V) (v u : Value) (Q : VK), Inv X pins σ H s → RelV x v → RelV y u → r x y H Q →
    subscripted slice false v u = operate [v, u] (getItem v u) → wpAny (model X.prog X.w) X.A (subscriptTail value slice v u) (EP X pins σ Q) X.xe s
/-- a call of a builtin's method by values: the receiver, the arguments -/
def MtR (X : Cx) (id : String) (r : V → List V → Hp → VK → Prop) : Prop :=
  ∀ (pins : List (Addr × Obj)) (s : Shared) (σ : St) (H : Hp) (x : V) (xs : List V) (v : Value) (us : List Value) (Q : VK), Inv X pins σ H s → RelV x v → Vals xs us → r x xs H Q →
    wpAny (model X.prog X.w) X.A (call (.builtin id) (v :: us)) (EP X pins σ Q) X.xe s
section
variable {X : Cx} {a b : Expr} {ta tb : TE} {pos : Pos}
theorem IxR.or {r r' : R2} (h : IxR X r) (h' : IxR X r') : IxR X (fun x y H Q => r x y H Q ∨ r' x y H Q) := by
  intro value slice pins s σ H x y v u Q I rx ry q hs
  rcases q with q | q
  · exact h value slice pins s σ H x y v u Q I rx ry q hs
  · exact h' value slice pins s σ H x y v u Q I rx ry q hs
theorem MtR.or {id : String} {r r' : V → List V → Hp → VK → Prop} (h : MtR X id r) (h' : MtR X id r') : MtR X id (fun x xs H Q => r x xs H Q ∨ r' x xs H Q) := by
  intro pins s σ H x xs v us Q I rx rs q
  rcases q with q | q
  · exact h pins s σ H x xs v us Q I rx rs q
  · exact h' pins s σ H x xs v us Q I rx rs q
/-- a[b] -/
theorem pe_ix {r : R2} (hr : IxR X r) (ha : PE X a ta) (hb : PE X b tb) (hs : PlainIx b) : PE X (.Subscript a b pos) (tOp r ta tb) := by
  intro pins s σ H Q I h
  exact Subscript_ (binT ha hb I h fun v u s2 x y H2 I2 rx ry q => hr a b pins s2 σ H2 x y v u Q I2 rx ry q (hs _ _))

def rIxL (K : PySem.W.Frag) : R2 := fun x y H Q => ∃ p xs i v, x = .ref p ∧ y = .int i ∧ SqL K H p xs ∧ atI xs i = some v ∧ Q v H
def rIxT (K : PySem.W.Frag) : R2 := fun x y H Q => ∃ p xs i v, x = .ref p ∧ y = .int i ∧ SqT K H p xs ∧ atI xs i = some v ∧ Q v H
def rIxS : R2 := fun x y H Q => ∃ z i c, x = .str z ∧ y = .int i ∧ z.length ≤ sizeLine ∧ atI z.cps.toList i = some c ∧ Q (.str ⟨#[c]⟩) H
theorem ix_list : IxR X (rIxL X.K) := by
  intro value slice pins s σ H x y v u Q I rx ry h hs
  obtain ⟨p, xs, i, z, rfl, rfl, hq, he, q⟩ := h
  cases rx
  obtain ⟨t, rfl⟩ := ry
  obtain ⟨its, r, pl, hz⟩ := I.list hq
  obtain ⟨j, h1, h2, h3, h4, h5⟩ := atI_get he
  obtain ⟨w, ew, rw'⟩ := r.get h2
  have hl := r.length
  have hn := line63
  have fin : EP X pins σ Q w s := ⟨z, H, I, rw', q⟩
  by_cases h0 : 0 ≤ i
  · have hj : i.toNat = j := by
      rw [seqIndex_of h0 h5] at h1
      exact Option.some.inj h1
    exact item_listR pl.isList h0 (by omega) (by rw [hj]; simpa using ew) fin hs
  · have hj : (i + (its.toArray.size : Int)).toNat = j := by
      rw [seqIndex_neg (by omega) h4] at h1
      rw [List.size_toArray, ← hl]
      exact Option.some.inj h1
    exact subscriptTail_builtinR (x := w) pl.isList.typeIs slot_list_getitem.lookup
      (wpAny_getItem_list_neg (Q := fun r s' => r = w ∧ EP X pins σ Q r s') pl.isList (by omega) (by rw [List.size_toArray] <;> omega) (by omega) (by rw [hj]; simpa using ew) ⟨rfl, fin⟩) hs
theorem ix_tup : IxR X (rIxT X.K) := by
  intro value slice pins s σ H x y v u Q I rx ry h hs
  obtain ⟨p, xs, i, z, rfl, rfl, hq, he, q⟩ := h
  cases rx
  obtain ⟨t, rfl⟩ := ry
  obtain ⟨its, r, pl, hz⟩ := I.tuple hq
  obtain ⟨j, h1, h2, h3, h4, h5⟩ := atI_get he
  obtain ⟨w, ew, rw'⟩ := r.get h2
  have hl := r.length
  have hn := line63
  have fin : EP X pins σ Q w s := ⟨z, H, I, rw', q⟩
  exact subscriptTail_builtinR (x := w) pl.typeIs slot_tuple_getitem.lookup
    (getItem_tuple (j := j) (Q := fun r s' => r = w ∧ EP X pins σ Q r s') pl (by omega) (by omega) (by rw [List.size_toArray, ← hl]; exact h1) (by simpa using ew) ⟨rfl, fin⟩) hs
theorem ix_str : IxR X rIxS := by
  intro value slice pins s σ H x y v u Q I rx ry h hs
  obtain ⟨z, i, c, rfl, rfl, hz, he, q⟩ := h
  obtain ⟨t, rfl⟩ := rx
  obtain ⟨t', rfl⟩ := ry
  obtain ⟨j, h1, h2, h3, h4, h5⟩ := atI_get he
  have hl : z.cps.toList.length = z.length := by simp [Str.length]
  rw [hl] at h1 h4 h5
  have hn := line63
  exact tail_any (typeIs_str s z t) slot_str_getitem.lookup (getItem_str (c := c) (by
    have e1 : decide (i < -(2 ^ 63 : Int)) = false := decide_eq_false (by omega)
    have e2 : decide (i ≥ 2 ^ 63) = false := decide_eq_false (by omega)
    rw [e1, e2, Bool.or_false]) (by rw [h1]; simpa using h2) ⟨.str ⟨#[c]⟩, H, I.tok _, ⟨_, rfl⟩, q⟩) hs
/-- list, tuple or str -/
def rIx (K : PySem.W.Frag) : R2 := fun x y H Q => rIxL K x y H Q ∨ rIxT K x y H Q ∨ rIxS x y H Q
theorem ix_seq : IxR X (rIx X.K) := ix_list.or (ix_tup.or ix_str)

/-! ### xs[i] = v, any sign -/
/-- the list's object behind a store -/
theorem mapSeq_set (its : List Value) (n j : Nat) (u : Value) : Obj.mapSeq (·.setIfInBounds j u) { cls := .type "list", data := .seq its.toArray n } = { cls := .type "list", data := .seq (its.set j u).toArray n } := by
  simp [Obj.mapSeq]
theorem Inv.lst {pins : List (Addr × Obj)} {σ : St} {H : Hp} {s : Shared} {p : Addr} {xs : List V} (I : Inv X pins σ H s) (h : H p = some (.lst xs)) :
    ∃ (its : List Value) (n : Nat), Vals xs its ∧ s.heap.get? p = some { cls := .type "list", data := .seq its.toArray n } ∧ xs.length ≤ sizeLine := by
  obtain ⟨z, its, n, r, e⟩ := I.hok p _ h
  exact ⟨its, n, r, e, z⟩
/-- the list at p is written by an update of its object -/
theorem Inv.lstUpd {pins : List (Addr × Obj)} {σ : St} {H : Hp} {s : Shared} {p : Addr} {xs ys : List V} {its its' : List Value} {n n' : Nat} {f : Obj → Obj} (I : Inv X pins σ H s) (h : H p = some (.lst xs))
    (ho : s.heap.get? p = some { cls := .type "list", data := .seq its.toArray n }) (hf : f { cls := .type "list", data := .seq its.toArray n } = { cls := .type "list", data := .seq its'.toArray n' }) (r : Vals ys its') (hz : ys.length ≤ sizeLine) (t : Nat) :
    Inv X pins σ (upd H p (.lst ys)) { s with heap := s.heap.update p f, toks := t } := by
  have e : (s.heap.update p f).get? p = some { cls := .type "list", data := .seq its'.toArray n' } := by
    rw [Heap.get?_update_self f ho (by rw [hf] <;> rfl), hf]
  refine I.write (x := p) (e := p) (by rw [h]; trivial) (.inl rfl) (fun b u hb q => (Heap.get?_update_other _ _ (Ne.symm hb)).trans q) ⟨_, e⟩ ?_
  exact ⟨hz, its', n', r, e⟩
def rSetL : V → V → V → Hp → (Hp → Prop) → Prop := fun o i v H Q => ∃ p xs k j, o = .ref p ∧ i = .int k ∧ H p = some (.lst xs) ∧ ixN xs.length k = some j ∧ Q (upd H p (.lst (xs.set j v)))
theorem set_list : PSet X rSetL := by
  intro pins s σ H o i v ov iv u Q I ro ri rv h
  obtain ⟨p, xs, k, j, rfl, rfl, hp, hj, q⟩ := h
  cases ro
  obtain ⟨t, rfl⟩ := ri
  obtain ⟨its, n, r, ho, hz⟩ := I.lst hp
  obtain ⟨h1, h2, h3, h4⟩ := ixN_seq hj
  have hl := r.length
  have hn := line63
  have I' : Inv X pins σ (upd H p (.lst (xs.set j v))) { s with heap := s.heap.update p (Obj.mapSeq (·.setIfInBounds j u)) } :=
    I.lstUpd hp ho (mapSeq_set its n j u) (r.set rv j) (by rw [List.length_set]; exact hz) s.toks
  by_cases h0 : 0 ≤ k
  · have hk : k.toNat = j := by
      rw [seqIndex_of h0 h4] at h1
      exact Option.some.inj h1
    exact PySem.W.ki_setAt ho h0 (by omega) (by rw [List.size_toArray, ← hl]; exact h4) (by rw [hk]; exact ⟨_, I', q⟩)
  · have hk : (k + (its.toArray.size : Int)).toNat = j := by
      rw [seqIndex_neg (by omega) h3] at h1
      rw [List.size_toArray, ← hl]
      exact Option.some.inj h1
    exact PySem.W.ki_setBack ho (by omega) (by rw [List.size_toArray, ← hl]; exact h3) (by omega) (by rw [hk]; exact ⟨_, I', q⟩)

/-! ### slices -/
theorem slice_bounds (lo hi : Option Int) (n : Nat) : (sliceBounds lo hi none n).1 = ((HT.sIx n 0 lo : Nat) : Int) ∧ (sliceBounds lo hi none n).2.1 = ((HT.sIx n n hi : Nat) : Int) ∧ (sliceBounds lo hi none n).2.2 = 1 := by
  refine ⟨?_, ?_, rfl⟩
  · cases lo with
    | none => simp [sliceBounds, HT.sIx]
    | some i =>
      simp only [sliceBounds, HT.sIx, Option.getD_none, show (1 : Int) > 0 by decide, if_true]
      by_cases h : i < 0
      · simp only [h, if_true] <;> omega
      · simp only [h, if_false] <;> omega
  · cases hi with
    | none => simp [sliceBounds, HT.sIx]
    | some i =>
      simp only [sliceBounds, HT.sIx, Option.getD_none, show (1 : Int) > 0 by decide, if_true]
      by_cases h : i < 0
      · simp only [h, if_true] <;> omega
      · simp only [h, if_false] <;> omega
theorem slicePick_cut (its : List Value) (lo hi : Option Int) : slicePick its.toArray lo hi none = ((its.drop (HT.sIx its.length 0 lo)).take (HT.sIx its.length its.length hi - HT.sIx its.length 0 lo)).toArray := by
  obtain ⟨h1, h2, h3⟩ := slice_bounds lo hi its.toArray.size
  unfold slicePick
  rw [h1, h2, h3]
  simp only [sliceRange_one, pick_run, List.size_toArray] <;> rfl
/-- xs[lo:hi] of a list: a new list -/
def rSlL (K : PySem.W.Frag) : V → Option Int → Option Int → Hp → VK → Prop := fun x lo hi H Q => ∃ a xs, x = .ref a ∧ SqL K H a xs ∧ ∀ p, H p = none → Q (.ref p) (upd H p (.lst (cutV xs lo hi)))
theorem sl_list : SlR X (rSlL X.K) := by
  intro pins s σ H x v vl vu lo hi sl Q I rx hs pl pu h
  obtain ⟨a, xs, rfl, hx, q⟩ := h
  cases rx
  obtain ⟨its, r, ht, hz⟩ := I.list hx
  have hlen := r.length
  refine ⟨"list", _, slot_list_getitem.lookup, ht.isList.typeIs, ?_⟩
  refine wpAny_getItem_list_slice ht.isList hs pl pu .none (by simp) ?_ (by rw [List.size_toArray] <;> omega)
  rw [slicePick_cut, ← hlen]
  refine ⟨.ref s.heap.objs.size, _, I.laid (t' := s.toks) (o := .lst (cutV xs lo hi)) (fun b ob q => Heap.get?_push_of_some _ q) (Nat.le_refl _) ?_, rfl, q _ (I.hok.fresh (Nat.le_refl _))⟩
  exact ⟨Nat.le_trans (cutV_length xs lo hi) hz, _, 0, (r.drop (HT.sIx xs.length 0 lo)).take (HT.sIx xs.length xs.length hi - HT.sIx xs.length 0 lo), Heap.get?_push_size _ rfl⟩

/-! ### in, not in: flat items -/
def flatV : V → Bool
  | .non => true
  | .bl _ => true
  | .int _ => true
  | .str _ => true
  | _ => false
/-- == of flat values -/
def eqV : V → V → Bool
  | .non, .non => true
  | .bl a, .bl b => a == b
  | .bl a, .int b => (if a then 1 else 0) == b
  | .int a, .bl b => a == (if b then 1 else 0)
  | .int a, .int b => a == b
  | .str a, .str b => a == b
  | _, _ => false
theorem eqAt_V {A : Around} {s : Shared} {y x : V} {u v : Value} (ry : RelV y u) (rx : RelV x v) (fy : flatV y = true) (fx : flatV x = true) : SeqAt.EqAt A s u v (eqV y x) := by
  cases y with
  | non =>
    cases ry
    cases x with
    | non => cases rx; exact SeqAt.EqAt.same _
    | bl b => cases rx; exact SeqAt.EqAt.none_bool b
    | int b => obtain ⟨t, rfl⟩ := rx; exact SeqAt.EqAt.none_int b t
    | str b => obtain ⟨t, rfl⟩ := rx; exact SeqAt.EqAt.none_str b t
    | _ => exact absurd (show false = true from fx) Bool.false_ne_true
  | bl a =>
    cases ry
    cases x with
    | non => cases rx; exact SeqAt.EqAt.bool_none a
    | bl b => cases rx; exact SeqAt.EqAt.bool_bool a b
    | int b => obtain ⟨t, rfl⟩ := rx; exact SeqAt.EqAt.bool_int a b t
    | str b => obtain ⟨t, rfl⟩ := rx; exact SeqAt.EqAt.bool_str a b t
    | _ => exact absurd (show false = true from fx) Bool.false_ne_true
  | int a =>
    obtain ⟨t', rfl⟩ := ry
    cases x with
    | non => cases rx; exact SeqAt.EqAt.int_none a t'
    | bl b => cases rx; exact SeqAt.EqAt.int_bool a t' b
    | int b => obtain ⟨t, rfl⟩ := rx; exact SeqAt.EqAt.int_int a t' b t
    | str b => obtain ⟨t, rfl⟩ := rx; exact SeqAt.EqAt.int_str a t' b t
    | _ => exact absurd (show false = true from fx) Bool.false_ne_true
  | str a =>
    obtain ⟨t', rfl⟩ := ry
    cases x with
    | non => cases rx; exact SeqAt.EqAt.str_none a t'
    | bl b => cases rx; exact SeqAt.EqAt.str_bool a t' b
    | int b => obtain ⟨t, rfl⟩ := rx; exact SeqAt.EqAt.str_int a t' b t
    | str b => obtain ⟨t, rfl⟩ := rx; exact SeqAt.EqAt.str_str a t' b t
    | _ => exact absurd (show false = true from fx) Bool.false_ne_true
  | _ => exact absurd (show false = true from fy) Bool.false_ne_true
/-- the items' answers, read off the values (a value's own answer does not lean on its token) -/
def eqU (x : V) (u : Value) : Bool := match u with
  | .none => eqV .non x
  | .bool b => eqV (.bl b) x
  | .int i _ => eqV (.int i) x
  | .str z _ => eqV (.str z) x
  | _ => false
theorem eqU_of {x y : V} {u : Value} (r : RelV y u) (f : flatV y = true) : eqU x u = eqV y x := by
  cases y with
  | non => cases r; rfl
  | bl b => cases r; rfl
  | int i => obtain ⟨t, rfl⟩ := r; rfl
  | str z => obtain ⟨t, rfl⟩ := r; rfl
  | _ => exact absurd (show false = true from f) Bool.false_ne_true
theorem any_eqU {x : V} : ∀ {xs : List V} {us : List Value}, Vals xs us → xs.all flatV = true → us.any (eqU x) = xs.any fun y => eqV y x
  | _, _, .nil, _ => rfl
  | y :: xs, u :: us, .cons r t, f => by
    rw [List.all_cons, Bool.and_eq_true] at f
    rw [List.any_cons, List.any_cons, eqU_of r f.1, any_eqU t f.2]
theorem mem_eqAt {A : Around} {s : Shared} {x : V} {v : Value} (rx : RelV x v) (fx : flatV x = true) : ∀ {xs : List V} {us : List Value}, Vals xs us → xs.all flatV = true → ∀ u ∈ us, SeqAt.EqAt A s u v (eqU x u)
  | _, _, .nil, _ => fun u hu => by cases hu
  | y :: xs, u :: us, .cons r t, f => fun u' hu => by
    rw [List.all_cons, Bool.and_eq_true] at f
    rcases List.mem_cons.mp hu with rfl | hu
    · rw [eqU_of r f.1]; exact eqAt_V r rx f.1 fx
    · exact mem_eqAt rx fx t f.2 u' hu
def inV (x : V) (xs : List V) : Bool := xs.any fun y => eqV y x
/-- x in a list or tuple of flat items -/
def rIn (K : PySem.W.Frag) (neg : Bool) : R2 := fun x y H Q => ∃ p xs, y = .ref p ∧ (SqL K H p xs ∨ SqT K H p xs) ∧ flatV x = true ∧ xs.all flatV = true ∧ Q (.bl (if neg then !inV x xs else inV x xs)) H
theorem op_in_seq : OpR X (compareOp .In) (rIn X.K false) := by
  intro pins s σ H x y v u Q I rx ry h
  obtain ⟨p, xs, rfl, hq, fx, fs, q⟩ := h
  cases ry
  rcases hq with hq | hq
  · obtain ⟨its, r, pl, hz⟩ := I.list hq
    refine SeqAt.in_listAt (eqU x) pl.isList (fun w hw => mem_eqAt rx fx r fs w (by simpa using hw)) ⟨.bl _, H, I, rfl, ?_⟩
    rw [show its.toArray.any (eqU x) = its.any (eqU x) by simp, any_eqU r fs]
    exact q
  · obtain ⟨its, r, pl, hz⟩ := I.tuple hq
    refine SeqAt.in_tupleAt (eqU x) pl (fun w hw => mem_eqAt rx fx r fs w (by simpa using hw)) ⟨.bl _, H, I, rfl, ?_⟩
    rw [show its.toArray.any (eqU x) = its.any (eqU x) by simp, any_eqU r fs]
    exact q
theorem op_notIn_seq : OpR X (compareOp .NotIn) (rIn X.K true) := by
  intro pins s σ H x y v u Q I rx ry h
  obtain ⟨p, xs, rfl, hq, fx, fs, q⟩ := h
  cases ry
  rcases hq with hq | hq
  · obtain ⟨its, r, pl, hz⟩ := I.list hq
    refine SeqAt.notIn_listAt (eqU x) pl.isList (fun w hw => mem_eqAt rx fx r fs w (by simpa using hw)) ⟨.bl _, H, I, rfl, ?_⟩
    rw [show its.toArray.any (eqU x) = its.any (eqU x) by simp, any_eqU r fs]
    exact q
  · obtain ⟨its, r, pl, hz⟩ := I.tuple hq
    refine SeqAt.notIn_tupleAt (eqU x) pl (fun w hw => mem_eqAt rx fx r fs w (by simpa using hw)) ⟨.bl _, H, I, rfl, ?_⟩
    rw [show its.toArray.any (eqU x) = its.any (eqU x) by simp, any_eqU r fs]
    exact q
theorem op_notIn_str : OpR X (compareOp .NotIn) (fun x y H Q => ∃ i j, x = .str i ∧ y = .str j ∧ Q (.bl (!(!(Builtin.Str.occurrences j i 0 j.length 1).isEmpty))) H) := by
  intro pins s σ H x y v u Q I rx ry h
  obtain ⟨i, j, rfl, rfl, q⟩ := h
  obtain ⟨t, rfl⟩ := rx
  obtain ⟨t', rfl⟩ := ry
  exact notIn_str ⟨.bl _, H, I, rfl, q⟩

/-! ### len, list(x), tuple(x) of any list or tuple that is read -/
theorem call_len_seq : CallR X (.builtin "len") (fun xs H Q => ∃ p ys, xs = [.ref p] ∧ (SqL X.K H p ys ∨ SqT X.K H p ys) ∧ Q (.int ys.length) H) := by
  intro pins s σ H xs us Q I r h
  obtain ⟨p, ys, rfl, hq, q⟩ := h
  obtain ⟨u, rfl, rx⟩ := vals1 r
  cases rx
  have hn := line63
  rcases hq with hq | hq
  · obtain ⟨its, r', pl, hz⟩ := I.list hq
    have hlen := r'.length
    exact Calls.call_len_list pl.isList (by simp only [List.size_toArray] <;> omega) ⟨.int ys.length, H, I.tok _, ⟨s.toks + 1, by rw [List.size_toArray, hlen]⟩, q⟩
  · obtain ⟨its, r', pl, hz⟩ := I.tuple hq
    have hlen := r'.length
    exact len_tuple pl (by simp only [List.size_toArray] <;> omega) ⟨.int ys.length, H, I.tok _, ⟨s.toks + 1, by rw [List.size_toArray, hlen]⟩, q⟩
theorem call_len_str : CallR X (.builtin "len") (fun xs H Q => ∃ z, xs = [.str z] ∧ z.length ≤ sizeLine ∧ Q (.int z.length) H) := by
  intro pins s σ H xs us Q I r h
  obtain ⟨z, rfl, hz, q⟩ := h
  obtain ⟨u, rfl, t, rfl⟩ := vals1 r
  have hn := line63
  exact len_str (by omega) ⟨.int z.length, H, I.tok _, ⟨_, rfl⟩, q⟩
theorem CallR.or {f : Value} {r r' : List V → Hp → VK → Prop} (h : CallR X f r) (h' : CallR X f r') : CallR X f (fun xs H Q => r xs H Q ∨ r' xs H Q) := by
  intro pins s σ H xs us Q I rs q
  rcases q with q | q
  · exact h pins s σ H xs us Q I rs q
  · exact h' pins s σ H xs us Q I rs q
theorem call_list_of : CallR X (.type "list") (fun xs H Q => ∃ p ys, xs = [.ref p] ∧ (SqL X.K H p ys ∨ SqT X.K H p ys) ∧ ∀ l, H l = none → Q (.ref l) (upd H l (.lst ys))) := by
  intro pins s σ H xs us Q I r h
  obtain ⟨p, ys, rfl, hq, q⟩ := h
  obtain ⟨u, rfl, rx⟩ := vals1 r
  cases rx
  have fin : ∀ (its : List Value), Vals ys its → ys.length ≤ sizeLine → ∀ (h' : Heap) (c' : Nat), (∀ b o', s.heap.get? b = some o' → h'.get? b = some o') →
      h'.get? s.heap.objs.size = some { cls := .type "list", dict := none, data := .seq its.toArray c', slots := #[] } → EP X pins σ Q (.ref s.heap.objs.size) { s with heap := h' } := fun its r' hz h' c' kp e =>
    ⟨.ref s.heap.objs.size, _, I.laid (t' := s.toks) kp (Nat.le_refl _) (show ObjOk X.prog X.w _ h' _ (.lst ys) from ⟨hz, its, c', r', e⟩), rfl, q _ (I.hok.fresh (Nat.le_refl _))⟩
  rcases hq with hq | hq
  · obtain ⟨its, r', pl, hz⟩ := I.list hq
    have hlen := r'.length
    obtain ⟨o, ho, hc, n, hd⟩ := pl.isList
    exact call_list_seq p (.inl rfl) ho hc hd (fun h' c' kp e => fin its r' hz h' c' kp e) (by simp only [List.size_toArray] <;> omega)
  · obtain ⟨its, r', pl, hz⟩ := I.tuple hq
    have hlen := r'.length
    obtain ⟨o, ho, hc, n, hd⟩ := pl
    exact call_list_seq p (.inr rfl) ho hc hd (fun h' c' kp e => fin its r' hz h' c' kp e) (by simp only [List.size_toArray] <;> omega)
theorem call_tuple_of : CallR X (.type "tuple") (fun xs H Q => ∃ p ys, xs = [.ref p] ∧ ((SqL X.K H p ys ∧ ∀ l, H l = none → Q (.ref l) (upd H l (.tup ys))) ∨ (SqT X.K H p ys ∧ Q (.ref p) H))) := by
  intro pins s σ H xs us Q I r h
  obtain ⟨p, ys, rfl, h⟩ := h
  obtain ⟨u, rfl, rx⟩ := vals1 r
  cases rx
  rcases h with ⟨hq, q⟩ | ⟨hq, q⟩
  · obtain ⟨its, r', pl, hz⟩ := I.list hq
    have hlen := r'.length
    refine call_tuple_list pl.isList (fun h' kp => ?_) (by simp only [List.size_toArray] <;> omega)
    have I1 : Inv X pins σ H { s with heap := h' } := I.kept (t' := s.toks) kp
    have I2 : Inv X pins σ (upd H h'.objs.size (.tup ys)) { s with heap := h'.push { cls := .type "tuple", data := .seq its.toArray } } :=
      I1.laid (t' := s.toks) (fun b o e => Heap.get?_push_of_some _ e) (Nat.le_refl _) (show ObjOk X.prog X.w _ _ _ (.tup ys) from ⟨hz, its, r', IsTup.new _ _⟩)
    exact ⟨.ref h'.objs.size, _, I2, rfl, q _ (I1.hok.fresh (Nat.le_refl _))⟩
  · obtain ⟨its, r', pl, hz⟩ := I.tuple hq
    exact call_tuple_same pl ⟨.ref p, H, I, rfl, q⟩

/-! ### the call of a builtin's method: o.m(..) -/
/-- the value is of that builtin type -/
def tyV (K : PySem.W.Frag) (T : String) (x : V) (H : Hp) : Prop := match x with
  | .str _ => T = "str"
  | .int _ => T = "int"
  | .ref p => (T = "list" ∧ ∃ xs, SqL K H p xs) ∨ (T = "tuple" ∧ ∃ o, K.lookup p = some o ∧ o.cls = .type "tuple" ∧ o.dict = none) ∨
      (T = "dict" ∧ ((∃ kvs, H p = some (.dK kvs)) ∨ ∃ kvs, H p = some (.dT kvs))) ∨ (T = "set" ∧ ∃ S n, H p = some (.set S n))
  | _ => False
theorem tyV_is {pins : List (Addr × Obj)} {σ : St} {H : Hp} {s : Shared} {T : String} {x : V} {v : Value} (I : Inv X pins σ H s) (r : RelV x v) (ty : tyV X.K T x H) :
    s.TypeIs v T ∧ ∀ a, v = .ref a → ∃ ob, s.heap.get? a = some ob ∧ ob.dict = none := by
  cases x with
  | str z =>
    obtain ⟨t, rfl⟩ := r
    cases (show T = "str" from ty)
    exact ⟨typeIs_str s z t, fun _ e => nomatch e⟩
  | int i =>
    obtain ⟨t, rfl⟩ := r
    cases (show T = "int" from ty)
    exact ⟨typeIs_int s i t, fun _ e => nomatch e⟩
  | ref p =>
    cases r
    rcases ty with ⟨rfl, xs, hq⟩ | ⟨rfl, o, hk, hc, hd⟩ | ⟨rfl, hk⟩ | ⟨rfl, S, n, hk⟩
    · obtain ⟨its, _, pl, _⟩ := I.list hq
      refine ⟨pl.isList.typeIs, fun a e => ?_⟩
      cases e
      obtain ⟨o, n, e, c, hd, _⟩ := pl
      exact ⟨o, e, hd⟩
    · refine ⟨⟨o, I.kIn p o hk, hc⟩, fun a e => ?_⟩
      cases e
      exact ⟨o, I.kIn _ o hk, hd⟩
    · have z : ∃ o, s.heap.get? p = some o ∧ o.ExactDict := by
        rcases hk with ⟨kvs, hk⟩ | ⟨kvs, hk⟩
        · obtain ⟨_, _, _, _, o, _, _, e, ex, _⟩ := I.hok p _ hk
          exact ⟨o, e, ex⟩
        · obtain ⟨_, _, _, _, o, _, _, e, ex, _⟩ := I.hok p _ hk
          exact ⟨o, e, ex⟩
      obtain ⟨o, e, ex⟩ := z
      refine ⟨⟨o, e, ex.1⟩, fun a e2 => ?_⟩
      cases e2
      exact ⟨o, e, ex.2.1⟩
    · obtain ⟨o, _, _, _, e, ex, _⟩ := I.hok p _ hk
      refine ⟨⟨o, e, ex.1⟩, fun a e2 => ?_⟩
      cases e2
      exact ⟨o, e, ex.2.1⟩
  | _ => exact False.elim ty
def tBM0 (K : PySem.W.Frag) (T : String) (r : V → List V → Hp → VK → Prop) (to : TE) : TE := fun σ H Q => to σ H fun x H1 => tyV K T x H1 ∧ r x [] H1 Q
def tBM (K : PySem.W.Frag) (T : String) (r : V → List V → Hp → VK → Prop) (to : TE) (t : TA) : TE := fun σ H Q => to σ H fun x H1 => tyV K T x H1 ∧ t σ H1 fun xs H2 => r x xs H2 Q
variable {o e : Expr} {es : List Expr} {to : TE} {t : TA} {name : Str} {apos cpos : Pos} {T id : String} {r : V → List V → Hp → VK → Prop}
theorem pe_bm0 (pa : PlainAttrs T) (slot : Slot T name id) (hty : typeOf (.builtin id) = pure (.type "method_descriptor")) (hm : MtR X id r) (ho : PE X o to)
    (hbase : attributeBase o name X.env (eval o X.env) = eval o X.env := by rfl) (hline : (apos.endLine == cpos.line) = true := by rfl) : PE X (.Call (.Attribute o name apos) [] [] cpos) (tBM0 X.K T r to) := by
  intro pins s σ H Q I h
  refine wpAny_Call_method0_late hbase hline (thn (ho pins s σ H _ I h) fun v s1 ⟨x, H1, I1, r1, ty, q1⟩ => ?_)
  obtain ⟨h1, h2⟩ := tyV_is I1 r1 ty
  exact ⟨T, id, pa, slot, hty, h1, h2, Calls.callWith_builtin rfl (PySem.evalArgs_none (hm pins s1 σ H1 x [] v [] Q I1 r1 .nil q1))⟩
theorem pe_bm (pa : PlainAttrs T) (slot : Slot T name id) (hty : typeOf (.builtin id) = pure (.type "method_descriptor")) (hm : MtR X id r) (ho : PE X o to) (ha : PA X (e :: es) t)
    (hbase : attributeBase o name X.env (eval o X.env) = eval o X.env := by rfl)
    (hfew : ((backTo cpos (starEach (e :: es) X.env)).all (fun x => !x.1) && (backToKw cpos (keywordEach [] X.env)).all (fun x => x.1.isSome)
      && decide ((e :: es).length + ([] : List Keyword).length + (if ([] : List Keyword).isEmpty then 0 else 1) < 30)) = true := by rfl)
    (hline : (apos.endLine == cpos.line) = true := by rfl) (hs : starEach (e :: es) X.env = (false, eval e X.env) :: starEach es X.env := by rfl) (hplain : (backTo cpos (starEach es X.env)).any (·.1) = false := by rfl) :
    PE X (.Call (.Attribute o name apos) (e :: es) [] cpos) (tBM X.K T r to t) := by
  intro pins s σ H Q I h
  refine wpAny_Call_method_late hbase hfew hline rfl (thn (ho pins s σ H _ I h) fun v s1 ⟨x, H1, I1, r1, ty, q1⟩ => ?_)
  obtain ⟨h1, h2⟩ := tyV_is I1 r1 ty
  refine ⟨T, id, pa, slot, hty, h1, h2, ?_⟩
  have hA := ha cpos pins s1 σ H1 _ I1 q1
  rw [hs] at hA ⊢
  refine Calls.callWith_builtin (by show (false || (backTo cpos (starEach es X.env)).any (·.1)) = false; rw [hplain] <;> rfl) (Calls.evalArgs_plain ?_)
  exact thn hA fun us s2 ⟨vs, H2, I2, r2, q2⟩ => hm pins s2 σ H2 x vs v us Q I2 r1 r2 q2
/- xs.append(e), list.index on a module's tuple .. are MtR facts of 06m -/
end
end L2

namespace L2
open PySem PySem.Spec PyProof.Rows

def MtM (X : Cx) (id : String) (r : V → List V → Hp → VK → Prop) : Prop :=
  ∀ (pins : List (Addr × Obj)) (s : Shared) (σ : St) (H : Hp) (x : V) (xs : List V) (v : Value) (us : List Value) (Q : VK), Inv X pins σ H s → RelV x v → Vals xs us → r x xs H Q →
    wpAny (model X.prog X.w) X.A (call (.builtin id) (v :: us)) (EP X pins σ Q) X.xe s

/-! ### lists of values -/
theorem Vals.one : ∀ {x : V} {us : List Value}, Vals [x] us → ∃ u, us = [u] ∧ RelV x u
  | _, _, .cons r .nil => ⟨_, rfl, r⟩
theorem Vals.two : ∀ {x y : V} {us : List Value}, Vals [x, y] us → ∃ u v, us = [u, v] ∧ RelV x u ∧ RelV y v
  | _, _, _, .cons r (.cons q .nil) => ⟨_, _, rfl, r, q⟩
theorem Vals.zero : ∀ {us : List Value}, Vals [] us → us = []
  | _, .nil => rfl
theorem Vals.dropLast {xs : List V} {us : List Value} (h : Vals xs us) : Vals xs.dropLast us.dropLast := by
  induction h with
  | nil => exact .nil
  | cons r t ih =>
    cases t with
    | nil => exact .nil
    | cons q t' => exact .cons r ih
theorem Vals.eraseIdx : ∀ {xs : List V} {us : List Value} (i : Nat), Vals xs us → Vals (xs.eraseIdx i) (us.eraseIdx i)
  | _, _, _, .nil => .nil
  | _, _, 0, .cons _ t => t
  | _, _, i + 1, .cons r t => .cons r (Vals.eraseIdx i t)
theorem Vals.reverse {xs : List V} {us : List Value} (h : Vals xs us) : Vals xs.reverse us.reverse := by
  induction h with
  | nil => exact .nil
  | cons r t ih => rw [List.reverse_cons, List.reverse_cons]; exact Vals.append ih (.cons r .nil)
theorem Vals.rep {xs : List V} {us : List Value} (h : Vals xs us) : ∀ k : Nat, Vals (List.replicate k xs).flatten (List.replicate k us).flatten
  | 0 => .nil
  | k + 1 => by
    rw [List.replicate_succ, List.replicate_succ, List.flatten_cons, List.flatten_cons]
    exact Vals.append h (Vals.rep h k)
theorem erase_last {α : Type} (l : List α) : l.eraseIdx (l.length - 1) = l.dropLast := by
  induction l with
  | nil => rfl
  | cons a r ih =>
    cases r with
    | nil => rfl
    | cons b r =>
      have e : (a :: b :: r).length - 1 = ((b :: r).length - 1) + 1 := by
        have h1 : (a :: b :: r).length = r.length + 2 := rfl
        have h2 : (b :: r).length = r.length + 1 := rfl
        omega
      rw [e, List.eraseIdx_cons_succ, ih]
      all_goals rfl
theorem len_erase {α : Type} : ∀ (l : List α) (i : Nat), (l.eraseIdx i).length ≤ l.length
  | [], _ => Nat.le_refl _
  | _ :: _, 0 => Nat.le_succ _
  | _ :: r, i + 1 => Nat.succ_le_succ (len_erase r i)
theorem foldl_rep (its : List Value) : ∀ (k : Nat) (acc : List Value),
    List.foldl (fun x1 x2 => x1 ++ x2) acc.toArray (List.replicate k its.toArray) = (acc ++ (List.replicate k its).flatten).toArray
  | 0, acc => by simp
  | k + 1, acc => by
    have e : acc.toArray ++ its.toArray = (acc ++ its).toArray := by simp
    have e2 : (acc ++ its) ++ (List.replicate k its).flatten = acc ++ (List.replicate (k + 1) its).flatten := by
      rw [List.replicate_succ, List.flatten_cons, List.append_assoc]
    rw [← e2, ← foldl_rep its k (acc ++ its), ← e, List.replicate_succ, List.foldl_cons]

section
variable {X : Cx} {pins : List (Addr × Obj)} {σ : St} {H : Hp} {s : Shared} {l b : Addr} {xs ys zs : List V}

/-! ### the two steps: a tracked list is rewritten, a new list is laid -/
theorem Inv.lset {its its' : List Value} {n : Nat} {f : Array Value → Array Value} {t' : Nat} (I : Inv X pins σ H s) (hH : H l = some (.lst xs))
    (e : s.heap.get? l = some { cls := .type "list", data := .seq its.toArray n }) (hf : f its.toArray = its'.toArray) (hv : Vals ys its') (hz : ys.length ≤ sizeLine) :
    Inv X pins σ (upd H l (.lst ys)) { s with heap := s.heap.update l (Obj.mapSeq f), toks := t' } := by
  have q := PySem.IsL.update e f
  rw [hf] at q
  refine I.write (x := l) (e := l) (by rw [hH]; exact trivial) (.inl rfl) (fun b' u hb hu => (Heap.get?_update_other s.heap (Obj.mapSeq f) (Ne.symm hb)).trans hu) ⟨_, q⟩ ?_
  exact ⟨hz, its', _, hv, q⟩
theorem Inv.lnew {its : List Value} {t' : Nat} (I : Inv X pins σ H s) (hv : Vals ys its) (hz : ys.length ≤ sizeLine) :
    Inv X pins σ (upd H s.heap.objs.size (.lst ys)) { s with heap := s.heap.push { cls := .type "list", data := .seq its.toArray }, toks := t' } :=
  I.laid (fun _ _ q => Heap.get?_push_of_some _ q) (Nat.le_refl _) ⟨hz, its, 0, hv, Heap.get?_push_size _ rfl⟩
theorem Inv.fresh (I : Inv X pins σ H s) : H s.heap.objs.size = none := I.hok.fresh (Nat.le_refl _)
theorem Inv.lstM (I : Inv X pins σ H s) (hH : H l = some (.lst xs)) : xs.length ≤ sizeLine ∧ ∃ (its : List Value) (n : Nat), Vals xs its ∧ xs.length = its.length ∧ s.heap.get? l = some { cls := .type "list", data := .seq its.toArray n } := by
  obtain ⟨z, its, n, r, e⟩ := I.hok l _ hH
  exact ⟨z, its, n, r, r.length, e⟩

theorem notLongL {n : Nat} (h : n ≤ sizeLine) : Builtin.List.listTooLong n = false := by
  unfold Builtin.List.listTooLong
  exact decide_eq_false (by omega)
end

section
variable {X : Cx}

/-! ### methods -/
def rAppend : V → List V → Hp → VK → Prop := fun x vs H Q => ∃ l xs y, x = .ref l ∧ vs = [y] ∧ H l = some (.lst xs) ∧ xs.length < sizeLine ∧ Q .non (upd H l (.lst (xs ++ [y])))
theorem mt_append : MtM X "list.append" rAppend := by
  intro pins s σ H x vs v us Q I rx rv h
  obtain ⟨l, xs, y, rfl, rfl, hH, hz, q⟩ := h
  cases rx
  obtain ⟨u, rfl, ru⟩ := rv.one
  obtain ⟨z, its, n, r, hl, e⟩ := I.lstM hH
  refine call_meets F.slot_list_append ⟨_, e, rfl⟩ F.entry_list_append (F.args_list_append_2 _ _) (PySem.list_append l its.toArray n u (by rw [List.size_toArray]; omega)) ⟨e, ?_⟩
  refine ⟨.non, _, I.lset (its' := its ++ [u]) hH e (by simp) (r.append (.cons ru .nil)) ?_, rfl, q⟩
  rw [List.length_append, List.length_singleton]
  omega

def rExtend : V → List V → Hp → VK → Prop := fun x vs H Q => ∃ l b xs zs, x = .ref l ∧ vs = [.ref b] ∧ H l = some (.lst xs) ∧ H b = some (.lst zs) ∧ xs.length + zs.length ≤ sizeLine ∧ Q .non (upd H l (.lst (xs ++ zs)))
theorem mt_extend : MtM X "list.extend" rExtend := by
  intro pins s σ H x vs v us Q I rx rv h
  obtain ⟨l, b, xs, zs, rfl, rfl, hH, hB, hz, q⟩ := h
  cases rx
  obtain ⟨u, rfl, ru⟩ := rv.one
  cases ru
  obtain ⟨z, its, n, r, hl, e⟩ := I.lstM hH
  obtain ⟨z2, its2, n2, r2, hl2, e2⟩ := I.lstM hB
  have hsz : its.toArray.size + its2.toArray.size ≤ sizeLine := by rw [List.size_toArray, List.size_toArray]; omega
  have hlong : ¬ (!its.toArray.isEmpty && Builtin.List.listTooLong (its.toArray.size + its2.toArray.size)) = true := by
    rw [notLongL hsz, Bool.and_false]
    exact Bool.false_ne_true
  refine call_meets F.slot_list_extend ⟨_, e, rfl⟩ F.entry_list_extend (F.args_list_extend_2 _ _)
    (AutoSeq1.list_extend_list_list_0 l its.toArray n b its2.toArray n2 hlong (by rw [List.size_toArray]; omega) (by omega)) ⟨e, e2, ?_⟩
  refine ⟨.non, _, I.lset (its' := its ++ its2) hH e (by simp) (r.append r2) ?_, rfl, q⟩
  rw [List.length_append]
  omega

def rPop : V → List V → Hp → VK → Prop := fun x vs H Q => ∃ l xs y, x = .ref l ∧ vs = [] ∧ H l = some (.lst xs) ∧ xs[xs.length - 1]? = some y ∧ Q y (upd H l (.lst xs.dropLast))
theorem mt_pop : MtM X "list.pop" rPop := by
  intro pins s σ H x vs v us Q I rx rv h
  obtain ⟨l, xs, y, rfl, rfl, hH, hy, q⟩ := h
  cases rx
  have hus := rv.zero
  subst hus
  obtain ⟨z, its, n, r, hl, e⟩ := I.lstM hH
  obtain ⟨u, hu, ru⟩ := r.get hy
  have hy' : its.toArray[its.toArray.size - 1]? = some u := by
    show its.toArray[its.length - 1]? = some u
    rw [← Array.getElem?_toList, ← hl]
    exact hu
  refine call_meets F.slot_list_pop ⟨_, e, rfl⟩ F.entry_list_pop (F.args_list_pop_1 _) (MeetsSeq.list_pop_last l its.toArray n u hy' (by rw [List.size_toArray]; omega)) ⟨e, ?_⟩
  refine ⟨y, _, I.lset (its' := its.dropLast) hH e ?_ r.dropLast ?_, ru, q⟩
  · show its.toArray.eraseIdxIfInBounds (its.toArray.size - 1) = its.dropLast.toArray
    rw [List.size_toArray, List.eraseIdxIfInBounds_toArray, erase_last]
  · rw [List.length_dropLast]
    omega

def rPopAt : V → List V → Hp → VK → Prop := fun x vs H Q => ∃ l xs i k y, x = .ref l ∧ vs = [.int i] ∧ H l = some (.lst xs) ∧ -(2 ^ 63) ≤ i ∧ i < 2 ^ 63 ∧ seqIndex? i xs.length = some k ∧ xs[k]? = some y ∧ Q y (upd H l (.lst (xs.eraseIdx k)))
theorem mt_popAt : MtM X "list.pop" rPopAt := by
  intro pins s σ H x vs v us Q I rx rv h
  obtain ⟨l, xs, i, k, y, rfl, rfl, hH, h1, h2, hk, hy, q⟩ := h
  cases rx
  obtain ⟨u, rfl, ru⟩ := rv.one
  obtain ⟨t, rfl⟩ := ru
  obtain ⟨z, its, n, r, hl, e⟩ := I.lstM hH
  obtain ⟨w, hw, rw'⟩ := r.get hy
  refine call_meets F.slot_list_pop ⟨_, e, rfl⟩ F.entry_list_pop (F.args_list_pop_2 _ _)
    (MeetsSeq.list_pop_at l its.toArray n i t k w (fitsIndex_both h1 h2) (by rw [List.size_toArray, ← hl]; exact hk) (by rw [← Array.getElem?_toList]; exact hw) (by rw [List.size_toArray]; omega)) ⟨e, ?_⟩
  refine ⟨y, _, I.lset (its' := its.eraseIdx k) hH e ?_ (r.eraseIdx k) ?_, rw', q⟩
  · show its.toArray.eraseIdxIfInBounds k = (its.eraseIdx k).toArray
    rw [List.eraseIdxIfInBounds_toArray]
  · have := len_erase xs k
    omega

def rReverse : V → List V → Hp → VK → Prop := fun x vs H Q => ∃ l xs, x = .ref l ∧ vs = [] ∧ H l = some (.lst xs) ∧ Q .non (upd H l (.lst xs.reverse))
theorem mt_reverse : MtM X "list.reverse" rReverse := by
  intro pins s σ H x vs v us Q I rx rv h
  obtain ⟨l, xs, rfl, rfl, hH, q⟩ := h
  cases rx
  have hus := rv.zero
  subst hus
  obtain ⟨z, its, n, r, hl, e⟩ := I.lstM hH
  refine call_meets F.slot_list_reverse ⟨_, e, rfl⟩ F.entry_list_reverse (F.args_list_reverse_1 _) (AutoSeq1.list_reverse_list_0 l its.toArray n (by rw [List.size_toArray]; omega)) ⟨e, ?_⟩
  refine ⟨.non, _, I.lset (its' := its.reverse) hH e (by simp) r.reverse ?_, rfl, q⟩
  rw [List.length_reverse]
  omega

def rClear : V → List V → Hp → VK → Prop := fun x vs H Q => ∃ l xs, x = .ref l ∧ vs = [] ∧ H l = some (.lst xs) ∧ Q .non (upd H l (.lst []))
theorem mt_clear : MtM X "list.clear" rClear := by
  intro pins s σ H x vs v us Q I rx rv h
  obtain ⟨l, xs, rfl, rfl, hH, q⟩ := h
  cases rx
  have hus := rv.zero
  subst hus
  obtain ⟨z, its, n, r, hl, e⟩ := I.lstM hH
  refine call_meets F.slot_list_clear ⟨_, e, rfl⟩ F.entry_list_clear (F.args_list_clear_1 _) (AutoSeq1.list_clear_list_0 l its.toArray n (by rw [List.size_toArray]; omega)) ⟨e, ?_⟩
  exact ⟨.non, _, I.lset (its' := []) (ys := []) hH e rfl .nil (Nat.zero_le _), rfl, q⟩

/-! ### list + list, list += list, list * int -/
def rCat : R2 := fun x y H Q => ∃ l b xs zs, x = .ref l ∧ y = .ref b ∧ H l = some (.lst xs) ∧ H b = some (.lst zs) ∧ xs.length + zs.length ≤ sizeLine ∧ ∀ p, H p = none → Q (.ref p) (upd H p (.lst (xs ++ zs)))
theorem op_cat : OpR X (binaryOp .Add) rCat := by
  intro pins s σ H x y v u Q I rx ry h
  obtain ⟨l, b, xs, zs, rfl, rfl, hH, hB, hz, q⟩ := h
  cases rx
  cases ry
  obtain ⟨z, its, n, r, hl, e⟩ := I.lstM hH
  obtain ⟨z2, its2, n2, r2, hl2, e2⟩ := I.lstM hB
  refine PySem.P.add_list e e2 ?_ (by rw [List.size_toArray, List.size_toArray]; omega)
  have ea : its.toArray ++ its2.toArray = (its ++ its2).toArray := by simp
  rw [ea]
  exact ⟨.ref _, _, I.lnew (t' := s.toks) (r.append r2) (by rw [List.length_append]; omega), rfl, q _ I.fresh⟩
/-- a list times an int (a negative one is nothing) -/
def rRep : R2 := fun x y H Q => ∃ l k xs, x = .ref l ∧ y = .int k ∧ H l = some (.lst xs) ∧ -(2 ^ 63) ≤ k ∧ k < 2 ^ 63 ∧ xs.length * k.toNat ≤ sizeLine ∧
  ∀ p, H p = none → Q (.ref p) (upd H p (.lst (List.replicate k.toNat xs).flatten))
theorem len_rep {α : Type} (xs : List α) (k : Nat) : (List.replicate k xs).flatten.length = k * xs.length := by
  induction k with
  | zero => simp
  | succ k ih => rw [List.replicate_succ, List.flatten_cons, List.length_append, ih, Nat.succ_mul, Nat.add_comm]
theorem op_rep : OpR X (binaryOp .Mult) rRep := by
  intro pins s σ H x y v u Q I rx ry h
  obtain ⟨l, k, xs, rfl, rfl, hH, h1, h2, hz, q⟩ := h
  cases rx
  obtain ⟨t, rfl⟩ := ry
  obtain ⟨z, its, n, r, hl, e⟩ := I.lstM hH
  have hlen : its.toArray.size * k.toNat ≤ sizeLine := by rw [List.size_toArray, ← hl]; exact hz
  have hcap : ¬ its.toArray.size * k.toNat > (2 ^ 63 - 1) / 8 := by
    have : (sizeLine : Nat) ≤ (2 ^ 63 - 1) / 8 := by decide
    omega
  have hfit : ¬ (!Builtin.List.listFitsIndex k) = true := by
    rw [fitsIndex_both h1 h2]
    exact Bool.false_ne_true
  have hlong : ¬ Builtin.List.listTooLong (its.toArray.size * k.toNat) = true := by
    rw [notLongL hlen]
    exact Bool.false_ne_true
  have hnew : List.foldl (fun x1 x2 => x1 ++ x2) #[] (List.replicate (if its.toArray.isEmpty = true then 0 else k.toNat) its.toArray) = (List.replicate k.toNat its).flatten.toArray := by
    have f0 : ∀ m : Nat, List.foldl (fun x1 x2 => x1 ++ x2) #[] (List.replicate m its.toArray) = (List.replicate m its).flatten.toArray := fun m => by
      have := foldl_rep its m []
      rw [List.nil_append] at this
      exact this
    rw [f0]
    cases its with
    | nil => simp
    | cons a r' => rw [if_neg (by simp)]
  refine wpAny_binaryOp_repeat_ref (T := "list") (U := "int") (by decide) ⟨_, e, rfl⟩ (fun s' => typeIs_int s' k t) noFill_list_mul F.fills_int_mul F.slot_int_rmul repeat_list F.slot_int_index.lookup
    (call_meets F.slot_int_rmul (typeIs_int s k t) F.entry_int_rmul (F.args_int_rmul_2 _ _) (int___rmul___int_list k t l its.toArray n)
      ⟨e, rfl, ⟨_, e, rfl⟩, call_meets F.slot_list_mul ⟨_, e, rfl⟩ F.entry_list_mul (F.args_list_mul_2 _ _) (AutoListH.list___mul___list_int_3 l its.toArray n k t hfit hcap hlong) ⟨e, ?_⟩⟩)
  rw [hnew]
  exact ⟨.ref _, _, I.lnew (t' := s.toks) (r.rep k.toNat) (by rw [len_rep, Nat.mul_comm]; exact hz), rfl, q _ I.fresh⟩

/-! ### del xs[i] -/
theorem del_list {pins : List (Addr × Obj)} {s : Shared} {σ : St} {H : Hp} {l : Addr} {xs : List V} {i : Int} {t : Tok} {k : Nat} {Q : Unit → Shared → Prop} (I : Inv X pins σ H s) (hH : H l = some (.lst xs))
    (h1 : -(2 ^ 63) ≤ i) (h2 : i < 2 ^ 63) (hk : seqIndex? i xs.length = some k) (h : ∀ s', Inv X pins σ (upd H l (.lst (xs.eraseIdx k))) s' → Q () s') :
    wpAny (model X.prog X.w) X.A (delItem (.ref l) (.int i t)) Q X.xe s := by
  obtain ⟨z, its, n, r, hl, e⟩ := I.lstM hH
  refine PySem.P.delItem_list (k := k) e (fitsIndex_both h1 h2) (by rw [List.size_toArray, ← hl]; exact hk) (h _ ?_) (by rw [List.size_toArray]; omega)
  refine I.lset (its' := its.eraseIdx k) (t' := s.toks) hH e ?_ (r.eraseIdx k) ?_
  · show its.toArray.eraseIdxIfInBounds k = (its.eraseIdx k).toArray
    rw [List.eraseIdxIfInBounds_toArray]
  · have := len_erase xs k
    omega
end

/-! ### xs[a:b] = ys -/
section
variable {prog : Program} {w : World} {A : Around} {E : Value → Shared → Prop} {s : Shared}
theorem splice_eq (its its2 : List Value) (a c : Nat) : its.toArray.extract 0 a ++ its2.toArray ++ its.toArray.extract c its.toArray.size = (its.take a ++ its2 ++ its.drop c).toArray := by
  apply Array.toList_inj.mp
  first
    | (simp
       exact List.take_of_length_le (by simp))
    | simp [List.take_of_length_le]
    | simp
theorem bounds_run {a c n : Nat} (hac : a ≤ c) (hc : c ≤ n) : sliceBounds (some (a : Int)) (some (c : Int)) none n = ((a : Int), (c : Int), 1) := by
  simp only [sliceBounds, Option.getD_none]
  have h1 : ¬ ((a : Int) < 0) := by omega
  have h2 : ¬ ((c : Int) < 0) := by omega
  simp only [h1, h2, if_false, show (1 : Int) > 0 by decide, if_true]
  congr 1
  · omega
  · congr 1; omega
set_option maxRecDepth 100000 in
/-- list.__setitem__ with a slice of step one and another list -/
theorem setItem_slice {l b sl : Addr} {items new : Array Value} {n n2 : Nat} {vl vu : Value} {a c : Nat} {Q : Unit → Shared → Prop}
    (e : s.heap.get? l = some { cls := .type "list", data := .seq items n }) (e2 : s.heap.get? b = some { cls := .type "list", data := .seq new n2 }) (hne : l ≠ b)
    (hs : s.heap.IsSliceOf sl vl vu .none) (pl : IsPart vl (some (a : Int))) (pu : IsPart vu (some (c : Int))) (hac : a ≤ c) (hc : c ≤ items.size)
    (hsz : items.size + new.size ≤ sizeLine) (h : Q () { s with heap := s.heap.update l (Obj.mapSeq fun xs => xs.extract 0 a ++ new ++ xs.extract c xs.size) }) :
    wpAny (model prog w) A (setItem (.ref l) (.ref sl) (.ref b)) Q E s := by
  have hl : s.heap.IsList l items := PySem.IsL.isList e
  have hb : s.heap.IsList b new := PySem.IsL.isList e2
  obtain ⟨os, hos, hcs, hds⟩ := id hs
  have hTs : s.TypeIs (.ref sl) "slice" := ⟨os, hos, hcs⟩
  have hstep : ¬ ((rawPart none == rawInt 0) = true) := Bool.false_ne_true
  have hsame : Builtin.List.listSameRef (.ref l) (.ref b) = false := by
    unfold Builtin.List.listSameRef
    exact beq_eq_false_iff_ne.mpr hne
  have hmax : (max (a : Int) (c : Int)).toNat = c := by omega
  have hz' : ((fun xs : Array Value => xs.extract 0 a ++ new ++ xs.extract c xs.size) items).size ≤ sizeLine + 1 := by
    simp only [Array.size_append, Array.size_extract]
    omega
  unfold setItem
  try with_reducible refine wpAny_holding ?_
  first | refine wpAny_bind (wpAny_pure ?_) | skip
  refine wpAny_bind (wpAny_sequenceKey hl.typeIs (by decide) ?_)
  refine wpAny_bind (wpAny_callSpecial?_slot (name := Str.ofString "__setitem__") hl.typeIs slot_list_setitem
    (wpAny_call_entry slot_list_setitem hl.typeIs entry_list_setitem ?_ (args_list_setitem _ _ _)))
  show wpAny _ _ (Builtin.List.listSubscript? (.ref sl) >>= _) _ _ s
  refine wpAny_bind ?_
  unfold Builtin.List.listSubscript?
  refine wpAny_bind (wpAny_specialOf hTs slice_no_index ?_)
  simp only [Option.isNone_none, if_true]
  refine wpAny_pure ?_
  show wpAny _ _ (typeOf (.ref sl) >>= _) _ _ s
  refine wpAny_bind (wpAny_typeOf hTs ?_)
  first
    | rw [if_neg (by decide)]
    | refine PySem.W.KFB.if_not (by decide) ?_
  rw [listSliceParts_eq]
  refine wpAny_bind (wpAny_bind (wpAny_field hos hds (x := .none) rfl (wpAny_bind (wpAny_listPart .none ?_))))
  rw [if_neg hstep]
  refine wpAny_bind (wpAny_field hos hds (x := vl) rfl (wpAny_bind (wpAny_listPart pl ?_)))
  refine wpAny_bind (wpAny_field hos hds (x := vu) rfl (wpAny_bind (wpAny_listPart pu (wpAny_pure ?_))))
  first
    | simp only [hsame, Bool.false_eq_true, if_false]
    | refine PySem.W.KFB.if_not hsame ?_
    | (dsimp only
       rw [if_neg (by rw [hsame]; exact Bool.false_ne_true)])
  refine wpAny_bind (m := Builtin.List.listAllItems (.ref b) "must assign iterable to extended slice") ?_
  unfold Builtin.List.listAllItems
  refine wpAny_bind (wpAny_typeOf hb.typeIs ?_)
  first
    | refine PySem.W.KFB.if_so (by decide) ?_
    | rw [if_pos (by decide)]
    | simp only [beq_self_eq_true, Bool.true_or, if_true]
  unfold Builtin.List.listItems
  refine wpAny_bind (wpAny_seqItems e2 rfl (wpAny_pure ?_))
  refine wpAny_bind (wpAny_bind (wpAny_seqItems e rfl (wpAny_pure ?_)))
  refine wpAny_bind (wpAny_of_eq ((sliceIndices_raw (some (a : Int)) (some (c : Int)) none items.size (by simp)).trans (congrArg (pure : Int × Int × Int → Sem (Int × Int × Int)) (bounds_run hac hc))) ?_)
  show wpAny _ _ (if ((1 : Int) == 1) = true then _ else _) _ _ s
  rw [if_pos (by decide)]
  refine wpAny_bind (wpAny_rule ?_)
  first
    | simp only [notLongL hsz, Bool.false_eq_true, if_false]
    | refine PySem.W.KFB.if_not (notLongL hsz) ?_
  first | refine wpAny_bind (wpAny_pure ?_) | skip
  show wpAny _ _ (updateSeq l (fun xs => xs.extract 0 ((a : Int)).toNat ++ new ++ xs.extract (max (a : Int) (c : Int)).toNat xs.size) >>= _) _ _ s
  rw [hmax, Int.toNat_natCast]
  refine wpAny_bind (wpAny_updateSeq (hz := Nat.le_trans (Nat.le_add_right _ _) hsz) (_hz' := hz') e rfl ?_)
  refine wpAny_bind (wpAny_letGo ?_)
  first
    | exact wpAny_bind (wpAny_pure (wpAny_pure ⟨.none, rfl, wpAny_pure h⟩))
    | exact wpAny_pure ⟨.none, rfl, wpAny_pure h⟩
end

section
variable {X : Cx}
/-- xs[a:c] = ys of another list, at the value level: sl is the slice object that was just made -/
theorem set_slice {pins : List (Addr × Obj)} {s : Shared} {σ : St} {H : Hp} {l b sl : Addr} {xs ys : List V} {a c : Int} {vl vu : Value} {Q : Unit → Shared → Prop} (I : Inv X pins σ H s)
    (hH : H l = some (.lst xs)) (hB : H b = some (.lst ys)) (hne : l ≠ b) (hs : s.heap.IsSliceOf sl vl vu .none) (ra : RelV (.int a) vl) (rc : RelV (.int c) vu) (h0 : 0 ≤ a) (hac : a ≤ c) (hc : c ≤ xs.length)
    (hz : xs.length + ys.length ≤ sizeLine) (h : ∀ s', Inv X pins σ (upd H l (.lst (xs.take a.toNat ++ ys ++ xs.drop c.toNat))) s' → Q () s') :
    wpAny (model X.prog X.w) X.A (setItem (.ref l) (.ref sl) (.ref b)) Q X.xe s := by
  obtain ⟨ta, rfl⟩ := ra
  obtain ⟨tc, rfl⟩ := rc
  obtain ⟨z, its, n, r, hl, e⟩ := I.lstM hH
  obtain ⟨z2, its2, n2, r2, hl2, e2⟩ := I.lstM hB
  obtain ⟨a', rfl⟩ := Int.eq_ofNat_of_zero_le h0
  obtain ⟨c', rfl⟩ := Int.eq_ofNat_of_zero_le (Int.le_trans h0 hac)
  simp only [Int.toNat_natCast] at h
  refine setItem_slice (a := a') (c := c') e e2 hne hs (.int _ _) (.int _ _) (by omega) (by rw [List.size_toArray]; omega) (by rw [List.size_toArray, List.size_toArray]; omega) (h _ ?_)
  refine I.lset (its' := its.take a' ++ its2 ++ its.drop c') (t' := s.toks) hH e ?_ (Vals.append (Vals.append (r.take _) r2) (r.drop _)) ?_
  · exact splice_eq its its2 a' c'
  · rw [List.length_append, List.length_append, List.length_take, List.length_drop]
    omega
end
end L2

namespace Att
open PySem PySem.W PySem.Calls PyProof.Rows

/-! ### the script -/
theorem ints_of_wellAll {P : Params} {h : Heap} : ∀ (ns : List Int) (vs : List Value), WellAll P h vs (ns.map WData.int) → IntsAre vs ns := by
  intro ns
  induction ns with
  | nil =>
    intro vs w
    rw [List.map_nil] at w
    cases w
    exact .nil
  | cons n ns ih =>
    intro vs w
    rw [List.map_cons] at w
    cases w with
    | cons a b =>
      cases a
      exact .cons _ _ (ih _ b)

theorem script_of {l : OpenLaw} {n : Nat} (hn : l.most = some n) {P : Params} {h : Heap} {args : List WData} {vals : List Value}
    (hpre : l.row.toRowW.claim.pre args = true) (hwl : WellAll P h vals args) :
    ∃ a vs ns, vals = [Value.ref a] ∧ args = [WData.list (ns.map WData.int)] ∧ h.get? a = some { cls := .type "list", data := .seq vs.toArray } ∧ IntsAre vs ns ∧ ns.length ≤ n := by
  have hsh : WShape.hasAll [] args [.list .int] = true := (pre_splitW hpre).1
  have hc : l.pre.holds [] { args := args } = true := (pre_splitW hpre).2
  obtain ⟨d, r, rfl, h1, h2⟩ := hasAllW_cons hsh
  obtain rfl := hasAllW_nil h2
  obtain ⟨xs, rfl, h3⟩ := hasW_list h1
  obtain ⟨ns, rfl⟩ := items_int h3
  have hlen : ns.length ≤ n := by
    unfold OpenLaw.pre at hc
    have h4 : (WTm.not (.lt (.lit (.int (n : Int))) (.len (.arg 0)))).holds [] { args := [.list (ns.map .int)] } = true := by
      have h4 := (holds_andW hc).1
      rw [hn] at h4
      exact h4
    have h5 := condW_of h4 (w_not (w_lt w_lit (w_len_list (w_arg rfl))))
    rw [List.length_map] at h5
    refine Nat.le_of_not_lt fun q => ?_
    have q' : (n : Int) < ((ns.length : Nat) : Int) := by omega
    first
      | (rw [decide_eq_true q'] at h5; exact absurd h5 (by decide))
      | (simp at h5; omega)
  cases hwl with
  | cons w1 w2 =>
    cases w2
    cases w1 with
    | list ho hall => exact ⟨_, _, ns, rfl, rfl, ho, ints_of_wellAll ns _ hall, hlen⟩

theorem post_true (l : OpenLaw) (args : List WData) : l.row.toRowW.claim.post args (.bool true) args = true :=
  postW_of (r := l.row.toRowW) (X := (true == true))
    (show WShape.has [] (.bool true) .bool = true by first | rfl | decide | simp [WShape.has, WShape.arms, WShape.armsAll])
    (show (WTm.eq .res (.lit (.bool true))).value [] { args := args, res := some (.bool true), after := args } = some (.bool (true == true)) from w_eq_bool (w_res rfl) w_lit) rfl

/-! ### the attachment: holds_open's last premise (the goal 'hc' behind k_head) from a wpAny of the law's body -/
theorem attach {l : OpenLaw} {n : Nat} {q : Program} {loose : List Str} {XP : (Str → Option Value) → Heap → Prop} {YP : World → Heap → Prop} {d : DefRec} {x : Str}
    (hn : l.most = some n) (hdf : d.params.defaults = [])
    (hbind : ∀ pm cd doc v : Value, bindArgs (docDef d.name d.params d.body d.scope pm cd doc) ⟨[v], []⟩ = pure [(x, v)])
    (hx : d.scope.names.lookup x = some .local ∨ d.scope.names.lookup x = some .cell)
    (hk : d.scope.kind = .function) (hco : d.scope.isCoroutine = false) (hgen : d.scope.isGenerator = false)
    (body : ∀ (w : World) (s₀ s₁ s : Shared) (mg mb : Str → Option Value) (fa : Addr) (o : Obj) (pm cd doc : Value) (a : Addr) (vs : List Value) (ns : List Int),
      Ground q loose [] XP w s₀ mg mb s₁.heap → YP w s₁.heap →
      s₁.heap.get? fa = some o → o.data = .func (docDef d.name d.params d.body d.scope pm cd doc) → s₁.heap.CodeRec cd d.name → mg d.name = some (.ref fa) →
      s₁.heap.get? a = some { cls := .type "list", data := .seq vs.toArray } → IntsAre vs ns → ns.length ≤ n →
      s.gens = #[] → s.os = s₁.os →
      Fr s₁.heap s₁.heap.objs.size s.heap (bindL (envOfC d.name d.scope s₁.heap.objs.size fa cd).kindOf [(x, .ref a)] fun _ => none) →
      Cl s₁.heap.objs.size (cellsFrom (s₁.heap.objs.size + 1) d.scope.names []) s.heap (bindC (envOfC d.name d.scope s₁.heap.objs.size fa cd).kindOf [(x, .ref a)] fun _ => none) →
      wpAny (model l.prog w) (callerA.deeper (envOfC d.name d.scope s₁.heap.objs.size fa cd)) (execs d.body (envOfC d.name d.scope s₁.heap.objs.size fa cd))
        (fun f s' => f = .ret (.bool true) ∧ OldK s₁.heap s'.heap ∧ s'.os = s₁.os ∧ AllBare s'.gens) (fun _ _ => False) s) :
    WalkO q loose XP YP l.row.toRowW d [] (fun f vs => PySem.call f vs) := by
  intro w s₀ s₁ mg mb G Y fa o pm cd doc dV kV ho hd hcd hD hmg hg args vals as hpre hlay hrd hwl hlo
  obtain rfl : dV = .none := Dflts.none hD hdf
  obtain rfl : kV = .none := Dflts.noKw hD
  obtain ⟨a, vs, ns, rfl, rfl, hobj, hints, hlen⟩ := script_of hn hpre hwl
  refine enter_call ?_
  refine call_cells_ret (o := o) (by rw [depth_caller]; decide) ho (fd_plain hd) G.T.nolimit hcd (hbind pm cd doc (.ref a)) (fun y hy => ?_) (fun h₁ tk F X => ?_) hco hgen hk
  · obtain rfl : y = (x, Value.ref a) := List.mem_singleton.mp hy
    rcases hx with e | e
    · exact .inl e
    · exact .inr ⟨e, cellsFrom_some _ _ _ (.inl e)⟩
  · refine wpAny_mono (body w s₀ s₁ { s₁ with heap := h₁, toks := tk } mg mb fa o pm cd doc a vs ns G Y ho (fd_plain hd) hcd hmg hobj hints hlen hg rfl F X) (fun f s' hq => ?_) (fun _ _ hq => hq)
    obtain ⟨rfl, h2, h3, h4⟩ := hq
    exact ⟨.inl ⟨.bool true, .bool true, [], rfl, fun _ => rfl, .bool true, post_true l _, fun _ => ⟨List.Pairwise.nil, fun _ hm => (nomatch hm)⟩⟩, h2, h3, h4⟩

/-- the same from a codeAny of the CALL (for a layer whose function contracts speak of calls) -/
theorem attach_call {l : OpenLaw} {n : Nat} {q : Program} {loose : List Str} {XP : (Str → Option Value) → Heap → Prop} {YP : World → Heap → Prop} {d : DefRec}
    (hn : l.most = some n) (hdf : d.params.defaults = [])
    (call : ∀ (w : World) (s₀ s₁ : Shared) (mg mb : Str → Option Value) (fa : Addr) (o : Obj) (pm cd doc : Value) (a : Addr) (vs : List Value) (ns : List Int),
      Ground q loose [] XP w s₀ mg mb s₁.heap → YP w s₁.heap →
      s₁.heap.get? fa = some o → o.data = .func (docDef d.name d.params d.body d.scope pm cd doc) → s₁.heap.CodeRec cd d.name → mg d.name = some (.ref fa) →
      s₁.heap.get? a = some { cls := .type "list", data := .seq vs.toArray } → IntsAre vs ns → ns.length ≤ n → s₁.gens = #[] →
      codeAny (model l.prog w) callerA (.call (.ref fa) ⟨[.ref a], []⟩) (fun r s' => r = .ok (.ret (.bool true)) ∧ OldK s₁.heap s'.heap ∧ s'.os = s₁.os ∧ AllBare s'.gens) s₁) :
    WalkO q loose XP YP l.row.toRowW d [] (fun f vs => PySem.call f vs) := by
  intro w s₀ s₁ mg mb G Y fa o pm cd doc dV kV ho hd hcd hD hmg hg args vals as hpre hlay hrd hwl hlo
  obtain rfl : dV = .none := Dflts.none hD hdf
  obtain rfl : kV = .none := Dflts.noKw hD
  obtain ⟨a, vs, ns, rfl, rfl, hobj, hints, hlen⟩ := script_of hn hpre hwl
  refine enter_call (codeAny_mono (call w s₀ s₁ mg mb fa o pm cd doc a vs ns G Y ho (fd_plain hd) hcd hmg hobj hints hlen hg) fun r s' hq => ?_)
  obtain ⟨rfl, h2, h3, h4⟩ := hq
  exact ⟨.inl ⟨.bool true, .bool true, [], rfl, fun _ => rfl, .bool true, post_true l _, fun _ => ⟨List.Pairwise.nil, fun _ hm => (nomatch hm)⟩⟩, h2, h3, h4⟩

/-- the same where the top left finished generators (o_head chose holds_openN): nothing may have changed at all and no generator may be left -/
theorem attachN {l : OpenLaw} {n : Nat} {q : Program} {loose : List Str} {XP : (Str → Option Value) → Heap → Prop} {YP : World → Heap → Prop} {d : DefRec} {x : Str}
    (hn : l.most = some n) (hdf : d.params.defaults = [])
    (hbind : ∀ pm cd doc v : Value, bindArgs (docDef d.name d.params d.body d.scope pm cd doc) ⟨[v], []⟩ = pure [(x, v)])
    (hx : d.scope.names.lookup x = some .local ∨ d.scope.names.lookup x = some .cell)
    (hk : d.scope.kind = .function) (hco : d.scope.isCoroutine = false) (hgen : d.scope.isGenerator = false)
    (body : ∀ (w : World) (s₀ s₁ s : Shared) (mg mb : Str → Option Value) (fa : Addr) (o : Obj) (pm cd doc : Value) (a : Addr) (vs : List Value) (ns : List Int),
      Ground q loose [] XP w s₀ mg mb s₁.heap → YP w s₁.heap →
      s₁.heap.get? fa = some o → o.data = .func (docDef d.name d.params d.body d.scope pm cd doc) → s₁.heap.CodeRec cd d.name → mg d.name = some (.ref fa) →
      s₁.heap.get? a = some { cls := .type "list", data := .seq vs.toArray } → IntsAre vs ns → ns.length ≤ n →
      s.gens = #[] → s.os = s₁.os →
      Fr s₁.heap s₁.heap.objs.size s.heap (bindL (envOfC d.name d.scope s₁.heap.objs.size fa cd).kindOf [(x, .ref a)] fun _ => none) →
      Cl s₁.heap.objs.size (cellsFrom (s₁.heap.objs.size + 1) d.scope.names []) s.heap (bindC (envOfC d.name d.scope s₁.heap.objs.size fa cd).kindOf [(x, .ref a)] fun _ => none) →
      wpAny (model l.prog w) (callerA.deeper (envOfC d.name d.scope s₁.heap.objs.size fa cd)) (execs d.body (envOfC d.name d.scope s₁.heap.objs.size fa cd))
        (fun f s' => f = .ret (.bool true) ∧ (∀ b o, s₁.heap.get? b = some o → s'.heap.get? b = some o) ∧ s'.os = s₁.os ∧ s'.gens = #[]) (fun _ _ => False) s) :
    WalkN q loose XP YP l.row.toRowW d [] (fun f vs => PySem.call f vs) := by
  intro w s₀ s₁ mg mb G Y fa o pm cd doc dV kV ho hd hcd hD hmg hg args vals as hpre hlay hrd hwl hlo
  obtain rfl : dV = .none := Dflts.none hD hdf
  obtain rfl : kV = .none := Dflts.noKw hD
  obtain ⟨a, vs, ns, rfl, rfl, hobj, hints, hlen⟩ := script_of hn hpre hwl
  refine enter_callW ?_
  refine call_cells_ret (o := o) (by rw [depth_caller]; decide) ho (fd_plain hd) G.T.nolimit hcd (hbind pm cd doc (.ref a)) (fun y hy => ?_) (fun h₁ tk F X => ?_) hco hgen hk
  · obtain rfl : y = (x, Value.ref a) := List.mem_singleton.mp hy
    rcases hx with e | e
    · exact .inl e
    · exact .inr ⟨e, cellsFrom_some _ _ _ (.inl e)⟩
  · refine wpAny_mono (body w s₀ s₁ { s₁ with heap := h₁, toks := tk } mg mb fa o pm cd doc a vs ns G Y ho (fd_plain hd) hcd hmg hobj hints hlen hg rfl F X) (fun f s' hq => ?_) (fun _ _ hq => hq)
    obtain ⟨rfl, h2, h3, h4⟩ := hq
    exact ⟨.inl ⟨.bool true, .bool true, [], rfl, fun _ => rfl, .bool true, post_true l _, fun _ => ⟨List.Pairwise.nil, fun _ hm => (nomatch hm)⟩⟩, h2, h3, h4⟩

/-! ### rules over ANY heap (no ledger) from facts about the written part K: the library's own take a ledger (News) for what they write -/
section
variable {prog : Program} {w : World} {A : Around} {E : Value → Shared → Prop} {s : Shared} {K : Frag}

/-- a def of the module, or a method (qual 'C.m'), entered: the frame is the next address; cells behind it -/
theorem call_fn {R : Result → Shared → Prop} {name qual : Str} {params : Arguments} {body : List Stmt} {scope : Scope} {dV kV doc pm cdv ct oc : Value} {an od : Option Addr} {osl : Array (Option Value)} {f : Addr} {args : Args} {binds : List (Str × Value)}
    (X : K.In s.heap) (hlim : s.heap.NoLimit) (ho : K.lookup f = some ⟨oc, od, .func (fnOf name qual params body scope dV kV doc pm an cdv ct), osl⟩) (hcd : codeIn K cdv qual = true) (hroom : A.depth < recursionLimit)
    (hbind : BindsTo s (fnOf name qual params body scope dV kV doc pm an cdv ct) args binds)
    (hkind : (binds.all fun y => scope.names.lookup y.1 == some .local || scope.names.lookup y.1 == some .cell) = true)
    (h : ∀ s₁, InCallC s s.heap.objs.size (bindL (envOfC qual scope s.heap.objs.size f cdv).kindOf binds fun _ => none) (cellsFrom (s.heap.objs.size + 1) scope.names [])
        (bindC (envOfC qual scope s.heap.objs.size f cdv).kindOf binds fun _ => none) s₁ →
      wpAny (model prog w) (A.deeper (envOfC qual scope s.heap.objs.size f cdv)) (execs body (envOfC qual scope s.heap.objs.size f cdv))
        (fun fl s' => R (.ok (.ret (match fl with | .ret v => v | _ => .none))) s')
        (fun e s' => wpAny (model prog w) (A.deeper (envOfC qual scope s.heap.objs.size f cdv)) (leaving (envOfC qual scope s.heap.objs.size f cdv) e) (fun _ s'' => R (.error e) s'') (fun e' s'' => R (.error e') s'') s') s₁)
    (hco : scope.isCoroutine = false) (hgen : scope.isGenerator = false) (hk : scope.kind = .function) : codeAny (model prog w) A (.call (.ref f) args) R s := by
  refine codeAny_call_function hroom (X _ _ ho) rfl hco hgen rfl (codeRec_of X hcd) (hbind _ _ _ _ ?_)
  refine wpAny_newFunctionEnv_cells hk (kindsX hkind _) fun env he s₁ x => ?_
  subst he
  exact ⟨hlim.keeps x.toInCall.keep, codeAny_func (h s₁ x)⟩

/-- C(..): dict at size, instance at size + 1, then __init__ -/
theorem make_obj {R : Result → Shared → Prop} {C fI : Addr} {rest : List Value} {kw : List (Str × Value)}
    (X : K.In s.heap) (hm : makesIn K C = true) (hi : findIn K (.ref C) "__init__" = some (some (.ref fI))) (hf : isFn K (.ref fI) = true)
    (h : codeAny (model prog w) (A.under (.builtin "type.__call__" ⟨.ref C :: rest, kw⟩)) (.call (.ref fI) ⟨.ref (s.heap.objs.size + 1) :: rest, kw⟩) (InitBack (s.heap.objs.size + 1) R)
      { s with heap := (s.heap.push emptyDict).push (instObj C s.heap.objs.size) }) : codeAny (model prog w) A (.call (.ref C) ⟨rest, kw⟩) R s := by
  obtain ⟨hh, g, d, t, os⟩ := s
  exact make_core (makes_of X hm) (looks_findIn X hi) (fun self => bind_fn X self (beq_iff_eq.mp hf)) (.inl rfl) h

/-- x.name where the instance's dict holds the name and the class does not -/
theorem get_field {x C : Addr} {ox : Obj} {es : List DictEntry} {n : Nat} {name : Str} {expr : Bool} {v : Value} {Q : Value → Shared → Prop}
    (X : K.In s.heap) (I : PySem.W.InstAt s.heap x ox C (some (dictOf es n))) (hg : plainGet K C name = true) (hh : hasDictIn K C = true) (ha : findIn K (.ref C) name = some none)
    (hl : getL name es = some (some v)) (hv : handedIn v = true) (h : Q v { s with toks := s.toks + 1 }) : wpAny (model prog w) A (getAttr (.ref x) name expr) Q E s :=
  get_value X I (plainGet_of hg).1 (findObj_own hh ha rfl hl) hv h

/-- x.m(..): the method found in the class -/
theorem get_method {x C f : Addr} {ox : Obj} {es : List DictEntry} {n : Nat} {name : Str} {pl : Sem Bool} {Q : Value × List Value → Shared → Prop}
    (X : K.In s.heap) (I : PySem.W.InstAt s.heap x ox C (some (dictOf es n))) (hg : plainGet K C name = true) (hf : findIn K (.ref C) name = some (some (.ref f))) (ht : isFn K (.ref f) = true)
    (hl : getL name es = some none) (h : Q (.ref f, [.ref x]) s) : wpAny (model prog w) A (getMethod (.ref x) name pl) Q E s :=
  method_fn X I (plainGet_of hg).1 (plainGet_of hg).2 hf (beq_iff_eq.mp ht) (by show (lookIn name (dictOf es n)).map _ = _; rw [lookIn_dict, hl]; rfl) h

/-! the whole heap as the ledger: makes every rule that writes through a ledger a rule over any heap -/
def noObjs (h : Heap) : Heap := { h with objs := #[] }
theorem noObjs_get (h : Heap) (b : Addr) : (noObjs h).get? b = none := by
  cases e : (noObjs h).get? b with
  | none => rfl
  | some o => exact absurd (Heap.lt_size e) (Nat.not_lt_zero _)
def ledger (h : Heap) (L d : Addr) : List (Addr × Obj) := (List.range h.objs.size).filterMap fun a => if a = L ∨ a = d then none else (h.get? a).map fun o => (a, o)
theorem mem_ledger {h : Heap} {L d a : Addr} {o : Obj} : (a, o) ∈ ledger h L d ↔ a ≠ L ∧ a ≠ d ∧ h.get? a = some o := by
  unfold ledger
  rw [List.mem_filterMap]
  constructor
  · rintro ⟨b, _, e⟩
    split at e
    · cases e
    · rename_i hb
      obtain ⟨o', ho, e'⟩ := Option.map_eq_some_iff.mp e
      cases e'
      exact ⟨fun q => hb (.inl q), fun q => hb (.inr q), ho⟩
  · rintro ⟨n1, n2, ho⟩
    refine ⟨a, List.mem_range.mpr (Heap.lt_size ho), ?_⟩
    rw [if_neg (show ¬ (a = L ∨ a = d) from fun q => q.elim n1 n2), ho] <;> rfl
theorem news_ledger {h : Heap} {L d : Addr} {od : Obj} (hne : d ≠ L) (ho : h.get? d = some od) : News (noObjs h) L h ([] ++ (d, od) :: ledger h L d) := by
  rintro ⟨a, o⟩ hp
  rcases List.mem_cons.mp hp with e | hp
  · cases e
    exact ⟨ho, hne, noObjs_get _ _⟩
  · obtain ⟨n1, n2, e⟩ := mem_ledger.mp hp
    exact ⟨e, n1, noObjs_get _ _⟩
theorem fr_all {h : Heap} {L : Addr} {m : Str → Option Value} (n : h.Ns L m) : Fr (noObjs h) L h m :=
  ⟨n, fun b o e => (by rw [noObjs_get] at e; cases e), Nat.zero_le _⟩
/-- Upd of the head entry (for append_K, setItem_K ..) -/
theorem upd_ledger {h : Heap} {L d : Addr} {o o' : Obj} : Upd d o o' ((d, o) :: ledger h L d) ((d, o') :: ledger h L d) :=
  .head fun ⟨_, _⟩ hp => (mem_ledger.mp hp).2.1

/-- x.name = v over any heap: L is any namespace of the heap (the frame's, say): its map stays, its object is not told; all else but the dict stays -/
theorem set_field {x C dx L : Addr} {ox : Obj} {m : Str → Option Value} {es es' : List DictEntry} {n n' : Nat} {name : Str} {v : Value} {Q : Unit → Shared → Prop}
    (X : K.In s.heap) (I : PySem.W.InstAt s.heap x ox C (some (dictOf es n))) (hd : ox.dict = some dx) (hL : s.heap.Ns L m) (hne : dx ≠ L)
    (hs : findIn K (.ref C) "__setattr__" = some (some (.builtin "object.__setattr__"))) (hp : plainOver K C = true) (ht : takerIn K C name = some none) (hh : hasDictIn K C = true) (hl : (getL name es).isSome = true)
    (e : (putL name (PyData.keyHash w.params name) (.str name (s.toks + 1)) v es, putN name es n) = (es', n')) (hz : es'.length ≤ 1000)
    (h : ∀ h' : Heap, h'.Ns L m → h'.get? dx = some (dictOf es' n') → (∀ b o, b ≠ dx → b ≠ L → s.heap.get? b = some o → h'.get? b = some o) → Q () { s with heap := h', toks := s.toks + 2 }) :
    wpAny (model prog w) A (setAttr (.ref x) name v) Q E s := by
  obtain ⟨e1, e2⟩ := Prod.mk.inj e
  have hdx : s.heap.get? dx = some (dictOf es n) := by
    have := I.dict
    rw [hd] at this
    exact this
  refine set_plain X I hs (osa_dict (s := { s with toks := s.toks + 1 }) (h₀ := noObjs s.heap) (L := L) (m := m) (od := dictOf es n) (od' := dictOf es' n') (es := es') (n := n') (pre := []) (post := ledger s.heap L dx)
    (fr_all hL) (news_ledger hne hdx) X I hd hp ht hh hl (fun _ q => nomatch q) (fun ⟨_, _⟩ q => (mem_ledger.mp q).2.1) (by rw [putName_dict, e1, e2]) rfl hz fun h' F' N' => ?_)
  exact h h' F'.ns (N'.get (List.Mem.head _)) fun b o n1 n2 ho => N'.get (List.Mem.tail _ (mem_ledger.mpr ⟨n2, n1, ho⟩))
end
end Att

namespace L2
open PySem PySem.Spec PyProof.Rows

theorem vals_ints : ∀ {vs : List Value} {ns : List Int}, IntsAre vs ns → Vals (ns.map V.int) vs
  | _, _, .nil => .nil
  | _, _, .cons n t h => .cons ⟨t, rfl⟩ (vals_ints h)

/-- nothing is tracked but the script, known to the object (or it is an object of the module) -/
def Only (H : Hp) : Prop := ∀ b, H b = none ∨ ∃ o xs, H b = some (.frz o (.lst xs))

/-- THE HEAD: the law's promise, at the heap behind the top. F, the promise of the law's def, may use that base is part of the heap (so K.In base, base.Ns mainGlobals mg stand in Mod) -/
theorem law_call {P : Program} {w : World} {K : PySem.W.Frag} {mg mb : Str → Option Value} {CX : CXT} {k : Nat} {fa a : Addr} {fd : FuncData} {x : Str} {sp : Sp} {s₁ : Shared} {vs : List Value} {ns : List Int}
    (KX : K.In s₁.heap) (hns : s₁.heap.Ns mainGlobals mg) (hb : s₁.heap.Ns builtinsNs mb) (hbb : ∀ x : Str, x ≠ "__name__" → mb x = bootBuiltins x) (hlim : s₁.heap.NoLimit) (hg : s₁.gens = #[])
    (ha : s₁.heap.get? a = some { cls := .type "list", data := .seq vs.toArray }) (hi : IntsAre vs ns) (hl : ns.length ≤ sizeLine) (hr : Room k callerA)
    (F : ∀ base : Heap, K.In base → base.Ns mainGlobals mg → FnOk P w K mg base CX k fa fd [x] sp) (hbind : ∀ (s : Shared) (u : Value), BindsTo s fd ⟨[u], []⟩ [(x, u)])
    (hsp : ∀ H : Hp, Only H → SqL K H a (ns.map V.int) → sp [.ref a] H (fun v _ => v = .bl true) fun _ _ _ => False)
    (hCX : ∀ H e s', CX [] H s₁ (fun _ _ _ => False) e s' → False) :
    codeAny (model P w) callerA (.call (.ref fa) ⟨[.ref a], []⟩) (fun r s' => r = .ok (.ret (.bool true)) ∧ OldK s₁.heap s'.heap ∧ s'.os = s₁.os ∧ AllBare s'.gens) s₁ := by
  have rv := vals_ints hi
  have lenV := hi.length
  -- from an abstract heap in which nothing but the script may be tracked
  have core : ∀ H : Hp, Only H → SqL K H a (ns.map V.int) → HOk P w H s₁.heap → (∀ b, H b ≠ none → b = a) → (H a ≠ none → K.lookup a = none) →
      codeAny (model P w) callerA (.call (.ref fa) ⟨[.ref a], []⟩) (fun r s' => r = .ok (.ret (.bool true)) ∧ OldK s₁.heap s'.heap ∧ s'.os = s₁.os ∧ AllBare s'.gens) s₁ := by
    intro H hO hS hok hA hK
    have base_of : ∀ {b : Addr} {o : Obj}, s₁.heap.get? b = some o → H b = none → (hidT s₁.heap H).get? b = some o := fun e n => hidT_get e n
    have noA : ∀ {b : Addr} {o : Obj} {es : Array DictEntry} {ep : Nat}, s₁.heap.get? b = some o → o.data = .dict es ep → H b = none := fun {b o es ep} e d => by
      cases q : H b with
      | none => rfl
      | some u =>
        have e' : b = a := hA b (by rw [q]; simp)
        subst e'
        rw [ha] at e; cases e
        have d' : Data.seq vs.toArray _ = Data.dict es ep := d
        cases d'
    have nsK : ∀ {b : Addr} {m : Str → Option Value}, s₁.heap.Ns b m → (hidT s₁.heap H).Ns b m := fun {b m} ⟨o, es, ep, e, d, r⟩ => ⟨o, es, ep, base_of e (noA e d), d, r⟩
    have hKb : K.In (hidT s₁.heap H) := fun b o e => base_of (KX b o e) (by
      cases q : H b with
      | none => rfl
      | some u =>
        have e' : b = a := hA b (by rw [q]; simp)
        subst e'
        rw [hK (by rw [q]; simp)] at e; cases e)
    have hM : Mod K mg (hidT s₁.heap H) := ⟨hKb, nsK hns, ⟨mb, nsK hb, hbb⟩, let ⟨mc, h1, h2⟩ := hlim; ⟨mc, nsK h1, h2⟩⟩
    have e0 : Env0 P w K mg (hidT s₁.heap H) callerA [] s₁ H := ⟨rfl, hM, fun b o e => of_hidT e, Nat.le_of_eq (hidT_size _ _), trivial, fun b hb => absurd (show b ∈ ([] : List Addr) from hb) (by simp), hok, .of_eq hg⟩
    refine codeAny_mono ((F _ hKb (nsK hns)).run callerA [] s₁ H ⟨[.ref a], []⟩ [.ref a] [.ref a] _ _ hr e0 (hbind s₁ (.ref a)) (.cons rfl .nil) (hsp H hO hS)) fun r s' h => ?_
    cases r with
    | error e => exact (hCX H e s' h).elim
    | ok fl =>
      cases fl with
      | next => exact False.elim h
      | brk => exact False.elim h
      | cont => exact False.elim h
      | ret u =>
        obtain ⟨v, H', os, bare, un, hok', r', q⟩ := h
        have q' : v = .bl true := q
        subst q'
        obtain rfl : u = Value.bool true := r'
        refine ⟨rfl, OldK.of_keep fun b o e => ?_, os, bare⟩
        cases q : H b with
        | none => exact un.keep b o e q (by intro z; exact absurd (show b ∈ ([] : List Addr) from z) (by simp)) (by simp)
        | some u =>
          rcases hO b with z | ⟨ob, xs, z⟩
          · rw [q] at z; cases z
          · have z2 := un.frzs b ob _ z
            obtain ⟨e1, _⟩ := hok b _ z
            obtain ⟨e2, _⟩ := hok' b _ z2
            rw [e] at e1; cases e1
            exact e2
  cases hk : K.lookup a with
  | some o =>
    -- the script is one of the module's own objects
    have e := KX a o hk
    rw [ha] at e
    cases e
    refine core (fun _ => none) (fun _ => .inl rfl) (.inr ⟨_, vs.toArray, _, hk, rfl, rfl, rfl, by rw [List.size_toArray, lenV]; exact hl, by simpa using rv⟩) (fun b u z => by have z' : (none : Option HO) = some u := z; cases z') (fun b z => absurd rfl z) fun z => absurd rfl z
  | none =>
    refine core (fun b => if b = a then some (.frz { cls := .type "list", data := .seq vs.toArray } (.lst (ns.map V.int))) else none) (fun b => ?_) (.inl (.inr ⟨{ cls := .type "list", data := .seq vs.toArray }, if_pos rfl⟩)) (fun b u z => ?_) (fun b z => ?_) fun _ => hk
    · by_cases hb : b = a
      · exact .inr ⟨_, _, if_pos hb⟩
      · exact .inl (if_neg hb)
    · by_cases hb : b = a
      · have z' := (if_pos hb).symm.trans z
        cases z'
        subst hb
        exact ⟨ha, by rw [List.length_map]; exact hl, vs, _, rv, ha⟩
      · have z' := (if_neg hb).symm.trans z
        cases z'
    · by_cases hb : b = a
      · exact hb
      · exact absurd (if_neg hb) z
end L2

namespace L2
open PySem PySem.Spec PyProof.Rows

abbrev KOf {K : PySem.W.Frag} {h : Heap} (_ : K.In h) : PySem.W.Frag := K

/-- the goal that k_head leaves (case hc), from the law's promise. F gives the function object fd (K's own) once, then the promise over every base -/
theorem walk_of {l : PySem.W.OpenLaw} {n k : Nat} {q : Program} {loose : List Str} {XP : (Str → Option Value) → Heap → Prop} {YP : World → Heap → Prop} {d : DefRec} {K : Params → PySem.W.Frag} {CX : World → CXT} {sp : World → Sp} {x : Str}
    (hn : l.most = some n) (hn2 : n ≤ sizeLine) (hdf : d.params.defaults = []) (hr : Room k callerA)
    (hY : ∀ (w : World) (h : Heap), YP w h → (K w.params).In h)
    (F : ∀ (w : World) (mg : Str → Option Value) (fa : Addr) (h : Heap), (K w.params).In h → h.Ns mainGlobals mg → mg d.name = some (.ref fa) →
      ∃ fd : FuncData, (∀ (s : Shared) (u : Value), BindsTo s fd ⟨[u], []⟩ [(x, u)]) ∧
        ∀ base : Heap, (K w.params).In base → base.Ns mainGlobals mg → FnOk l.prog w (K w.params) mg base (CX w) k fa fd [x] (sp w))
    (hsp : ∀ (w : World) (H : Hp) (a : Addr) (ns : List Int), ns.length ≤ n → Only H → SqL (K w.params) H a (ns.map V.int) → sp w [.ref a] H (fun v _ => v = .bl true) fun _ _ _ => False)
    (hCX : ∀ (w : World) (H : Hp) (s : Shared) (e : Value) (s' : Shared), CX w [] H s (fun _ _ _ => False) e s' → False) :
    PySem.W.WalkO q loose XP YP l.row.toRowW d [] (fun f vs => PySem.call f vs) := by
  refine Att.attach_call hn hdf fun w s₀ s₁ mg mb fa o pm cd doc a vs ns G Y ho hd hcd hmg hobj hints hlen hg => ?_
  have KX := hY w _ Y
  obtain ⟨fd, hb, hF⟩ := F w mg fa _ KX G.T.g hmg
  exact law_call KX G.T.g G.T.b G.T.builtins G.T.nolimit hg hobj hints (Nat.le_trans hlen hn2) hr hF hb (fun H hO hS => hsp w H a ns hlen hO hS) fun H e s' => hCX w H s₁ e s'
/-- the same where the promise hangs on the written part alone: (sp := My.sp_law), no hole under a binder -/
theorem walk_ofK {l : PySem.W.OpenLaw} {n k : Nat} {q : Program} {loose : List Str} {XP : (Str → Option Value) → Heap → Prop} {YP : World → Heap → Prop} {d : DefRec} {K : Params → PySem.W.Frag} {CX : CXT} {sp : PySem.W.Frag → Sp} {x : Str}
    (hn : l.most = some n) (hn2 : n ≤ sizeLine) (hdf : d.params.defaults = []) (hr : Room k callerA)
    (hY : ∀ (w : World) (h : Heap), YP w h → (K w.params).In h)
    (F : ∀ (w : World) (mg : Str → Option Value) (fa : Addr) (h : Heap), (K w.params).In h → h.Ns mainGlobals mg → mg d.name = some (.ref fa) →
      ∃ fd : FuncData, (∀ (s : Shared) (u : Value), BindsTo s fd ⟨[u], []⟩ [(x, u)]) ∧
        ∀ base : Heap, (K w.params).In base → base.Ns mainGlobals mg → FnOk l.prog w (K w.params) mg base CX k fa fd [x] (sp (K w.params)))
    (hsp : ∀ (K : PySem.W.Frag) (H : Hp) (a : Addr) (ns : List Int), ns.length ≤ n → Only H → SqL K H a (ns.map V.int) → sp K [.ref a] H (fun v _ => v = .bl true) fun _ _ _ => False)
    (hCX : ∀ (H : Hp) (s : Shared) (e : Value) (s' : Shared), CX [] H s (fun _ _ _ => False) e s' → False) :
    PySem.W.WalkO q loose XP YP l.row.toRowW d [] (fun f vs => PySem.call f vs) :=
  walk_of (K := K) (CX := fun _ => CX) (sp := fun w => sp (K w.params)) hn hn2 hdf hr hY F (fun w H a ns h1 h2 h3 => hsp (K w.params) H a ns h1 h2 h3) fun _ H s e s' => hCX H s e s'
end L2

/- THE LAST THEOREM (shape; LID, My.* are yours):
   My.Adr: a structure of the addresses that your layer names (classes, functions); My.Txt K t: a structure (Prop) of the equations over K;
   My.txt_mk : {K} {implicit addresses ..} (e1 : nsIn K mainGlobals "law" = some (some (.ref f))) (e2 : K.lookup f = some ⟨oc, od, .func (fnOf "law" "law" params body scope dV kV doc pm an cdv ct), sl⟩) (e3 : codeIn K cdv "law" = true) .. : ∃ t, My.Txt K t

set_option maxRecDepth 100000 in
set_option maxHeartbeats 0 in
theorem PySem.Challenge.cw_LID_holds : PySem.Challenge.rw_LID.Holds := by
  w_on; o_law; k_head; (case hw => w_witness2)
  k_fill
  refine L2.walk_of (l := PySem.Challenge.rw_LID) (n := 63) (k := 40) (x := "script") (CX := fun w => ..) (sp := fun _ => My.sp_law) rfl (by decide) rfl ⟨rfl, by decide, by decide⟩ (fun w h Y => PySem.W.kIn_of Y) ?F ?S ?C
  case F =>
    intro w mg fa h KX G hmg
    have T : ∃ t, My.Txt (L2.KOf KX) t := by
      dsimp only [L2.KOf]                          -- K must stand as «<heap const> w.params» for k_is
      refine' My.txt_mk ?e1 ?e2 ?e3 ..
      (case e1 => PySem.W.k_is)                    -- in the order: a name -> its address -> its object -> its parts
      (case e2 => PySem.W.k_is)
      ..
    obtain ⟨t, T⟩ := T
    have e0 := hmg.symm.trans (PySem.W.mg_of KX G T.law)
    cases e0                                       -- fa is the law's own address
    exact ⟨_, fun s u => .of_eq rfl, fun base kb nb => My.law_fn T kb nb⟩     -- if «.of_eq rfl» comes too early: refine' ⟨_, ?b, fun base kb nb => My.law_fn T kb nb⟩; exact fun s u => .of_eq rfl
  case S => exact fun w H a ns hl hO hS => ..
  case C => exact ..
(the tactic k_is has no namespace: write k_is) -/

/-! SHORT WORDS over the layer: a def of the text, its body, what a loop and a test want. -/
namespace L2
open PySem PySem.Spec PyProof.Rows

/-! ### the text by places -/
/-- the j-th statement of a class's body -/
def inClass (s : Stmt) (j : Nat) : Stmt := match s with
  | .ClassDef _ _ _ body _ _ _ _ _ _ _ => body.getD j (.Pass ⟨0, 0, 0, 0⟩)
  | _ => .Pass ⟨0, 0, 0, 0⟩
def defArgs (s : Stmt) : Arguments := match s with
  | .FunctionDef _ a _ _ _ _ _ _ _ _ => a
  | _ => { posonlyargs := [], args := [], vararg := none, kwonlyargs := [], kw_defaults := [], kwarg := none, defaults := [] }
def defBody (s : Stmt) : List Stmt := match s with
  | .FunctionDef _ _ b _ _ _ _ _ _ _ => b
  | _ => []
def defScope (s : Stmt) : Scope := match s with
  | .FunctionDef _ _ _ _ _ _ sc _ _ _ => sc
  | _ => { kind := .function, names := [], isGenerator := false, isCoroutine := false }

/-! ### no exception leaves a def -/
abbrev CX0 : CXT := fun _ _ _ _ _ _ => False
abbrev E0 : XK := fun _ _ _ => False
theorem pass0 {X : Cx} : Passes CX0 X E0 := fun _ _ _ _ _ _ _ h => h.elim

/-! ### a def (or method) of the text as it stands behind the top -/
structure Fun (K : PySem.W.Frag) (x qual : Str) (st : Stmt) (f : Addr) (fd : FuncData) : Prop where
  ex : ∃ (oc : Value) (od : Option Addr) (kV doc pm : Value) (an : Option Addr) (cdv ct : Value) (osl : Array (Option Value)),
    fd = PySem.W.fnOf x qual (defArgs st) (defBody st) (defScope st) .none kV doc pm an cdv ct ∧ K.lookup f = some ⟨oc, od, .func fd, osl⟩ ∧ PySem.W.codeIn K cdv qual = true
  kp : PySem.W.keepIn K (.ref f) = true
section
variable {P : Program} {w : World} {K : PySem.W.Frag} {mg : Str → Option Value} {base : Heap}
/-- THE RULE for a def: its body as a term of rules, and the reading of that term -/
theorem Fun.ok {x qual : Str} {st : Stmt} {f : Addr} {fd : FuncData} {N ps : List Str} {k : Nat} {sp : Sp} (F : Fun K x qual st f fd) (S : FnScope N ps (defScope st)) (len : ∀ vs H Q E, sp vs H Q E → vs.length = ps.length)
    (hbody : ∀ (cdv : Value) (A : Around) (outer : List Env) (s : Shared) (H : Hp) (vs : List V) (Q : VK) (E : XK), Room k (A.deeper (envOfC qual (defScope st) s.heap.objs.size f cdv)) → sp vs H Q E →
      ∃ t, PSs (cxOf CX0 P w K mg base N qual (defScope st) f cdv A outer s H E).nox (defBody st) t ∧ t { nx := fun _ H' => Q .non H', rt := Q } (start N vs) H) : FnOk P w K mg base CX0 (k + 1) f fd ps sp := by
  obtain ⟨oc, od, kV, doc, pm, an, cdv, ct, osl, rfl, lk, hcd⟩ := F.ex
  refine fn_of lk hcd S len fun A outer s H vs Q E hr hsp => ?_
  obtain ⟨t, h, q⟩ := hbody cdv A outer s H vs Q E hr hsp
  exact ⟨t, h.nox, q⟩
/-- how its arguments bind (no defaults): h is «fun _ _ _ _ _ _ us hl => match us, hl with | [_, _], _ => rfl», one _ a parameter -/
theorem Fun.binds {x qual : Str} {st : Stmt} {f : Addr} {fd : FuncData} {ps : List Str} (F : Fun K x qual st f fd)
    (h : ∀ (kV doc pm : Value) (an : Option Addr) (cdv ct : Value) (us : List Value), us.length = ps.length → bindArgs (PySem.W.fnOf x qual (defArgs st) (defBody st) (defScope st) .none kV doc pm an cdv ct) ⟨us, []⟩ = pure (ps.zip us)) : Binds K fd ps [] := by
  obtain ⟨oc, od, kV, doc, pm, an, cdv, ct, osl, rfl, lk, hcd⟩ := F.ex
  exact .all (h kV doc pm an cdv ct)
theorem fun_mk {x qual : Str} {st : Stmt} {f : Addr} {oc : Value} {od an : Option Addr} {osl : Array (Option Value)} {kV doc pm cdv ct : Value} (l : K.lookup f = some ⟨oc, od, .func (PySem.W.fnOf x qual (defArgs st) (defBody st) (defScope st) .none kV doc pm an cdv ct), osl⟩)
    (c : PySem.W.codeIn K cdv qual = true) (k : PySem.W.keepIn K (.ref f) = true) : Fun K x qual st f (PySem.W.fnOf x qual (defArgs st) (defBody st) (defScope st) .none kV doc pm an cdv ct) := ⟨⟨oc, od, kV, doc, pm, an, cdv, ct, osl, rfl, l, c⟩, k⟩
end
theorem hu_of {A : Around} {k : Nat} (hr : Room k A) : A.units + 1 < cLine := Nat.lt_of_le_of_lt (Nat.add_le_add_left (by decide : 1 ≤ 64) _) hr.units
theorem small1000 {n : Nat} (h : n ≤ 1000) : n < sizeLine := Nat.lt_of_le_of_lt h (by decide)

/-! ### expressions in short: the name that stands in the i-th slot -/
section
variable {X : Cx}
theorem pv (i : Nat) {x : Str} {pos : Pos} (hN : X.N[i]? = some x := by rfl) (hv : Vis X.env.scope x := by first | exact Or.inl rfl | exact Or.inr (Or.inl rfl) | exact Or.inr (Or.inr rfl)) (hd : (x == ("__debug__" : Str)) = false := by decide)
    (hcd : (x == ("__classdict__" : Str)) = false := by decide) : PE X (.Name x pos) (tVar i) := pe_var hN hv hd hcd
end

/-! ### tests -/
theorem iteF {A B : Prop} (h : B) : if false = true then A else B := by
  rw [if_neg Bool.false_ne_true]
  exact h
theorem iteT {A B : Prop} (h : A) : if true = true then A else B := by
  rw [if_pos rfl]
  exact h
theorem ite2 {c A B : Prop} [Decidable c] (h1 : c → A) (h2 : ¬ c → B) : if c then A else B := by
  by_cases h : c
  · rw [if_pos h]
    exact h1 h
  · rw [if_neg h]
    exact h2 h
theorem iteNS {c A B : Prop} [Decidable c] (hc : c) (h : B) : if (!decide c) = true then A else B := by
  rw [decide_eq_true hc]
  exact iteF h

/-! ### heaps -/
/-- all that was tracked is as it was -/
def Same (H H' : Hp) : Prop := ∀ b o, H b = some o → H' b = some o
theorem Same.refl (H : Hp) : Same H H := fun _ _ h => h
theorem Same.trans {H H1 H2 : Hp} (a : Same H H1) (b : Same H1 H2) : Same H H2 := fun c o h => b c o (a c o h)
theorem Same.free {H H' : Hp} (e : Same H H') {l : Addr} (h : H' l = Option.none) : H l = Option.none := by
  cases q : H l with
  | none => rfl
  | some o =>
    rw [e l o q] at h
    cases h
theorem Same.seq {K : PySem.W.Frag} {H H' : Hp} {a : Addr} {xs : List V} (e : Same H H') (h : SqL K H a xs) : SqL K H' a xs := by
  rcases h with (h | ⟨o, h⟩) | h
  · exact .inl (.inl (e _ _ h))
  · exact .inl (.inr ⟨o, e _ _ h⟩)
  · exact .inr h

end L2

set_option Elab.async false
set_option linter.all false
set_option maxRecDepth 100000
namespace L2
open PySem PySem.Spec PyProof.Rows

/-! ### lists of pairs as tables -/
section
variable {κ : Type} [DecidableEq κ]
def valV (kvs : List (κ × V)) (k : κ) : Option V := (kvs.find? fun kv => decide (kv.1 = k)).map (·.2)
/-- in its place, or at the end -/
def putK (kvs : List (κ × V)) (k : κ) (v : V) : List (κ × V) :=
  if (kvs.any fun kv => decide (kv.1 = k)) = true then kvs.map (fun kv => if kv.1 = k then (kv.1, v) else kv) else kvs ++ [(k, v)]
def dropK (kvs : List (κ × V)) (k : κ) : List (κ × V) := kvs.filter fun kv => decide (kv.1 ≠ k)

theorem valV_nil {k : κ} : valV ([] : List (κ × V)) k = none := rfl
theorem valV_pos {p : κ × V} {r : List (κ × V)} {k : κ} (e : p.1 = k) : valV (p :: r) k = some p.2 := by simp [valV, List.find?_cons, e]
theorem valV_neg {p : κ × V} {r : List (κ × V)} {k : κ} (e : ¬ p.1 = k) : valV (p :: r) k = valV r k := by simp [valV, List.find?_cons, e]
theorem valV_any (k : κ) : ∀ kvs : List (κ × V), (kvs.any fun kv => decide (kv.1 = k)) = (valV kvs k).isSome
  | [] => rfl
  | p :: r => by
    rw [List.any_cons]
    by_cases e : p.1 = k
    · simp only [valV_pos e, decide_eq_true e, Bool.true_or, Option.isSome_some]
    · rw [valV_neg e, decide_eq_false e, Bool.false_or]; exact valV_any k r
theorem valV_map (k j : κ) (y : V) : ∀ kvs : List (κ × V), valV (kvs.map fun kv => if kv.1 = k then (kv.1, y) else kv) j = (valV kvs j).map fun x => if j = k then y else x
  | [] => rfl
  | p :: r => by
    have ih := valV_map k j y r
    rw [List.map_cons]
    by_cases h : p.1 = k
    · rw [if_pos h]
      by_cases e : p.1 = j
      · rw [valV_pos (p := (p.1, y)) e, valV_pos e, Option.map_some, if_pos (e.symm.trans h)]
      · rw [valV_neg (p := (p.1, y)) e, valV_neg e, ih]
    · rw [if_neg h]
      by_cases e : p.1 = j
      · rw [valV_pos (p := p) e, valV_pos e, Option.map_some, if_neg (fun z => h (e.trans z))]
      · rw [valV_neg (p := p) e, valV_neg e, ih]
theorem valV_snoc (k j : κ) (y : V) : ∀ kvs : List (κ × V), valV kvs k = none → valV (kvs ++ [(k, y)]) j = if j = k then some y else valV kvs j
  | [], _ => by
    by_cases e : k = j
    · rw [if_pos e.symm]; exact valV_pos (p := (k, y)) e
    · rw [if_neg (fun z => e z.symm)]; exact valV_neg (p := (k, y)) e
  | p :: r, hn => by
    rw [List.cons_append]
    have hk : ¬ p.1 = k := fun z => by rw [valV_pos z] at hn; cases hn
    rw [valV_neg hk] at hn
    have ih := valV_snoc k j y r hn
    by_cases e : p.1 = j
    · rw [valV_pos e, valV_pos e, if_neg (fun z => hk (e.trans z))]
    · rw [valV_neg e, valV_neg e, ih]
theorem valV_put (kvs : List (κ × V)) (k j : κ) (y : V) : valV (putK kvs k y) j = if j = k then some y else valV kvs j := by
  unfold putK
  by_cases a : (kvs.any fun kv => decide (kv.1 = k)) = true
  · rw [if_pos a, valV_map]
    rw [valV_any] at a
    by_cases e : j = k
    · obtain ⟨x, hx⟩ := Option.isSome_iff_exists.mp a
      rw [if_pos e, e, hx, Option.map_some, if_pos rfl]
    · rw [if_neg e]
      cases valV kvs j with
      | none => rfl
      | some x => rw [Option.map_some, if_neg e]
  · rw [if_neg a]
    refine valV_snoc k j y kvs ?_
    rw [valV_any] at a
    cases q : valV kvs k with
    | none => rfl
    | some x => rw [q] at a; exact (a rfl).elim
theorem length_putK (kvs : List (κ × V)) (k : κ) (v : V) : (putK kvs k v).length ≤ kvs.length + 1 := by
  unfold putK
  split
  · rw [List.length_map]; omega
  · rw [List.length_append, List.length_cons, List.length_nil]; omega
theorem putK_new {kvs : List (κ × V)} {k : κ} (v : V) (h : valV kvs k = none) : putK kvs k v = kvs ++ [(k, v)] := by
  unfold putK
  rw [valV_any, h]
  exact if_neg (by decide)

theorem RelO.isSome_eq {o : Option V} {u : Option Value} (r : RelO o u) : o.isSome = u.isSome := by
  cases o with
  | none => cases u with
    | none => rfl
    | some _ => exact (show False from r).elim
  | some _ => cases u with
    | none => exact (show False from r).elim
    | some _ => rfl
theorem RelO.getD {o : Option V} {u : Option Value} {d : V} {d' : Value} (r : RelO o u) (rd : RelV d d') : RelV (o.getD d) (u.getD d') := by
  cases o with
  | none => cases u with
    | none => exact rd
    | some _ => exact (show False from r).elim
  | some _ => cases u with
    | none => exact (show False from r).elim
    | some _ => exact r

/-- raw tables of the same keys -/
theorem KV.val {kvs : List (κ × V)} {vs : List (κ × Value)} (r : KV kvs vs) (k : κ) : RelO (valV kvs k) (valueAt vs k) := by
  unfold KV at r
  induction r with
  | nil => exact True.intro
  | @cons p q ps qs h t ih =>
    obtain ⟨h1, h2⟩ := h
    by_cases e : p.1 = k
    · have e' : q.1 = k := h1.symm.trans e
      have b : valueAt (q :: qs) k = some q.2 := by simp [valueAt, List.find?_cons, e']
      rw [valV_pos e, b]; exact h2
    · have e' : ¬ q.1 = k := fun z => e (h1.trans z)
      have b : valueAt (q :: qs) k = valueAt qs k := by simp [valueAt, List.find?_cons, e']
      rw [valV_neg e, b]; exact ih
theorem KV.any {kvs : List (κ × V)} {vs : List (κ × Value)} (r : KV kvs vs) (k : κ) : (kvs.any fun kv => decide (kv.1 = k)) = vs.any fun kv => decide (kv.1 = k) := by
  unfold KV at r
  induction r with
  | nil => rfl
  | cons h t ih => rw [List.any_cons, List.any_cons, ih, h.1]
theorem KV.repl {kvs : List (κ × V)} {vs : List (κ × Value)} (r : KV kvs vs) (k : κ) {y : V} {u : Value} (ry : RelV y u) :
    KV (kvs.map fun kv => if kv.1 = k then (kv.1, y) else kv) (vs.map fun kv => if kv.1 = k then (kv.1, u) else kv) := by
  unfold KV at r ⊢
  induction r with
  | nil => exact .nil
  | @cons p q ps qs h t ih =>
    rw [List.map_cons, List.map_cons]
    refine .cons ?_ ih
    obtain ⟨h1, h2⟩ := h
    by_cases e : p.1 = k
    · rw [if_pos e, if_pos (h1.symm.trans e)]; exact ⟨h1, ry⟩
    · rw [if_neg e, if_neg (fun z => e (h1.trans z))]; exact ⟨h1, h2⟩
theorem KV.put {kvs : List (κ × V)} {vs : List (κ × Value)} (r : KV kvs vs) (k : κ) {y : V} {u : Value} (ry : RelV y u) : KV (putK kvs k y) (stored vs k u) := by
  unfold putK stored
  rw [r.any k]
  by_cases e : (vs.any fun kv => decide (kv.1 = k)) = true
  · rw [if_pos e, if_pos e]; exact r.repl k ry
  · rw [if_neg e, if_neg e]; exact Paired.snoc r ⟨rfl, ry⟩
theorem KV.drop {kvs : List (κ × V)} {vs : List (κ × Value)} (r : KV kvs vs) (k : κ) : KV (dropK kvs k) (without vs k) := by
  unfold KV at r ⊢
  unfold dropK without
  induction r with
  | nil => exact .nil
  | @cons p q ps qs h t ih =>
    obtain ⟨h1, h2⟩ := h
    rw [List.filter_cons, List.filter_cons]
    by_cases e : p.1 = k
    · have a : ¬ decide (p.1 ≠ k) = true := by simp [e]
      have b : ¬ decide (q.1 ≠ k) = true := by simp [h1.symm.trans e]
      rw [if_neg a, if_neg b]; exact ih
    · have e' : ¬ q.1 = k := fun z => e (h1.trans z)
      have a : decide (p.1 ≠ k) = true := by simp [e]
      have b : decide (q.1 ≠ k) = true := by simp [e']
      rw [if_pos a, if_pos b]; exact .cons ⟨h1, h2⟩ ih
theorem KV.keys {kvs : List (κ × V)} {vs : List (κ × Value)} (r : KV kvs vs) : kvs.map (·.1) = vs.map (·.1) := by
  unfold KV at r
  induction r with
  | nil => rfl
  | cons h t ih => rw [List.map_cons, List.map_cons, ih, h.1]
theorem KV.length {kvs : List (κ × V)} {vs : List (κ × Value)} (r : KV kvs vs) : kvs.length = vs.length := Paired.length r
theorem dropK_le (kvs : List (κ × V)) (k : κ) : (dropK kvs k).length ≤ kvs.length := List.length_filter_le _ _
end


/-! ### a tracked dict, its keys ints and texts or tuples of these -/
theorem kV_is {P : Program} {w : World} {k : Key} {u : Value} (r : RelV (kV k) u) : (mixKind P w).is k u = true := by
  cases k with
  | inl i => obtain ⟨t, e⟩ := (show ∃ t, u = Value.int i t from r); subst e; exact mixKind_int P w i t
  | inr x => obtain ⟨t, e⟩ := (show ∃ t, u = Value.str x t from r); subst e; exact mixKind_str P w x t
theorem kV_inj {a b : Key} (e : kV a = kV b) : a = b := by
  cases a with
  | inl i => cases b with
    | inl j => have e' : V.int i = V.int j := e; injection e' with e'; rw [e']
    | inr y => exact nomatch (show V.int i = V.str y from e)
  | inr x => cases b with
    | inl j => exact nomatch (show V.str x = V.int j from e)
    | inr y => have e' : V.str x = V.str y := e; injection e' with e'; rw [e']
theorem kVs_inj : ∀ {a b : List Key}, a.map kV = b.map kV → a = b
  | [], [], _ => rfl
  | [], _ :: _, e => by simp at e
  | _ :: _, [], e => by simp at e
  | x :: xs, y :: ys, e => by
    rw [List.map_cons, List.map_cons] at e
    injection e with e1 e2
    rw [kV_inj e1, kVs_inj e2]
theorem items_are {P : Program} {w : World} : ∀ {ks : List Key} {us : List Value}, Vals (ks.map kV) us → ItemsAre (mixKind P w) ks us
  | [], _, r => by rw [List.map_nil] at r; cases r; exact .nil
  | k :: ks, _, r => by
    rw [List.map_cons] at r
    cases r with
    | cons h t => exact .cons (kV_is h) (items_are t)

/-- raw entries of a dict with tuple keys -/
abbrev KT (H : Hp) : List (List Key × V) → List (List Key × Addr × Value) → Prop := Paired fun p q => p.1 = q.1 ∧ H q.2.1 = some (.tup (p.1.map kV)) ∧ RelV p.2 q.2.2
theorem KT.val {H : Hp} {kvs : List (List Key × V)} {xs : List (List Key × Addr × Value)} (r : KT H kvs xs) (k : List Key) : RelO (valV kvs k) ((atKey xs k).map (·.2)) := by
  induction r with
  | nil => exact True.intro
  | @cons p q ps qs h t ih =>
    obtain ⟨h1, _, h2⟩ := h
    by_cases e : p.1 = k
    · have e' : q.1 = k := h1.symm.trans e
      have b : atKey (q :: qs) k = some q.2 := by simp [atKey, List.find?_cons, e']
      rw [valV_pos e, b]; exact h2
    · have e' : ¬ q.1 = k := fun z => e (h1.trans z)
      have b : atKey (q :: qs) k = atKey qs k := by simp [atKey, List.find?_cons, e']
      rw [valV_neg e, b]; exact ih
theorem KT.repl {H : Hp} {kvs : List (List Key × V)} {xs : List (List Key × Addr × Value)} (r : KT H kvs xs) (k : List Key) {y : V} {u : Value} (ry : RelV y u) :
    KT H (kvs.map fun kv => if kv.1 = k then (kv.1, y) else kv) (xs.map (putAt k u)) := by
  induction r with
  | nil => exact .nil
  | @cons p q ps qs h t ih =>
    rw [List.map_cons, List.map_cons]
    refine .cons ?_ ih
    obtain ⟨h1, h2, h3⟩ := h
    unfold putAt
    by_cases e : p.1 = k
    · rw [if_pos e, if_pos (h1.symm.trans e)]; exact ⟨h1, h2, ry⟩
    · rw [if_neg e, if_neg (fun z => e (h1.trans z))]; exact ⟨h1, h2, h3⟩
theorem KT.put {H : Hp} {kvs : List (List Key × V)} {xs : List (List Key × Addr × Value)} (r : KT H kvs xs) (k : List Key) {b : Addr} {y : V} {u : Value} (hb : H b = some (.tup (k.map kV))) (ry : RelV y u) :
    KT H (putK kvs k y) (storedH xs k b u) := by
  have e : (kvs.any fun kv => decide (kv.1 = k)) = (atKey xs k).isSome := by
    rw [valV_any, (r.val k).isSome_eq, Option.isSome_map]
  unfold putK storedH
  rw [e]
  by_cases q : (atKey xs k).isSome = true
  · rw [if_pos q, if_pos q]; exact r.repl k ry
  · rw [if_neg q, if_neg q]; exact Paired.snoc r ⟨rfl, hb, ry⟩
theorem KT.keeps {H H' : Hp} {kvs : List (List Key × V)} {xs : List (List Key × Addr × Value)} (r : KT H kvs xs) (ht : ∀ b ys, H b = some (.tup ys) → H' b = some (.tup ys)) : KT H' kvs xs :=
  Paired.mapP r fun _ _ z => ⟨z.1, ht _ _ z.2.1, z.2.2⟩

section
variable {P : Program} {w : World} {H : Hp} {h : Heap} {a : Addr}
theorem rd_of {u : HO} (ok : HOk P w H h) (e : Rd H a u) : ObjOk P w H h a u := e.ok ok
theorem dk_rd {kvs : List (Key × V)} (ok : HOk P w H h) (e : Rd H a (.dK kvs)) : kvs.length ≤ sizeLine ∧ (a == sysModules) = false ∧ ∃ vs, KV kvs vs ∧ h.DictOf (mixKind P w) a vs :=
  show ObjOk P w H h a (.dK kvs) from rd_of ok e
theorem dk_of {kvs : List (Key × V)} (ok : HOk P w H h) (e : H a = some (.dK kvs)) : kvs.length ≤ sizeLine ∧ (a == sysModules) = false ∧ ∃ vs, KV kvs vs ∧ h.DictOf (mixKind P w) a vs := dk_rd ok (.inl e)
/-- a tracked tuple of ints and texts is a key -/
theorem key_of {ks : List Key} (ok : HOk P w H h) (e : H a = some (.tup (ks.map kV))) : (tupleKind (mixKind P w)).is h ks a := by
  obtain ⟨_, its, r, o, h1, h2, n, h3⟩ := (show ObjOk P w H h a (.tup (ks.map kV)) from ok a _ e)
  exact ⟨o, its.toArray, n, h1, h2, h3, by simpa using items_are r⟩
theorem dt_rd {kvs : List (List Key × V)} (ok : HOk P w H h) (e : Rd H a (.dT kvs)) : kvs.length ≤ sizeLine ∧ (a == sysModules) = false ∧
    ∃ xs, KT H kvs xs ∧ h.DictOfH (tupleKind (mixKind P w)) a xs := by
  obtain ⟨z, y, xs, r, o, es, ep, h1, h2, h3, h4, h5⟩ := (show ObjOk P w H h a (.dT kvs) from rd_of ok e)
  refine ⟨z, y, xs, r, o, es, ep, h1, h2, h3, h4, fun x hx => ?_, h5⟩
  have all : ∀ {l : List (List Key × V)} {m : List (List Key × Addr × Value)}, KT H l m → ∀ x ∈ m, (tupleKind (mixKind P w)).is h x.1 x.2.1 := by
    intro l m q
    induction q with
    | nil => intro x hx; exact nomatch hx
    | @cons p q ps qs hq t ih =>
      intro x hx
      rcases List.mem_cons.mp hx with e | hx
      · subst e
        exact key_of ok (by rw [← hq.1]; exact hq.2.1)
      · exact ih x hx
  exact all r x hx
theorem dt_of {kvs : List (List Key × V)} (ok : HOk P w H h) (e : H a = some (.dT kvs)) : kvs.length ≤ sizeLine ∧ (a == sysModules) = false ∧
    ∃ xs, KT H kvs xs ∧ h.DictOfH (tupleKind (mixKind P w)) a xs := dt_rd ok (.inl e)
end

/-- what the dict at a holds at the key y -/
def DGet (H : Hp) (a : Addr) (y : V) (r : Option V) : Prop :=
  (∃ kvs k, Rd H a (.dK kvs) ∧ y = kV k ∧ r = valV kvs k) ∨ ∃ kvs k b, Rd H a (.dT kvs) ∧ y = .ref b ∧ H b = some (.tup (k.map kV)) ∧ r = valV kvs k
/-- the heap behind a[y] = v -/
def DPut (H : Hp) (a : Addr) (y v : V) (H' : Hp) : Prop :=
  (∃ kvs k, H a = some (.dK kvs) ∧ y = kV k ∧ kvs.length < sizeLine ∧ H' = upd H a (.dK (putK kvs k v))) ∨
  ∃ kvs k b, H a = some (.dT kvs) ∧ y = .ref b ∧ H b = some (.tup (k.map kV)) ∧ kvs.length < sizeLine ∧ H' = upd H a (.dT (putK kvs k v))
theorem DGet.k {H : Hp} {a : Addr} {kvs : List (Key × V)} {k : Key} (e : H a = some (.dK kvs)) : DGet H a (kV k) (valV kvs k) := .inl ⟨kvs, k, .inl e, rfl, rfl⟩
theorem DGet.t {H : Hp} {a b : Addr} {kvs : List (List Key × V)} {k : List Key} (e : H a = some (.dT kvs)) (eb : H b = some (.tup (k.map kV))) : DGet H a (.ref b) (valV kvs k) := .inr ⟨kvs, k, b, .inl e, rfl, eb, rfl⟩
theorem DPut.k {H : Hp} {a : Addr} {kvs : List (Key × V)} {k : Key} {v : V} (e : H a = some (.dK kvs)) (hl : kvs.length < sizeLine) : DPut H a (kV k) v (upd H a (.dK (putK kvs k v))) := .inl ⟨kvs, k, e, rfl, hl, rfl⟩
theorem DPut.t {H : Hp} {a b : Addr} {kvs : List (List Key × V)} {k : List Key} {v : V} (e : H a = some (.dT kvs)) (eb : H b = some (.tup (k.map kV))) (hl : kvs.length < sizeLine) :
    DPut H a (.ref b) v (upd H a (.dT (putK kvs k v))) := .inr ⟨kvs, k, b, e, rfl, eb, hl, rfl⟩


section
variable {X : Cx} {pins : List (Addr × Obj)} {σ : St} {H : Hp} {s : Shared} {a : Addr} {y v : V} {u r : Value} {o : Option V} {A : Around} {E : Value → Shared → Prop}

theorem Inv.big (I : Inv X pins σ H s) : sysModules < s.heap.objs.size := by
  have h : mainGlobals < s.heap.objs.size := (I.mod.glob.keeps I.bk).lt
  exact Nat.lt_trans (by decide) h

/-- d[y], there -/
theorem d_getItem {Q : Value → Shared → Prop} (hu : A.units + 1 < cLine) (I : Inv X pins σ H s) (g : DGet H a y (some v)) (ry : RelV y u) (h : ∀ w' s', Inv X pins σ H s' → RelV v w' → Q w' s') :
    wpAny (model X.prog X.w) A (getItem (.ref a) u) Q E s := by
  rcases g with ⟨kvs, k, e, ey, l⟩ | ⟨kvs, k, b, e, ey, eb, l⟩
  · subst ey
    obtain ⟨z, hd, vs, rel, dd⟩ := dk_rd I.hok e
    obtain ⟨w', hw, rw'⟩ := RelO.some_of (v := v) (o := valueAt vs k) (by rw [l]; exact rel.val k)
    exact wpAny_getItem_of (kV_is ry) dd.mapOf hw (h w' _ (I.tok _) rw')
  · subst ey
    cases (show u = Value.ref b from ry)
    obtain ⟨z, hd, xs, rel, dd⟩ := dt_rd I.hok e
    obtain ⟨w', hw, rw'⟩ := RelO.some_of (v := v) (o := (atKey xs k).map (·.2)) (by rw [l]; exact rel.val k)
    obtain ⟨p, hp, hp2⟩ := Option.map_eq_some_iff.mp hw
    refine wpAny_getItem_heap (tupleKind_room_in1 hu) (key_of I.hok eb) dd hp ?_
    rw [hp2]
    exact h w' _ (I.tok _) rw'
/-- y in d -/
theorem d_in {Q : Value → Shared → Prop} (hu : A.units + 1 < cLine) (I : Inv X pins σ H s) (g : DGet H a y o) (ry : RelV y u) (h : ∀ s', Inv X pins σ H s' → Q (.bool o.isSome) s') :
    wpAny (model X.prog X.w) A (compareOp .In u (.ref a)) Q E s := by
  rcases g with ⟨kvs, k, e, ey, l⟩ | ⟨kvs, k, b, e, ey, eb, l⟩
  · subst ey
    obtain ⟨z, hd, vs, rel, dd⟩ := dk_rd I.hok e
    refine wpAny_in_of (kV_is ry) hd dd.mapOf ?_
    rw [← (rel.val k).isSome_eq, ← l]
    exact h _ (I.tok _)
  · subst ey
    cases (show u = Value.ref b from ry)
    obtain ⟨z, hd, xs, rel, dd⟩ := dt_rd I.hok e
    refine wpAny_in_heap (tupleKind_room_in1 hu) (key_of I.hok eb) hd dd ?_
    have q := (rel.val k).isSome_eq
    rw [Option.isSome_map] at q
    rw [← q, ← l]
    exact h _ (I.tok _)
theorem d_notIn {Q : Value → Shared → Prop} (hu : A.units + 1 < cLine) (I : Inv X pins σ H s) (g : DGet H a y o) (ry : RelV y u) (h : ∀ s', Inv X pins σ H s' → Q (.bool (!o.isSome)) s') :
    wpAny (model X.prog X.w) A (compareOp .NotIn u (.ref a)) Q E s := by
  rcases g with ⟨kvs, k, e, ey, l⟩ | ⟨kvs, k, b, e, ey, eb, l⟩
  · subst ey
    obtain ⟨z, hd, vs, rel, dd⟩ := dk_rd I.hok e
    refine wpAny_notIn_of (kV_is ry) hd dd.mapOf ?_
    rw [← (rel.val k).isSome_eq, ← l]
    exact h _ (I.tok _)
  · subst ey
    cases (show u = Value.ref b from ry)
    obtain ⟨z, hd, xs, rel, dd⟩ := dt_rd I.hok e
    refine wpAny_notIn_heap (tupleKind_room_in1 hu) (key_of I.hok eb) hd dd ?_
    have q := (rel.val k).isSome_eq
    rw [Option.isSome_map] at q
    rw [← q, ← l]
    exact h _ (I.tok _)
/-- a dict's object is replaced -/
theorem d_write {h' : Heap} {t' : Nat} {ob : HO} (I : Inv X pins σ H s) (mu : Mut (H a)) (hs : Heap.SameBut a s.heap h') (he : ∃ q, h'.get? a = some q) (new : ObjOk X.prog X.w (upd H a ob) h' a ob) :
    Inv X pins σ (upd H a ob) { s with heap := h', toks := t' } :=
  I.write (x := a) (e := a) mu (.inl rfl) (fun b q hb z => (hs.2 b hb).trans z) he new
theorem dk_new {P : Program} {w : World} {H' : Hp} {h' : Heap} {kvs : List (Key × V)} {vs : List (Key × Value)} (z : kvs.length ≤ sizeLine) (hd : (a == sysModules) = false) (rel : KV kvs vs) (dd : h'.DictOf (mixKind P w) a vs) :
    ObjOk P w H' h' a (.dK kvs) := ⟨z, hd, vs, rel, dd⟩
/-- d[y] = v -/
theorem d_setItem {H' : Hp} {Q : Unit → Shared → Prop} (hu : A.units + 1 < cLine) (I : Inv X pins σ H s) (g : DPut H a y v H') (ry : RelV y u) (rv : RelV v r) (h : ∀ s', Inv X pins σ H' s' → Q () s') :
    wpAny (model X.prog X.w) A (setItem (.ref a) u r) Q E s := by
  rcases g with ⟨kvs, k, e, ey, l, eH⟩ | ⟨kvs, k, b, e, ey, eb, l, eH⟩
  · subst ey eH
    obtain ⟨z, hd, vs, rel, dd⟩ := dk_of I.hok e
    have hz : vs.length ≤ sizeLine := by rw [← rel.length]; exact z
    have hl : (putK kvs k v).length ≤ sizeLine := by have := length_putK kvs k v; omega
    refine wpAny_setItem_pairs (hsz := hz) (kV_is ry) dd fun h' dd' hs => h _ ?_
    have he : ∃ q, h'.get? a = some q := let ⟨q, _, _, hq, _⟩ := dd'; ⟨q, hq⟩
    exact d_write I (by rw [e]; exact True.intro) hs he (dk_new hl hd (rel.put k rv) dd')
  · subst ey eH
    cases (show u = Value.ref b from ry)
    obtain ⟨z, hd, xs, rel, dd⟩ := dt_of I.hok e
    have hz : xs.length ≤ sizeLine := by rw [← Paired.length rel]; exact z
    have hl : (putK kvs k v).length ≤ sizeLine := by have := length_putK kvs k v; omega
    refine wpAny_setItem_heap (hsz := hz) (tupleKind_room_in1 hu) (key_of I.hok eb) dd fun h' dd' hs => h _ ?_
    obtain ⟨q, es, ep, hq, h2, h3, h4, _, h5⟩ := dd'
    refine d_write I (by rw [e]; exact True.intro) hs ⟨q, hq⟩ ⟨hl, hd, _, (rel.put k eb rv).keeps fun c ys ec => ?_, q, es, ep, hq, h2, h3, h4, h5⟩
    rw [upd_ne (ne_of ec e (fun z => nomatch z))]
    exact ec
end

section
variable {X : Cx} {pins : List (Addr × Obj)} {σ : St} {H : Hp} {s : Shared} {a : Addr} {kvs : List (Key × V)} {k : Key} {u : Value} {A : Around} {E : Value → Shared → Prop}
/-- del d[k] -/
theorem d_delItem {Q : Unit → Shared → Prop} (I : Inv X pins σ H s) (e : H a = some (.dK kvs)) (ry : RelV (kV k) u) (l : (valV kvs k).isSome = true) (h : ∀ s', Inv X pins σ (upd H a (.dK (dropK kvs k))) s' → Q () s') :
    wpAny (model X.prog X.w) A (delItem (.ref a) u) Q E s := by
  obtain ⟨z, hd, vs, rel, dd⟩ := dk_of I.hok e
  refine wpAny_delItem_slot dd.typeIs (by decide) PySem.F.slot_dict_delitem
    (call_meetsIn PySem.F.slot_dict_delitem dd.typeIs PySem.F.entry_dict_delitem (PySem.F.args_dict_delitem_2 _ _) (meets_dict_delitem_pairs (mixKind X.prog X.w) a (kV_is ry)) ⟨vs, dd, by rw [← rel.length]; exact z, by rw [← (rel.val k).isSome_eq]; exact l, fun h' dd' hs => h _ ?_⟩)
  have he : ∃ q, h'.get? a = some q := let ⟨q, _, _, hq, _⟩ := dd'; ⟨q, hq⟩
  exact d_write I (by rw [e]; exact True.intro) hs he (dk_new (Nat.le_trans (dropK_le kvs k) z) hd (rel.drop k) dd')
/-- d.pop(k[, x]), there -/
theorem d_pop {v : V} {more : List Value} {Q : Value → Shared → Prop} (I : Inv X pins σ H s) (e : H a = some (.dK kvs)) (ry : RelV (kV k) u) (l : valV kvs k = some v) (hm : more = [] ∨ ∃ x, more = [x])
    (h : ∀ w' s', Inv X pins σ (upd H a (.dK (dropK kvs k))) s' → RelV v w' → Q w' s') : wpAny (model X.prog X.w) A (call (.builtin "dict.pop") (.ref a :: u :: more)) Q E s := by
  obtain ⟨z, hd, vs, rel, dd⟩ := dk_of I.hok e
  obtain ⟨w', hw, rw'⟩ := RelO.some_of (v := v) (o := valueAt vs k) (by rw [← l]; exact rel.val k)
  have hp : (keyPart u).isSome = true := by
    cases k with
    | inl i => obtain ⟨t, q⟩ := (show ∃ t, u = Value.int i t from ry); subst q; rfl
    | inr x => obtain ⟨t, q⟩ := (show ∃ t, u = Value.str x t from ry); subst q; rfl
  have ha : argsOk "dict.pop" ⟨.ref a :: u :: more, []⟩ := by
    rcases hm with q | ⟨x, q⟩
    · subst q; exact PySem.F.args_dict_pop_2 _ _
    · subst q; exact PySem.F.args_dict_pop_3 _ _ _
  refine call_meetsIn PySem.F.slot_dict_pop dd.typeIs PySem.F.entry_dict_pop ha (meets_dict_pop_there (mixKind X.prog X.w) a (kV_is ry) more hm hp)
    ⟨vs, w', dd, by rw [← rel.length]; exact z, hw, fun h' dd' hs => h w' _ ?_ rw'⟩
  have he : ∃ q, h'.get? a = some q := let ⟨q, _, _, hq, _⟩ := dd'; ⟨q, hq⟩
  exact d_write I (by rw [e]; exact True.intro) hs he (dk_new (Nat.le_trans (dropK_le kvs k) z) hd (rel.drop k) dd')
/-- d.pop(k, x), not there -/
theorem d_popD {r : Value} {Q : Value → Shared → Prop} (I : Inv X pins σ H s) (e : H a = some (.dK kvs)) (ry : RelV (kV k) u) (l : valV kvs k = none) (h : ∀ s', Inv X pins σ H s' → Q r s') :
    wpAny (model X.prog X.w) A (call (.builtin "dict.pop") [.ref a, u, r]) Q E s := by
  obtain ⟨z, hd, vs, rel, dd⟩ := dk_of I.hok e
  have hn : valueAt vs k = none := RelO.none_of (by rw [← l]; exact rel.val k)
  have hp : (keyPart u).isSome = true := by
    cases k with
    | inl i => obtain ⟨t, q⟩ := (show ∃ t, u = Value.int i t from ry); subst q; rfl
    | inr x => obtain ⟨t, q⟩ := (show ∃ t, u = Value.str x t from ry); subst q; rfl
  exact call_meetsIn PySem.F.slot_dict_pop dd.typeIs PySem.F.entry_dict_pop (PySem.F.args_dict_pop_3 _ _ _) (meets_dict_pop_default (mixKind X.prog X.w) a (kV_is ry) hd hp r) ⟨vs, dd, hn, h _ (I.tok _)⟩
/-- d.clear() -/
theorem d_clear {Q : Value → Shared → Prop} (I : Inv X pins σ H s) (e : H a = some (.dK kvs)) (h : ∀ s', Inv X pins σ (upd H a (.dK [])) s' → Q .none s') : wpAny (model X.prog X.w) A (call (.builtin "dict.clear") [.ref a]) Q E s := by
  obtain ⟨z, hd, vs, rel, dd⟩ := dk_of I.hok e
  refine call_meetsIn PySem.F.slot_dict_clear dd.typeIs PySem.F.entry_dict_clear (PySem.F.args_dict_clear_1 _) (meets_dict_clear (mixKind X.prog X.w) a) ⟨vs, dd, by rw [← rel.length]; exact z, fun h' dd' hs => h _ ?_⟩
  have he : ∃ q, h'.get? a = some q := let ⟨q, _, _, hq, _⟩ := dd'; ⟨q, hq⟩
  exact d_write (t' := s.toks) I (by rw [e]; exact True.intro) hs he (dk_new (Nat.zero_le _) hd .nil dd')
/-- len(d) -/
theorem d_len {Q : Value → Shared → Prop} (I : Inv X pins σ H s) (e : Rd H a (.dK kvs)) (h : ∀ t s', Inv X pins σ H s' → Q (.int kvs.length t) s') : wpAny (model X.prog X.w) A (call (.builtin "len") [.ref a]) Q E s := by
  obtain ⟨z, hd, vs, rel, dd⟩ := dk_rd I.hok e
  refine call_len_dict hd dd (by rw [← rel.length]; rw [sizeLine_eq] at z; omega) ?_
  rw [← rel.length]
  exact h _ _ (I.tok _)
/-- if d -/
theorem d_truth {Q : Bool → Shared → Prop} (I : Inv X pins σ H s) (e : Rd H a (.dK kvs)) (h : ∀ s', Inv X pins σ H s' → Q (!kvs.isEmpty) s') : wpAny (model X.prog X.w) A (truthy (.ref a)) Q E s := by
  obtain ⟨z, hd, vs, rel, dd⟩ := dk_rd I.hok e
  refine wpAny_truthy_dict hd dd (by rw [← rel.length]; rw [sizeLine_eq] at z; omega) ?_
  have q : kvs.isEmpty = vs.isEmpty := by cases rel <;> rfl
  rw [← q]
  exact h _ (I.tok _)
end


/-! ### readings and rules -/
/-- the element of a subscription, not a slice -/
def NoSl (i : Expr) : Prop := ∀ ov iv, subscripted i false ov iv = operate [ov, iv] (getItem ov iv)
theorem subD_of {prog : Program} {w : World} {A : Around} {E : Value → Shared → Prop} {s : Shared} {env : Env} {value slice : Expr} {pos : Pos} {T id : String} {Q : Value → Shared → Prop}
    (hl : typeLookup (.type T) "__getitem__" = pure (some (.builtin id))) (hs : NoSl slice)
    (h : wpAny (model prog w) A (eval value env) (fun o s₁ => wpAny (model prog w) A (eval slice env) (fun i s₂ => s₂.TypeIs o T ∧ wpAny (model prog w) A (getItem o i) Q E s₂) E s₁) E s) :
    wpAny (model prog w) A (eval (.Subscript value slice pos) env) Q E s := by
  refine Subscript_ (wpAny_mono h (fun o s₁ h₁ => wpAny_mono h₁ (fun i s₂ h₂ => ?_) fun _ _ x => x) fun _ _ x => x)
  obtain ⟨hT, h₂⟩ := h₂
  unfold subscriptTail
  refine wpAny_bind ?_
  rw [getitemInPython_of_ne hT.not_modules]
  refine wpAny_bind (wpAny_specialOf hT hl ?_)
  have fin : wpAny (model prog w) A (subscripted slice false o i) (fun r s₃ => wpAny (model prog w) A (letTemporaryGo value o r >>= fun _ => pure r) Q E s₃) E s₂ := by
    rw [hs o i]
    exact wpAny_operating (wpAny_mono h₂ (fun r s₃ h₃ => wpAny_bind (wpAny_letTemporaryGo (wpAny_pure h₃))) fun _ _ x => x)
  first
    | exact wpAny_pure (wpAny_bind fin)
    | exact wpAny_bind (wpAny_pure (wpAny_bind fin))
    | exact wpAny_bind fin

theorem dict_typeIs {X : Cx} {pins : List (Addr × Obj)} {σ : St} {H : Hp} {s : Shared} {a : Addr} {y : V} {o : Option V} (I : Inv X pins σ H s) (g : DGet H a y o) : s.TypeIs (.ref a) "dict" := by
  rcases g with ⟨kvs, k, e, _, _⟩ | ⟨kvs, k, b, e, _, _, _⟩
  · obtain ⟨_, _, vs, _, dd⟩ := dk_rd I.hok e
    exact dd.typeIs
  · obtain ⟨_, _, xs, _, dd⟩ := dt_rd I.hok e
    exact dd.typeIs
theorem dict_noDict {X : Cx} {pins : List (Addr × Obj)} {σ : St} {H : Hp} {s : Shared} {a : Addr} {y : V} {o : Option V} (I : Inv X pins σ H s) (g : DGet H a y o) :
    ∀ b, Value.ref a = .ref b → ∃ ob, s.heap.get? b = some ob ∧ ob.dict = none := fun b q => by
  cases q
  rcases g with ⟨kvs, k, e, _, _⟩ | ⟨kvs, k, b, e, _, _, _⟩
  · obtain ⟨_, _, vs, _, ob, _, _, h1, h2, _⟩ := dk_rd I.hok e
    exact ⟨ob, h1, h2.2.1⟩
  · obtain ⟨_, _, xs, _, ob, _, _, h1, h2, _⟩ := dt_rd I.hok e
    exact ⟨ob, h1, h2.2.1⟩

/-- d[y] -/
def tDGet (td ty : TE) : TE := fun σ H Q => td σ H fun x H1 => ty σ H1 fun y H2 => ∃ a v, x = .ref a ∧ DGet H2 a y (some v) ∧ Q v H2
/-- y in d, y not in d -/
def tDIn (ty td : TE) : TE := fun σ H Q => ty σ H fun y H1 => td σ H1 fun x H2 => ∃ a o, x = .ref a ∧ DGet H2 a y o ∧ Q (.bl o.isSome) H2
def tDNotIn (ty td : TE) : TE := fun σ H Q => ty σ H fun y H1 => td σ H1 fun x H2 => ∃ a o, x = .ref a ∧ DGet H2 a y o ∧ Q (.bl (!o.isSome)) H2
/-- d[y] = v -/
def sDPut (td ty tv : TE) : TS := fun D σ H => tv σ H fun v H1 => td σ H1 fun x H2 => ty σ H2 fun y H3 => ∃ a H4, x = .ref a ∧ DPut H3 a y v H4 ∧ D.nx σ H4
/-- d[y] op= v -/
def sDAug (td ty tv : TE) (rd : V → V → Hp → VK → Prop) : TS := fun D σ H => td σ H fun x H1 => ty σ H1 fun y H2 => ∃ a v, x = .ref a ∧ DGet H2 a y (some v) ∧
  tv σ H2 fun y2 H3 => rd v y2 H3 fun z H4 => ∃ H5, DPut H4 a y z H5 ∧ D.nx σ H5
/-- del d[y] -/
def sDDel (td ty : TE) : TS := fun D σ H => td σ H fun x H1 => ty σ H1 fun y H2 => ∃ a kvs k, x = .ref a ∧ H2 a = some (.dK kvs) ∧ y = kV k ∧ (valV kvs k).isSome = true ∧ D.nx σ (upd H2 a (.dK (dropK kvs k)))

section
variable {X : Cx} {o i e value : Expr} {pos pos' tpos : Pos} {td ty tv : TE}
theorem pe_dget (hu : X.A.units + 1 < cLine) (ho : PE X o td) (hi : PE X i ty) (hs : NoSl i) : PE X (.Subscript o i pos) (tDGet td ty) := by
  intro pins s σ H Q I h
  refine subD_of PySem.F.slot_dict_getitem.lookup hs (thn (ho pins s σ H _ I h) fun u s1 ⟨x, H1, I1, rx, q1⟩ => thn (hi pins s1 σ H1 _ I1 q1) fun iv s2 ⟨y, H2, I2, ry, a, v, ex, g, q2⟩ => ?_)
  subst ex
  obtain rfl : u = Value.ref a := rx
  exact ⟨dict_typeIs I2 g, d_getItem hu I2 g ry fun w' s3 I3 rw' => ⟨v, H2, I3, rw', q2⟩⟩
theorem pc_din (hu : X.A.units + 1 < cLine) (hi : PE X i ty) (ho : PE X o td) : PC X .In i o (tDIn ty td) := by
  intro pins s σ H Q I h
  refine thn (hi pins s σ H _ I h) fun iv s1 ⟨y, H1, I1, ry, q1⟩ => thn (ho pins s1 σ H1 _ I1 q1) fun u s2 ⟨x, H2, I2, rx, a, ov, ex, g, q2⟩ => ?_
  subst ex
  obtain rfl : u = Value.ref a := rx
  exact d_in hu I2 g ry fun s3 I3 => ⟨.bl ov.isSome, H2, I3, rfl, q2⟩
theorem pc_dnotin (hu : X.A.units + 1 < cLine) (hi : PE X i ty) (ho : PE X o td) : PC X .NotIn i o (tDNotIn ty td) := by
  intro pins s σ H Q I h
  refine thn (hi pins s σ H _ I h) fun iv s1 ⟨y, H1, I1, ry, q1⟩ => thn (ho pins s1 σ H1 _ I1 q1) fun u s2 ⟨x, H2, I2, rx, a, ov, ex, g, q2⟩ => ?_
  subst ex
  obtain rfl : u = Value.ref a := rx
  exact d_notIn hu I2 g ry fun s3 I3 => ⟨.bl (!ov.isSome), H2, I3, rfl, q2⟩
theorem ps_dput (hu : X.A.units + 1 < cLine) (ho : PE X o td) (hi : PE X i ty) (hv : PE X value tv) (hs : swapsWith value (some (.Subscript o i pos')) pos.line X.env = pure false) :
    PS X (.Assign [.Subscript o i pos'] value pos) (sDPut td ty tv) := by
  intro pins s σ H D I h
  refine wpAny_Assign_Subscript (thn (hv pins s σ H _ I h) fun r s1 ⟨v, H1, I1, rv, q1⟩ => thn (ho pins s1 σ H1 _ I1 q1) fun u s2 ⟨x, H2, I2, rx, q2⟩ => thn (hi pins s2 σ H2 _ I2 q2) fun iv s3 ⟨y, H3, I3, ry, a, H4, ex, g, q3⟩ => ?_) hs
  subst ex
  obtain rfl : u = Value.ref a := rx
  exact d_setItem hu I3 g ry rv fun s4 I4 => ⟨σ, H4, I4, q3⟩
theorem ps_daug {op : Operator} {rd : V → V → Hp → VK → Prop} (hu : X.A.units + 1 < cLine) (ho : PE X o td) (hi : PE X i ty) (hv : PE X value tv) (hop : InOp X op rd)
    (ha : ∀ ov iv new, augStore i ov iv new = (do holding [new, ov, iv] (setItem ov iv new); release [new, ov, iv] []; pure .next)) : PS X (.AugAssign (.Subscript o i tpos) op value pos) (sDAug td ty tv rd) := by
  intro pins s σ H D I h
  refine wpAny_AugAssign_SubscriptAny (thn (ho pins s σ H _ I h) fun u s1 ⟨x, H1, I1, rx, q1⟩ => thn (hi pins s1 σ H1 _ I1 q1) fun iv s2 ⟨y, H2, I2, ry, a, v, ex, g, q2⟩ => ?_) ha
  subst ex
  obtain rfl : u = Value.ref a := rx
  refine d_getItem hu I2 g ry fun w' s3 I3 rw' => thn (hv pins s3 σ H2 _ I3 q2) fun w2 s4 ⟨y2, H3, I4, ry2, q3⟩ => thn (hop pins s4 σ H3 v y2 w' w2 _ I4 rw' ry2 q3) fun w3 s5 ⟨z, H4, I5, rz, H5, g5, q4⟩ => ?_
  exact d_setItem hu I5 g5 ry rz fun s6 I6 => ⟨σ, H5, I6, q4⟩
theorem ps_ddel (ho : PE X o td) (hi : PE X i ty) : PS X (.Delete [.Subscript o i tpos] pos) (sDDel td ty) := by
  intro pins s σ H D I h
  refine wpAny_Delete (wpAny_deleteEach_cons (wpAny_delete_Subscript (thn (ho pins s σ H _ I h) fun u s1 ⟨x, H1, I1, rx, q1⟩ => thn (hi pins s1 σ H1 _ I1 q1) fun iv s2 ⟨y, H2, I2, ry, a, kvs, k, ex, e, ey, l, q2⟩ => ?_)))
  subst ex ey
  obtain rfl : u = Value.ref a := rx
  exact d_delItem I2 e ry l fun s3 I3 => wpAny_deleteEach_nil ⟨σ, _, I3, q2⟩
end


/-! ### displays -/
theorem dk_empty {P : Program} {w : World} {H : Hp} (h : Heap) (hb : sysModules < h.objs.size) : ObjOk P w H (h.push { cls := .type "dict", data := .dict #[] }) h.objs.size (.dK []) :=
  ⟨Nat.zero_le _, beq_eq_false_iff_ne.mpr (Ne.symm (Nat.ne_of_lt hb)), [], .nil, Heap.DictOf.new h⟩
theorem dt_empty {P : Program} {w : World} {H : Hp} (h : Heap) (hb : sysModules < h.objs.size) : ObjOk P w H (h.push { cls := .type "dict", data := .dict #[] }) h.objs.size (.dT []) :=
  ⟨Nat.zero_le _, beq_eq_false_iff_ne.mpr (Ne.symm (Nat.ne_of_lt hb)), [], .nil, _, #[], 0, Heap.get?_push_size _ rfl, ⟨rfl, rfl, rfl⟩, rfl, rfl, List.nodup_nil⟩
/-- {}, to be a dict of the kind that is wanted -/
def tDNewK : TE := fun _ H Q => ∀ p, H p = none → Q (.ref p) (upd H p (.dK []))
def tDNewT : TE := fun _ H Q => ∀ p, H p = none → Q (.ref p) (upd H p (.dT []))
section
variable {X : Cx} {pos : Pos}
theorem pe_dnewK : PE X (.Dict [] [] pos) tDNewK := fun pins s σ H Q I h =>
  wpAny_Dict_empty ⟨.ref s.heap.objs.size, _, I.laid (a := s.heap.objs.size) (o := .dK []) (t' := s.toks) (fun _ _ q => Heap.get?_push_of_some _ q) (Nat.le_refl _) (dk_empty s.heap I.big), rfl, h _ (I.hok.fresh (Nat.le_refl _))⟩
theorem pe_dnewT : PE X (.Dict [] [] pos) tDNewT := fun pins s σ H Q I h =>
  wpAny_Dict_empty ⟨.ref s.heap.objs.size, _, I.laid (a := s.heap.objs.size) (o := .dT []) (t' := s.toks) (fun _ _ q => Heap.get?_push_of_some _ q) (Nat.le_refl _) (dt_empty s.heap I.big), rfl, h _ (I.hok.fresh (Nat.le_refl _))⟩
end

/-- the pairs of a display, from the left -/
def tPairs : List (TE × TE) → St → Hp → (List (V × V) → Hp → Prop) → Prop
  | [], _, H, Q => Q [] H
  | (tk, tv) :: r, σ, H, Q => tk σ H fun x H1 => tv σ H1 fun y H2 => tPairs r σ H2 fun ps H3 => Q ((x, y) :: ps) H3
abbrev VV : List (V × V) → List (Value × Value) → Prop := Paired fun p q => RelV p.1 q.1 ∧ RelV p.2 q.2
def PPs (X : Cx) (pos : Pos) (keys : List (Option Expr)) (values : List Expr) (trs : List (TE × TE)) : Prop :=
  ∀ (pins : List (Addr × Obj)) (s : Shared) (σ : St) (H : Hp) (Q : List (V × V) → Hp → Prop), Inv X pins σ H s → tPairs trs σ H Q →
    wpAny (model X.prog X.w) X.A (evalPairs (pairTrees keys values X.env pos)) (fun vs s' => ∃ ps H', Inv X pins σ H' s' ∧ VV ps vs ∧ Q ps H') X.xe s
theorem pps_nil {X : Cx} {pos : Pos} : PPs X pos [] [] [] := fun pins s σ H Q I h => pairTrees_nil_walk ⟨[], H, I, .nil, h⟩
theorem pps_cons {X : Cx} {pos : Pos} {k v : Expr} {ks : List (Option Expr)} {vs : List Expr} {tk tv : TE} {trs : List (TE × TE)} (hk : PE X k tk) (hv : PE X v tv) (hr : PPs X pos ks vs trs) :
    PPs X pos (some k :: ks) (v :: vs) ((tk, tv) :: trs) := fun pins s σ H Q I h =>
  pairTrees_cons_walk (thn (hk pins s σ H _ I h) fun u s1 ⟨x, H1, I1, rx, q1⟩ => thn (hv pins s1 σ H1 _ I1 q1) fun w2 s2 ⟨y, H2, I2, ry, q2⟩ =>
    thn (hr pins s2 σ H2 _ I2 q2) fun ws s3 ⟨ps, H3, I3, rel, q3⟩ => ⟨(x, y) :: ps, H3, I3, .cons ⟨rx, ry⟩ rel, q3⟩)

def mergeK (kvs more : List (Key × V)) : List (Key × V) := more.foldl (fun acc kv => putK acc kv.1 kv.2) kvs
theorem KV.merge : ∀ {more : List (Key × V)} {rs : List (Key × Value)} {kvs : List (Key × V)} {vs : List (Key × Value)}, KV more rs → KV kvs vs → KV (mergeK kvs more) (merged vs rs) := by
  intro more rs kvs vs r
  unfold KV at r
  induction r generalizing kvs vs with
  | nil => intro q; exact q
  | @cons p q ps qs h t ih =>
    intro r0
    have e : KV (putK kvs p.1 p.2) (stored vs q.1 q.2) := by
      have := r0.put p.1 h.2
      rw [← h.1]; exact this
    exact ih e
theorem length_mergeK : ∀ (more kvs : List (Key × V)), (mergeK kvs more).length ≤ kvs.length + more.length
  | [], kvs => by show kvs.length ≤ kvs.length + 0; omega
  | p :: r, kvs => by
    have h1 := length_mergeK r (putK kvs p.1 p.2)
    have h2 := length_putK kvs p.1 p.2
    show (mergeK (putK kvs p.1 p.2) r).length ≤ _
    rw [List.length_cons]; omega
theorem carries_of {P : Program} {w : World} : ∀ {kvs : List (Key × V)} {ws : List (Value × Value)}, VV (kvs.map fun kv => (kV kv.1, kv.2)) ws → ∃ rs, Carries (mixKind P w) ws rs ∧ KV kvs rs
  | [], _, r => by rw [List.map_nil] at r; cases r; exact ⟨[], True.intro, .nil⟩
  | p :: kvs, _, r => by
    rw [List.map_cons] at r
    cases r with
    | @cons a b as bs h t =>
      obtain ⟨rs, c, q⟩ := carries_of (P := P) (w := w) t
      obtain ⟨b1, b2⟩ := b
      exact ⟨(p.1, b2) :: rs, ⟨kV_is h.1, rfl, c⟩, .cons ⟨rfl, h.2⟩ q⟩
/-- {k: v, ..} with keys ints and texts; the new dict stands empty while the pairs are made -/
def tDisp (trs : List (TE × TE)) : TE := fun σ H Q => ∀ p, H p = none → tPairs trs σ (upd H p (.dK [])) fun ps H2 => H2 p = some (.dK []) ∧ ∃ kvs : List (Key × V), ps = kvs.map (fun kv => (kV kv.1, kv.2)) ∧ kvs.length ≤ 15 ∧ Q (.ref p) (upd H2 p (.dK (mergeK [] kvs)))
theorem pe_disp {X : Cx} {pos : Pos} {keys : List (Option Expr)} {values : List Expr} {trs : List (TE × TE)} (h : PPs X pos keys values trs) (hall : keys.all (·.isSome) = true) (hl : keys.length = values.length) (h0 : keys ≠ [])
    (h15 : keys.length ≤ 15) : PE X (.Dict keys values pos) (tDisp trs) := by
  intro pins s σ H Q I q
  have hn := I.hok.fresh (Nat.le_refl s.heap.objs.size)
  have I1 := I.laid (a := s.heap.objs.size) (o := .dK []) (h' := s.heap.push { cls := .type "dict", data := .dict #[] }) (t' := s.toks) (fun _ _ q => Heap.get?_push_of_some _ q) (Nat.le_refl _) (dk_empty s.heap I.big)
  refine wpAny_Dict_walk (knd := mixKind X.prog X.w) hall hl h0 h15 (thn (h pins _ σ _ _ I1 (q _ hn)) fun ws s2 ⟨ps, H2, I2, rel, e, kvs, ep, lk, q2⟩ => ?_)
  subst ep
  obtain ⟨rs, c, rk⟩ := carries_of (P := X.prog) (w := X.w) rel
  obtain ⟨z, hd, vs0, r0, dd⟩ := dk_of I2.hok e
  cases r0
  refine ⟨rs, c, dd, fun h' dd' hs => ⟨.ref s.heap.objs.size, _, ?_, rfl, q2⟩⟩
  have hz : (mergeK [] kvs).length ≤ sizeLine := by
    have h1 := length_mergeK kvs []
    rw [List.length_nil] at h1
    rw [sizeLine_eq]; omega
  have he : ∃ q, h'.get? s.heap.objs.size = some q := let ⟨q, _, _, hq, _⟩ := dd'; ⟨q, hq⟩
  exact d_write I2 (by rw [e]; exact True.intro) hs he (dk_new hz hd (rk.merge .nil) dd')


/-! ### methods -/
/-- a method call o.m(e) of a built-in, with one argument: what must be seen of the text -/
structure M1 (X : Cx) (o : Expr) (m : Str) (apos : Pos) (e : Expr) (cpos : Pos) : Prop where
  base : attributeBase o m X.env (eval o X.env) = eval o X.env
  few : ((backTo cpos (starEach [e] X.env)).all (fun x => !x.1) && (backToKw cpos (keywordEach [] X.env)).all (fun x => x.1.isSome)
    && decide (([e] : List Expr).length + ([] : List Keyword).length + (if ([] : List Keyword).isEmpty then 0 else 1) < 30)) = true
  line : (apos.endLine == cpos.line) = true
  trees : backTo cpos (starEach [e] X.env) = [(false, eval e X.env)]
structure M2 (X : Cx) (o : Expr) (m : Str) (apos : Pos) (e f : Expr) (cpos : Pos) : Prop where
  base : attributeBase o m X.env (eval o X.env) = eval o X.env
  few : ((backTo cpos (starEach [e, f] X.env)).all (fun x => !x.1) && (backToKw cpos (keywordEach [] X.env)).all (fun x => x.1.isSome)
    && decide (([e, f] : List Expr).length + ([] : List Keyword).length + (if ([] : List Keyword).isEmpty then 0 else 1) < 30)) = true
  line : (apos.endLine == cpos.line) = true
  trees : backTo cpos (starEach [e, f] X.env) = [(false, eval e X.env), (false, eval f X.env)]

/-- a is a dict, whatever its keys -/
def IsD (H : Hp) (a : Addr) : Prop := (∃ kvs, Rd H a (.dK kvs)) ∨ ∃ kvs, Rd H a (.dT kvs)
theorem isD_at {X : Cx} {pins : List (Addr × Obj)} {σ : St} {H : Hp} {s : Shared} {a : Addr} (I : Inv X pins σ H s) (d : IsD H a) :
    s.TypeIs (.ref a) "dict" ∧ (∀ b, Value.ref a = .ref b → ∃ ob, s.heap.get? b = some ob ∧ ob.dict = none) ∧ (a == sysModules) = false := by
  rcases d with ⟨kvs, e⟩ | ⟨kvs, e⟩
  · obtain ⟨_, hd, vs, _, dd⟩ := dk_rd I.hok e
    refine ⟨dd.typeIs, fun b q => ?_, hd⟩
    cases q
    obtain ⟨ob, _, _, h1, h2, _⟩ := dd
    exact ⟨ob, h1, h2.2.1⟩
  · obtain ⟨_, hd, xs, _, dd⟩ := dt_rd I.hok e
    refine ⟨dd.typeIs, fun b q => ?_, hd⟩
    cases q
    obtain ⟨ob, _, _, h1, h2, _⟩ := dd
    exact ⟨ob, h1, h2.2.1⟩

section
variable {X : Cx} {pins : List (Addr × Obj)} {σ : St} {H : Hp} {s : Shared} {a : Addr} {y d : V} {u r : Value} {o : Option V} {A : Around} {E : Value → Shared → Prop}
/-- d.get(y) -/
theorem d_get1 {Q : Value → Shared → Prop} (hu : A.units + 1 < cLine) (I : Inv X pins σ H s) (g : DGet H a y o) (ry : RelV y u) (h : ∀ w' s', Inv X pins σ H s' → RelV (o.getD .non) w' → Q w' s') :
    wpAny (model X.prog X.w) A (call (.builtin "dict.get") [.ref a, u]) Q E s := by
  rcases g with ⟨kvs, k, e, ey, l⟩ | ⟨kvs, k, b, e, ey, eb, l⟩
  · subst ey
    obtain ⟨z, hd, vs, rel, dd⟩ := dk_rd I.hok e
    refine call_meetsIn PySem.F.slot_dict_get dd.typeIs PySem.F.entry_dict_get (PySem.F.args_dict_get_2 _ _) (meets_dict_get (mixKind X.prog X.w) a (kV_is ry) hd) ⟨_, dd.mapOf, h _ _ (I.tok _) ?_⟩
    rw [l]
    exact (rel.val k).getD rfl
  · subst ey
    cases (show u = Value.ref b from ry)
    obtain ⟨z, hd, xs, rel, dd⟩ := dt_rd I.hok e
    refine call_meetsIn PySem.F.slot_dict_get dd.typeIs PySem.F.entry_dict_get (PySem.F.args_dict_get_2 _ _) (meetsH_dict_get (tupleKind (mixKind X.prog X.w)) a b hd) ⟨tupleKind_room_in1 hu, k, xs, key_of I.hok eb, dd, h _ _ (I.tok _) ?_⟩
    rw [l]
    exact (rel.val k).getD rfl
/-- d.get(y, x) -/
theorem d_get2 {Q : Value → Shared → Prop} (hu : A.units + 1 < cLine) (I : Inv X pins σ H s) (g : DGet H a y o) (ry : RelV y u) (rd : RelV d r) (h : ∀ w' s', Inv X pins σ H s' → RelV (o.getD d) w' → Q w' s') :
    wpAny (model X.prog X.w) A (call (.builtin "dict.get") [.ref a, u, r]) Q E s := by
  rcases g with ⟨kvs, k, e, ey, l⟩ | ⟨kvs, k, b, e, ey, eb, l⟩
  · subst ey
    obtain ⟨z, hd, vs, rel, dd⟩ := dk_rd I.hok e
    refine call_meetsIn PySem.F.slot_dict_get dd.typeIs PySem.F.entry_dict_get (PySem.F.args_dict_get_3 _ _ _) (meets_dict_get_default (mixKind X.prog X.w) a (kV_is ry) hd r) ⟨_, dd.mapOf, h _ _ (I.tok _) ?_⟩
    rw [l]
    exact (rel.val k).getD rd
  · subst ey
    cases (show u = Value.ref b from ry)
    obtain ⟨z, hd, xs, rel, dd⟩ := dt_rd I.hok e
    refine call_meetsIn PySem.F.slot_dict_get dd.typeIs PySem.F.entry_dict_get (PySem.F.args_dict_get_3 _ _ _) (meetsH_dict_get_default (tupleKind (mixKind X.prog X.w)) a b hd r) ⟨tupleKind_room_in1 hu, k, xs, key_of I.hok eb, dd, h _ _ (I.tok _) ?_⟩
    rw [l]
    exact (rel.val k).getD rd
end

def tDGet1 (td ty : TE) : TE := fun σ H Q => td σ H fun x H1 => ∃ a, x = .ref a ∧ IsD H1 a ∧ ty σ H1 fun y H2 => ∃ o, DGet H2 a y o ∧ Q (o.getD .non) H2
def tDGet2 (td ty tx : TE) : TE := fun σ H Q => td σ H fun x H1 => ∃ a, x = .ref a ∧ IsD H1 a ∧ ty σ H1 fun y H2 => tx σ H2 fun z H3 => ∃ o, DGet H3 a y o ∧ Q (o.getD z) H3
/-- d.pop(k): there; d.pop(k, x): there or not -/
def tDPop1 (td ty : TE) : TE := fun σ H Q => td σ H fun x H1 => ∃ a, x = .ref a ∧ IsD H1 a ∧ ty σ H1 fun y H2 => ∃ kvs k v, H2 a = some (.dK kvs) ∧ y = kV k ∧ valV kvs k = some v ∧ Q v (upd H2 a (.dK (dropK kvs k)))
def tDPop2 (td ty tx : TE) : TE := fun σ H Q => td σ H fun x H1 => ∃ a, x = .ref a ∧ IsD H1 a ∧ ty σ H1 fun y H2 => tx σ H2 fun z H3 => ∃ kvs k, H3 a = some (.dK kvs) ∧ y = kV k ∧
  (∀ v, valV kvs k = some v → Q v (upd H3 a (.dK (dropK kvs k)))) ∧ (valV kvs k = none → Q z H3)
section
variable {X : Cx} {o e f : Expr} {apos cpos : Pos} {td ty tx : TE}
theorem pe_dget1 (hu : X.A.units + 1 < cLine) (ho : PE X o td) (he : PE X e ty) (m : M1 X o "get" apos e cpos) : PE X (.Call (.Attribute o "get" apos) [e] [] cpos) (tDGet1 td ty) := by
  intro pins s σ H Q I h
  refine wpAny_Call_method m.base m.few m.line PySem.F.plainAttrs_dict PySem.F.slot_dict_get PySem.F.type_dict_get (thn (ho pins s σ H _ I h) fun u s1 ⟨x, H1, I1, rx, a, ex, d, q1⟩ => ?_)
  subst ex
  obtain rfl : u = Value.ref a := rx
  obtain ⟨t1, t2, _⟩ := isD_at I1 d
  refine ⟨t1, t2, ?_⟩
  rw [m.trees]
  refine Calls.callWith_builtin rfl (Calls.evalArgs_plain (Calls.spliced_cons (thn (he pins s1 σ H1 _ I1 q1) fun iv s2 ⟨y, H2, I2, ry, ov, g, q2⟩ => Calls.spliced_nil ?_)))
  exact d_get1 hu I2 g ry fun w' s3 I3 rw' => ⟨_, H2, I3, rw', q2⟩
theorem pe_dget2 (hu : X.A.units + 1 < cLine) (ho : PE X o td) (he : PE X e ty) (hf : PE X f tx) (m : M2 X o "get" apos e f cpos) : PE X (.Call (.Attribute o "get" apos) [e, f] [] cpos) (tDGet2 td ty tx) := by
  intro pins s σ H Q I h
  refine wpAny_Call_method m.base m.few m.line PySem.F.plainAttrs_dict PySem.F.slot_dict_get PySem.F.type_dict_get (thn (ho pins s σ H _ I h) fun u s1 ⟨x, H1, I1, rx, a, ex, d, q1⟩ => ?_)
  subst ex
  obtain rfl : u = Value.ref a := rx
  obtain ⟨t1, t2, _⟩ := isD_at I1 d
  refine ⟨t1, t2, ?_⟩
  rw [m.trees]
  refine Calls.callWith_builtin rfl (Calls.evalArgs_plain (Calls.spliced_cons (thn (he pins s1 σ H1 _ I1 q1) fun iv s2 ⟨y, H2, I2, ry, q2⟩ =>
    Calls.spliced_cons (thn (hf pins s2 σ H2 _ I2 q2) fun fv s3 ⟨z, H3, I3, rz, ov, g, q3⟩ => Calls.spliced_nil ?_))))
  exact d_get2 hu I3 g ry rz fun w' s4 I4 rw' => ⟨_, H3, I4, rw', q3⟩
theorem pe_dpop1 (ho : PE X o td) (he : PE X e ty) (m : M1 X o "pop" apos e cpos) : PE X (.Call (.Attribute o "pop" apos) [e] [] cpos) (tDPop1 td ty) := by
  intro pins s σ H Q I h
  refine wpAny_Call_method m.base m.few m.line PySem.F.plainAttrs_dict PySem.F.slot_dict_pop PySem.F.type_dict_pop (thn (ho pins s σ H _ I h) fun u s1 ⟨x, H1, I1, rx, a, ex, d, q1⟩ => ?_)
  subst ex
  obtain rfl : u = Value.ref a := rx
  obtain ⟨t1, t2, _⟩ := isD_at I1 d
  refine ⟨t1, t2, ?_⟩
  rw [m.trees]
  refine Calls.callWith_builtin rfl (Calls.evalArgs_plain (Calls.spliced_cons (thn (he pins s1 σ H1 _ I1 q1) fun iv s2 ⟨y, H2, I2, ry, kvs, k, v, ea, ey, l, q2⟩ => Calls.spliced_nil ?_)))
  subst ey
  exact d_pop I2 ea ry l (.inl rfl) fun w' s3 I3 rw' => ⟨v, _, I3, rw', q2⟩
theorem pe_dpop2 (ho : PE X o td) (he : PE X e ty) (hf : PE X f tx) (m : M2 X o "pop" apos e f cpos) : PE X (.Call (.Attribute o "pop" apos) [e, f] [] cpos) (tDPop2 td ty tx) := by
  intro pins s σ H Q I h
  refine wpAny_Call_method m.base m.few m.line PySem.F.plainAttrs_dict PySem.F.slot_dict_pop PySem.F.type_dict_pop (thn (ho pins s σ H _ I h) fun u s1 ⟨x, H1, I1, rx, a, ex, d, q1⟩ => ?_)
  subst ex
  obtain rfl : u = Value.ref a := rx
  obtain ⟨t1, t2, _⟩ := isD_at I1 d
  refine ⟨t1, t2, ?_⟩
  rw [m.trees]
  refine Calls.callWith_builtin rfl (Calls.evalArgs_plain (Calls.spliced_cons (thn (he pins s1 σ H1 _ I1 q1) fun iv s2 ⟨y, H2, I2, ry, q2⟩ =>
    Calls.spliced_cons (thn (hf pins s2 σ H2 _ I2 q2) fun fv s3 ⟨z, H3, I3, rz, kvs, k, ea, ey, q3, q4⟩ => Calls.spliced_nil ?_))))
  subst ey
  cases l : valV kvs k with
  | some v => exact d_pop I3 ea ry l (.inr ⟨fv, rfl⟩) fun w' s4 I4 rw' => ⟨v, _, I4, rw', q3 v l⟩
  | none => exact d_popD I3 ea ry l fun s4 I4 => ⟨z, H3, I4, rz, q4 l⟩
end

/-! ### dict(d): a copy -/
section
variable {X : Cx} {pins : List (Addr × Obj)} {σ : St} {H : Hp} {s : Shared} {a : Addr} {kvs : List (Key × V)} {A : Around} {E : Value → Shared → Prop}
theorem d_copyOf {Q : Value → Shared → Prop} (I : Inv X pins σ H s) (e : Rd H a (.dK kvs)) (h : ∀ p s', H p = none → Inv X pins σ (upd H p (.dK kvs)) s' → Q (.ref p) s') : wpAny (model X.prog X.w) A (call (.type "dict") [.ref a]) Q E s := by
  obtain ⟨z, hd, vs, rel, dd⟩ := dk_rd I.hok e
  refine kt_call_dict hd dd (by rw [← rel.length]; exact z) fun h' dd' hs => ?_
  refine h _ _ (I.hok.fresh (Nat.le_refl _)) (I.laid (a := s.heap.objs.size) (o := .dK kvs) (t' := s.toks) (fun b q hq => ?_) (Nat.le_refl _) (dk_new z (beq_eq_false_iff_ne.mpr (Ne.symm (Nat.ne_of_lt I.big))) rel dd'))
  exact (hs.2 b (Nat.ne_of_lt (Heap.lt_size hq))).trans (Heap.get?_push_of_some _ hq)
end


section
variable {X : Cx} {pins : List (Addr × Obj)} {σ : St} {H : Hp} {s : Shared} {a : Addr} {y : V} {u : Value} {A : Around} {E : Value → Shared → Prop}
/-- d[y], not there: a KeyError -/
theorem d_missing {Q : Value → Shared → Prop} (hu : A.units + 1 < cLine) (hh : A.handled = none) (I : Inv X pins σ H s) (g : DGet H a y none) (ry : RelV y u)
    (h : ∀ h' e t', Heap.NewExc s.heap h' e "KeyError" → E (.ref e) { s with heap := h', toks := t' }) : wpAny (model X.prog X.w) A (getItem (.ref a) u) Q E s := by
  rcases g with ⟨kvs, k, e, ey, l⟩ | ⟨kvs, k, b, e, ey, eb, l⟩
  · subst ey
    obtain ⟨z, hd, vs, rel, dd⟩ := dk_rd I.hok e
    have hn : valueAt vs k = none := RelO.none_of (by rw [l]; exact rel.val k)
    exact wpAny_getItem_missing_of (kV_is ry) hd hh dd.mapOf hn fun h' ex ne => h h' ex _ ne
  · subst ey
    cases (show u = Value.ref b from ry)
    obtain ⟨z, hd, xs, rel, dd⟩ := dt_rd I.hok e
    have hn : (atKey xs k).map (·.2) = none := RelO.none_of (by rw [l]; exact rel.val k)
    exact wpAny_getItem_missing_heap (tupleKind_room_in1 hu) (key_of I.hok eb) hd hh dd (Option.map_eq_none_iff.mp hn) fun h' ex ne => h h' ex _ ne
end
end L2

namespace L2
open PySem PySem.Spec PyProof.Rows
section
variable {X : Cx}
/-- len of a dict -/
theorem call_lenD : CallR X (.builtin "len") (fun xs H Q => ∃ a kvs, xs = [V.ref a] ∧ H a = some (.dK kvs) ∧ Q (.int kvs.length) H) := by
  intro pins s σ H xs us Q I r h
  obtain ⟨a, kvs, rfl, ha, q⟩ := h
  obtain ⟨u, rfl, ru⟩ := vals1 r
  cases ru
  exact d_len I (.inl ha) fun t s' I' => ⟨.int kvs.length, H, I', ⟨t, rfl⟩, q⟩
end
end L2
namespace L2
open PySem PySem.Spec PyProof.Rows
/-! ### a dict's pairs: keys that differ -/
section
variable {κ : Type} [DecidableEq κ]
theorem valV_not {kvs : List (κ × V)} {k : κ} (h : valV kvs k = none) : ¬ k ∈ kvs.map (·.1) := by
  intro m
  obtain ⟨p, hp, e⟩ := List.mem_map.mp m
  have q : (kvs.any fun kv => decide (kv.1 = k)) = true := List.any_eq_true.mpr ⟨p, hp, decide_eq_true e⟩
  rw [valV_any, h] at q
  exact absurd q (by simp)
theorem valV_in {kvs : List (κ × V)} {k : κ} {v : V} (h : valV kvs k = some v) : k ∈ kvs.map (·.1) := by
  have q : (kvs.any fun kv => decide (kv.1 = k)) = true := by
    rw [valV_any, h]
    all_goals rfl
  obtain ⟨p, hp, e⟩ := List.any_eq_true.mp q
  exact List.mem_map.mpr ⟨p, hp, of_decide_eq_true e⟩
theorem nd_snoc : ∀ {l : List κ} {k : κ}, l.Nodup → ¬ k ∈ l → (l ++ [k]).Nodup
  | [], k, _, _ => by simp
  | a :: r, k, h, hk => by
    obtain ⟨h1, h2⟩ := List.nodup_cons.mp h
    show (a :: (r ++ [k])).Nodup
    refine List.nodup_cons.mpr ⟨fun m => ?_, nd_snoc h2 fun m => hk (List.mem_cons.mpr (Or.inr m))⟩
    rcases List.mem_append.mp m with q | q
    · exact h1 q
    · exact hk (List.mem_cons.mpr (Or.inl (List.mem_singleton.mp q).symm))
theorem nd_putK {kvs : List (κ × V)} {k : κ} (v : V) (hn : (kvs.map (·.1)).Nodup) (h : valV kvs k = none) : ((putK kvs k v).map (·.1)).Nodup := by
  rw [putK_new v h, List.map_append]
  exact nd_snoc hn (valV_not h)
theorem dropK_pos {p : κ × V} {r : List (κ × V)} {k : κ} (e : p.1 = k) : dropK (p :: r) k = dropK r k := by
  unfold dropK
  rw [List.filter_cons, if_neg (by simp [e])]
theorem dropK_neg {p : κ × V} {r : List (κ × V)} {k : κ} (e : ¬ p.1 = k) : dropK (p :: r) k = p :: dropK r k := by
  unfold dropK
  rw [List.filter_cons, if_pos (by simp [e])]
theorem dropK_no : ∀ {kvs : List (κ × V)} {k : κ}, ¬ k ∈ kvs.map (·.1) → dropK kvs k = kvs
  | [], _, _ => rfl
  | p :: r, k, h => by
    have h' : ¬ k ∈ r.map (·.1) := fun m => by
      obtain ⟨q, hq, e⟩ := List.mem_map.mp m
      exact h (List.mem_map.mpr ⟨q, List.mem_cons.mpr (Or.inr hq), e⟩)
    rw [dropK_neg fun e => h (List.mem_map.mpr ⟨p, List.mem_cons.mpr (Or.inl rfl), e⟩), dropK_no h']
theorem dropK_mem {kvs : List (κ × V)} {k : κ} {p : κ × V} (h : p ∈ dropK kvs k) : p ∈ kvs := (List.mem_filter.mp h).1
theorem nd_dropK : ∀ {kvs : List (κ × V)} {k : κ}, (kvs.map (·.1)).Nodup → ((dropK kvs k).map (·.1)).Nodup
  | [], _, _ => List.nodup_nil
  | p :: r, k, h => by
    have h : (p.1 :: r.map (·.1)).Nodup := h
    obtain ⟨h1, h2⟩ := List.nodup_cons.mp h
    by_cases e : p.1 = k
    · rw [dropK_pos e]
      exact nd_dropK h2
    · rw [dropK_neg e]
      show (p.1 :: (dropK r k).map (·.1)).Nodup
      refine List.nodup_cons.mpr ⟨fun m => h1 ?_, nd_dropK h2⟩
      obtain ⟨q, hq, eq⟩ := List.mem_map.mp m
      exact List.mem_map.mpr ⟨q, dropK_mem hq, eq⟩
theorem dropK_len : ∀ {kvs : List (κ × V)} {k : κ}, (kvs.map (·.1)).Nodup → k ∈ kvs.map (·.1) → (dropK kvs k).length + 1 = kvs.length
  | [], _, _, m => by simp at m
  | p :: r, k, h, m => by
    have h : (p.1 :: r.map (·.1)).Nodup := h
    have m : k = p.1 ∨ k ∈ r.map (·.1) := List.mem_cons.mp m
    obtain ⟨h1, h2⟩ := List.nodup_cons.mp h
    by_cases e : p.1 = k
    · subst e
      rw [dropK_pos rfl, dropK_no h1]
      all_goals rfl
    · have m' : k ∈ r.map (·.1) := m.resolve_left fun z => e z.symm
      have q := dropK_len h2 m'
      rw [dropK_neg e, List.length_cons, List.length_cons]
      omega
end
end L2

set_option Elab.async false
set_option linter.all false
/-! the table of a set that only ever took things in: its places rise -/
namespace L3
open PySem

theorem getD_lt {xs : Array Nat} {i d : Nat} (h : i < xs.size) : xs.getD i d = xs[i] := by simp [Array.getD, h]

/-- xs rises -/
def Rise (xs : Array Nat) : Prop := ∀ i j (hi : i < xs.size) (hj : j < xs.size), i < j → xs[i] < xs[j]

theorem below_go (xs : Array Nat) (j : Nat) (r : Rise xs) : ∀ (fuel lo hi : Nat), hi - lo ≤ fuel → lo ≤ hi → hi ≤ xs.size →
    (∀ i (h : i < xs.size), i < lo → xs[i] < j) → (∀ i (h : i < xs.size), hi ≤ i → j ≤ xs[i]) →
    SetTable.below.go xs j fuel lo hi ≤ xs.size ∧ (∀ i (h : i < xs.size), i < SetTable.below.go xs j fuel lo hi → xs[i] < j) ∧ ∀ i (h : i < xs.size), SetTable.below.go xs j fuel lo hi ≤ i → j ≤ xs[i] := by
  intro fuel
  induction fuel with
  | zero =>
    intro lo hi h1 h2 h3 h4 h5
    have e : lo = hi := by omega
    subst e
    show lo ≤ xs.size ∧ _
    exact ⟨h3, h4, h5⟩
  | succ fuel ih =>
    intro lo hi h1 h2 h3 h4 h5
    unfold SetTable.below.go
    by_cases hl : lo < hi
    · rw [if_pos hl]
      have hm : (lo + hi) / 2 < xs.size := by omega
      dsimp only
      rw [getD_lt hm]
      by_cases hc : xs[(lo + hi) / 2] < j
      · rw [if_pos hc]
        refine ih _ _ (by omega) (by omega) h3 (fun i h hi' => ?_) h5
        by_cases e : i = (lo + hi) / 2
        · subst e; exact hc
        · exact Nat.lt_trans (r i _ h hm (by omega)) hc
      · rw [if_neg hc]
        refine ih _ _ (by omega) (by omega) (by omega) h4 (fun i h hi' => ?_)
        by_cases e : i = (lo + hi) / 2
        · subst e; omega
        · have := r _ i hm h (by omega)
          omega
    · rw [if_neg hl]
      have e : lo = hi := by omega
      subst e
      exact ⟨h3, h4, h5⟩
theorem below_ok {xs : Array Nat} (r : Rise xs) (j : Nat) : SetTable.below xs j ≤ xs.size ∧ (∀ i (h : i < xs.size), i < SetTable.below xs j → xs[i] < j) ∧ ∀ i (h : i < xs.size), SetTable.below xs j ≤ i → j ≤ xs[i] := by
  unfold SetTable.below
  exact below_go xs j r xs.size 0 xs.size (by omega) (by omega) (Nat.le_refl _) (fun i _ h => absurd h (by omega)) fun i h h' => absurd h (by omega)

theorem size_insertAt {α : Type} (xs : Array α) (p : Nat) (x : α) (h : p ≤ xs.size) : (SetTable.insertAt xs p x).size = xs.size + 1 := by
  have := congrArg List.length (SetTable.toList_insertAt xs p x)
  simp only [Array.length_toList, List.length_append, List.length_cons, List.length_take, List.length_drop] at this
  omega
theorem get_insertAt {α : Type} (xs : Array α) (p : Nat) (x : α) (h : p ≤ xs.size) (i : Nat) : (SetTable.insertAt xs p x)[i]? = if i < p then xs[i]? else if i = p then some x else xs[i - 1]? := by
  rw [← Array.getElem?_toList, SetTable.toList_insertAt]
  have hp : (xs.toList.take p).length = p := by simp; omega
  by_cases h1 : i < p
  · rw [if_pos h1, List.getElem?_append_left (by omega), List.getElem?_take_of_lt h1, Array.getElem?_toList]
  · rw [if_neg h1, List.getElem?_append_right (by omega), hp]
    by_cases h2 : i = p
    · subst h2; rw [if_pos rfl]; simp
    · rw [if_neg h2, show i - p = (i - p - 1) + 1 by omega, List.getElem?_cons_succ, List.getElem?_drop, Array.getElem?_toList]
      congr 1
      omega
theorem rise_iff {xs : Array Nat} : Rise xs ↔ ∀ (i j a b : Nat), xs[i]? = some a → xs[j]? = some b → i < j → a < b := by
  constructor
  · intro r i j a b ha hb hij
    obtain ⟨h1, e1⟩ := Array.getElem?_eq_some_iff.mp ha
    obtain ⟨h2, e2⟩ := Array.getElem?_eq_some_iff.mp hb
    rw [← e1, ← e2]
    exact r i j h1 h2 hij
  · intro r i j hi hj hij
    exact r i j _ _ (Array.getElem?_eq_getElem hi) (Array.getElem?_eq_getElem hj) hij
theorem rise_insert {xs : Array Nat} (r : Rise xs) {j : Nat} (hn : xs[SetTable.below xs j]? ≠ some j) : Rise (SetTable.insertAt xs (SetTable.below xs j) j) := by
  obtain ⟨b1, b2, b3⟩ := below_ok r j
  have r' := rise_iff.mp r
  have lo : ∀ i a, xs[i]? = some a → i < SetTable.below xs j → a < j := fun i a e h => by
    obtain ⟨h1, e1⟩ := Array.getElem?_eq_some_iff.mp e
    rw [← e1]; exact b2 i h1 h
  have hi : ∀ i a, xs[i]? = some a → SetTable.below xs j ≤ i → j < a := fun i a e h => by
    obtain ⟨h1, e1⟩ := Array.getElem?_eq_some_iff.mp e
    have q := b3 i h1 h
    rw [e1] at q
    rcases Nat.lt_or_ge j a with z | z
    · exact z
    · have ea : a = j := by omega
      subst ea
      exfalso
      rcases Nat.lt_or_ge (SetTable.below xs a) i with z' | z'
      · have hb : SetTable.below xs a < xs.size := by omega
        have q1 := b3 _ hb (Nat.le_refl _)
        have q2 := r _ _ hb h1 z'
        omega
      · have : i = SetTable.below xs a := by omega
        rw [this] at e
        exact hn e
  refine rise_iff.mpr fun i k a b ha hb hik => ?_
  rw [get_insertAt _ _ _ b1] at ha hb
  by_cases c1 : i < SetTable.below xs j
  · rw [if_pos c1] at ha
    by_cases c2 : k < SetTable.below xs j
    · rw [if_pos c2] at hb; exact r' i k a b ha hb hik
    · rw [if_neg c2] at hb
      by_cases c3 : k = SetTable.below xs j
      · rw [if_pos c3] at hb; cases hb; exact lo i a ha c1
      · rw [if_neg c3] at hb
        have := hi _ _ hb (by omega)
        have := lo i a ha c1
        omega
  · rw [if_neg c1] at ha
    have c2 : ¬ k < SetTable.below xs j := by omega
    have c3 : ¬ k = SetTable.below xs j := by omega
    rw [if_neg c2, if_neg c3] at hb
    by_cases c4 : i = SetTable.below xs j
    · rw [if_pos c4] at ha; cases ha; exact hi _ _ hb (by omega)
    · rw [if_neg c4] at ha
      exact r' (i - 1) (k - 1) a b ha hb (by omega)

/-- the table of a set that only took things in -/
structure TabOk (L : Bool) (t : SetTable) (n : Nat) : Prop where
  fits : t.fits n = true
  led : t.led = L
  dum : t.dummies = #[]
  rise : Rise t.place
theorem TabOk.size {L : Bool} {t : SetTable} {n : Nat} (x : TabOk L t n) : t.place.size = n := by
  have := x.fits
  simp only [SetTable.fits, Bool.and_eq_true, beq_iff_eq] at this
  exact this.1
theorem TabOk.fresh (L : Bool) : TabOk L (.fresh 0 0 L) 0 := ⟨rfl, rfl, rfl, fun i j hi => absurd hi (by simp [SetTable.fresh])⟩
theorem TabOk.plainOff {L : Bool} {t : SetTable} {n : Nat} (x : TabOk L t n) : TabOk L { t with plain := false } n := ⟨x.fits, x.led, x.dum, x.rise⟩
theorem TabOk.standIn {L : Bool} {t : SetTable} {n : Nat} (hl : t.led = L) : TabOk L (t.standIn n) n :=
  ⟨SetTable.standIn_fits t n, hl, rfl, fun i j hi hj hij => by
    have r : Rise (Array.range n) := fun i j hi hj hij => by
      rw [Array.getElem_range, Array.getElem_range]
      exact hij
    exact r i j hi hj hij⟩
theorem has_empty (j : Nat) : SetTable.has #[] j = false := by simp [SetTable.has]
theorem slot_empty {t : SetTable} {j : Nat} (h : t.slot j = .empty) : t.place[SetTable.below t.place j]? ≠ some j := by
  intro e
  unfold SetTable.slot at h
  dsimp only at h
  rw [e, if_pos (by simp)] at h
  cases h
theorem slot_nodummy {t : SetTable} {j : Nat} (hd : t.dummies = #[]) : t.slot j ≠ .dummy := by
  intro h
  unfold SetTable.slot at h
  dsimp only at h
  rw [hd, has_empty] at h
  split at h
  · cases h
  · simp at h
theorem probe_go {t : SetTable} {hashAt : Nat → Int} {h : Int} (hd : t.dummies = #[]) : ∀ (fuel : Nat) (p : SetTable.Probe) (j : Nat) (d : Option Nat), p.dummy = none → SetTable.probe.go t hashAt h fuel p = some (.empty j d) → d = none ∧ t.slot j = .empty := by
  intro fuel
  induction fuel with
  | zero => intro p j d _ e; cases e
  | succ fuel ih =>
    intro p j d hp e
    unfold SetTable.probe.go at e
    split at e
    · rename_i hs
      cases e
      exact ⟨hp, hs⟩
    · rename_i hs
      exact absurd hs (slot_nodummy hd)
    · split at e
      · cases e
      · refine ih _ j d ?_ e
        unfold SetTable.advance
        split
        · exact hp
        · exact hp
theorem freeSlot_ok {t : SetTable} {h : Int} {slot : Nat} {b : Bool} (hd : t.dummies = #[]) (e : t.freeSlot h = some (slot, b)) : t.place[SetTable.below t.place slot]? ≠ some slot := by
  unfold SetTable.freeSlot at e
  split at e
  · rename_i j dm hp
    unfold SetTable.probe at hp
    obtain ⟨e1, e2⟩ := probe_go hd _ _ j dm rfl hp
    subst e1
    cases e
    exact slot_empty e2
  · cases e
theorem TabOk.layNew {L : Bool} {t : SetTable} {es : Array (Int × Value)} {h : Int} {x : Value} (k : TabOk L t es.size) : TabOk L (layNew t es h x).2.1 (layNew t es h x).1.size := by
  have hf := layNew_fits t es h x
  refine ⟨hf, ?_, ?_, ?_⟩
  all_goals (unfold PySem.layNew; split)
  · dsimp only
    unfold SetTable.orStandIn
    split
    · exact k.led
    · exact k.led
  · exact k.led
  · dsimp only
    unfold SetTable.orStandIn
    split
    · show (if SetTable.has t.dummies _ = true then _ else t.dummies) = _
      rw [k.dum, has_empty]; rfl
    · rfl
  · rfl
  · rename_i slot b e
    dsimp only
    unfold SetTable.orStandIn
    split
    · exact rise_insert k.rise (freeSlot_ok k.dum e)
    · exact (TabOk.standIn (t := (t.put slot).1) (n := _) rfl).rise
  · exact (TabOk.standIn (t := t) (n := _) rfl).rise
theorem laid_place {mask finger moves : Nat} {led plain : Bool} {hashes : Array Int} {t' : SetTable} {order : Array Nat} (e : SetTable.laid mask finger moves led plain hashes = some (t', order)) : t'.led = led ∧ t'.dummies = #[] ∧ Rise t'.place := by
  unfold SetTable.laid at e
  cases ho : SetTable.layClean mask hashes with
  | none => rw [ho] at e; cases e
  | some owner =>
    rw [ho] at e
    have e' := Option.some.inj e
    have e1 := congrArg Prod.fst e'
    dsimp only at e1
    rw [← e1]
    refine ⟨rfl, rfl, ?_⟩
    have hp : (((List.range (mask + 1)).filterMap fun j => (owner.getD j none).map (j, ·)).map (·.1)).Pairwise (· < ·) := by
      rw [List.pairwise_map]
      refine List.Pairwise.filterMap _ (S := fun a b : Nat × Nat => a.1 < b.1) ?_ List.pairwise_lt_range
      intro a b hab x hx y hy
      cases ha : owner.getD a none with
      | none => rw [ha] at hx; cases hx
      | some u =>
        cases hb : owner.getD b none with
        | none => rw [hb] at hy; cases hy
        | some v => rw [ha] at hx; rw [hb] at hy; cases hx; cases hy; exact hab
    intro i j hi hj hij
    have := List.pairwise_iff_getElem.mp hp i j (by simpa using hi) (by simpa using hj) hij
    simpa using this
theorem TabOk.relayAll {L : Bool} {t : SetTable} {es : Array (Int × Value)} {wanted : Nat} (hl : t.led = L) : TabOk L (relayAll t es wanted).2.1 (relayAll t es wanted).1.size := by
  have hf := relayAll_fits t es wanted
  refine ⟨hf, ?_, ?_, ?_⟩
  all_goals (unfold PySem.relayAll; split)
  · rename_i t' order e
    dsimp only
    split
    · exact (laid_place e).1.trans hl
    · exact hl
  · exact hl
  · rename_i t' order e
    dsimp only
    split
    · exact (laid_place e).2.1
    · rfl
  · rfl
  · rename_i t' order e
    dsimp only
    split
    · exact (laid_place e).2.2
    · exact (TabOk.standIn (t := t) (n := _) rfl).rise
  · exact (TabOk.standIn (t := t) (n := _) rfl).rise

/-- the walk by places: below at a place's end is the next index -/
theorem below_at {xs : Array Nat} (r : Rise xs) {i : Nat} (h : i < xs.size) : SetTable.below xs (xs[i] + 1) = i + 1 := by
  obtain ⟨b1, b2, b3⟩ := below_ok r (xs[i] + 1)
  rcases Nat.lt_trichotomy (SetTable.below xs (xs[i] + 1)) (i + 1) with z | z | z
  · have := b3 i h (by omega); omega
  · exact z
  · have hj : i + 1 < xs.size := by omega
    have q1 := b2 (i + 1) hj z
    have q2 := r i (i + 1) h hj (by omega)
    omega
theorem below_zero {xs : Array Nat} (r : Rise xs) : SetTable.below xs 0 = 0 := by
  obtain ⟨b1, b2, b3⟩ := below_ok r 0
  rcases Nat.eq_zero_or_pos (SetTable.below xs 0) with z | z
  · exact z
  · have := b2 0 (by omega) z; omega

/-- the order by an oracle is a permutation -/
theorem erase_perm {α : Type} : ∀ (l : List α) (i : Nat) (h : i < l.length), (l[i] :: l.eraseIdx i).Perm l
  | x :: l, 0, _ => by simp
  | x :: l, i + 1, h => by
    have hi : i < l.length := by simpa using h
    have := (erase_perm l i hi).cons x
    rw [List.eraseIdx_cons_succ, List.getElem_cons_succ]
    exact (List.Perm.swap x l[i] _).trans this
theorem pick_go {α : Type} (next : Nat → Nat) : ∀ (fuel k : Nat) (left : List α) (out : Array α), left.length = fuel → (pickOrder.go next fuel k left out).toList.Perm (out.toList ++ left) := by
  intro fuel
  induction fuel with
  | zero =>
    intro k left out hl
    have : left = [] := List.length_eq_zero_iff.mp hl
    subst this
    show out.toList.Perm _
    rw [List.append_nil]
  | succ fuel ih =>
    intro k left out hl
    have hlt : next k % left.length < left.length := Nat.mod_lt _ (by omega)
    unfold pickOrder.go
    rw [List.getElem?_eq_getElem hlt]
    dsimp only
    refine (ih (k + 1) _ _ ?_).trans ?_
    · rw [List.length_eraseIdx_of_lt hlt]; omega
    · rw [Array.toList_push, List.append_assoc]
      refine List.Perm.append_left _ ?_
      exact erase_perm left _ hlt
theorem pick_perm {α : Type} (next : Nat → Nat) (xs : Array α) : (pickOrder next xs).toList.Perm xs.toList := by
  have := pick_go next xs.size 0 xs.toList #[] (by simp)
  unfold pickOrder
  simpa using this
end L3

set_option Elab.async false
set_option linter.all false
set_option maxRecDepth 100000
/-! a set of ints is walked: each member once, in some order -/
namespace L3
open PySem PyProof.Rows

theorem slot_si_next : Slot "set_iterator" "__next__" "set_iterator.__next__" :=
  .of (owner := "set_iterator") (n := "__next__") (by rw [typeLookup_type, builtinLookup_eq_fast]; kernel_rfl) (by decide +kernel) (by decide +kernel) (by decide +kernel)
    (by first | exact .inl (by decide +kernel) | exact .inr (by decide +kernel)) (by rw [isSubtype_type]; kernel_rfl)
theorem entry_si_next : entryFor table "set_iterator.__next__" = some Builtin.«set_iterator.__next__» := entryFor_of_tree (by kernel_rfl)
theorem owner_si : Manifest.owners.lookup (String.ofList ['r', 'o', 't', 'a', 'r', 'e', 't', 'i', '_', 't', 'e', 's'].reverse) = some Manifest.sig_set_iterator := by kernel_rfl
theorem args_si_next (a : Value) : argsOk "set_iterator.__next__" ⟨[a], []⟩ := by
  unfold argsOk
  rw [signature?_of (id := "set_iterator.__next__") (n := ['_', '_', 't', 'x', 'e', 'n', '_', '_']) (o := ['r', 'o', 't', 'a', 'r', 'e', 't', 'i', '_', 't', 'e', 's']) (by kernel_rfl) owner_si]
  kernel_rfl
theorem slot_si_iter : Slot "set_iterator" "__iter__" "set_iterator.__iter__" :=
  .of (owner := "set_iterator") (n := "__iter__") (by rw [typeLookup_type, builtinLookup_eq_fast]; kernel_rfl) (by decide +kernel) (by decide +kernel) (by decide +kernel)
    (by first | exact .inl (by decide +kernel) | exact .inr (by decide +kernel)) (by rw [isSubtype_type]; kernel_rfl)
theorem entry_si_iter : entryFor table "set_iterator.__iter__" = some Builtin.«dict_keyiterator.__iter__» :=
  entryFor_alias (id' := "dict_keyiterator.__iter__") (by kernel_rfl) rfl (by decide +kernel) (by kernel_rfl)
theorem args_si_iter (a : Value) : argsOk "set_iterator.__iter__" ⟨[a], []⟩ := by
  unfold argsOk
  rw [signature?_of (id := "set_iterator.__iter__") (n := ['_', '_', 'r', 'e', 't', 'i', '_', '_']) (o := ['r', 'o', 't', 'a', 'r', 'e', 't', 'i', '_', 't', 'e', 's']) (by kernel_rfl) owner_si]
  kernel_rfl
theorem entry_set_iter : entryFor table "set.__iter__" = some Builtin.«frozenset.__iter__» :=
  entryFor_alias (id' := "frozenset.__iter__") (by kernel_rfl) rfl (by decide +kernel) (by kernel_rfl)

/-- a set's record -/
abbrev setObj (es : Array (Int × Value)) (ep : Nat) (t : SetTable) : Obj := { cls := .type "set", data := .set es ep t }
/-- an iterator's record -/
abbrev siObj (first : Value) (i : Nat) (s : Value) (n ep : Nat) : Obj := { cls := .type "set_iterator", data := .fields #[first, .int i 0, s, .int n 0, .int ep 0] }

section
variable {prog : Program} {w : World} {A : Around} {E : Value → Shared → Prop} {s : Shared} {a it : Addr} {es : Array (Int × Value)} {ep : Nat} {t : SetTable}

theorem state_ok {Q : (Array (Int × Value) × Nat × SetTable) → Shared → Prop} (ho : s.heap.get? a = some (setObj es ep t)) (hf : t.fits es.size = true) (h : Q (es, ep, t) s) : wpAny (model prog w) A (setState a) Q E s :=
  wpAny_setState_of ho rfl hf h
theorem entries_ok {Q : Array (Int × Value) → Shared → Prop} (ho : s.heap.get? a = some (setObj es ep t)) (hf : t.fits es.size = true) (h : Q es s) : wpAny (model prog w) A (setEntries a) Q E s :=
  wpAny_setEntries_of ho rfl hf h
theorem byText_ok {Q : Bool → Shared → Prop} (h : Q (w.params.followText "set-order") s) : wpAny (model prog w) A setsByText Q E s := by
  unfold setsByText
  exact wpAny_bind (wpAny_askSetting (wpAny_pure h))
theorem chosen {M : Model} {src : Source} {n : Nat} {Q : Nat → Shared → Prop} (hn : n ≠ 0) (h : ∀ i d, i < n → Q i { s with drawn := d }) : wpAny M A (choose src n) Q E s :=
  fun _ _ _ => ⟨hn, h _ _ (Nat.mod_lt _ (Nat.pos_of_ne_zero hn))⟩
theorem drawOrder_ok {M : Model} {α : Type} : ∀ (n : Nat) (xs : List α) (s : Shared) (Q : List α → Shared → Prop), xs.length = n → (∀ ys d, ys.Perm xs → Q ys { s with drawn := d }) → wpAny M A (drawOrder n xs) Q E s
  | 0, xs, s, Q, hl, h => by
    have e : xs = [] := List.length_eq_zero_iff.mp hl
    subst e
    exact wpAny_pure (h [] s.drawn .nil)
  | n + 1, [], s, Q, hl, h => by simp at hl
  | n + 1, x :: xs, s, Q, hl, h => by
    unfold drawOrder
    refine wpAny_bind (chosen (by simp) fun i d hi => ?_)
    rw [List.getElem?_eq_getElem hi]
    refine wpAny_bind (drawOrder_ok n _ _ _ (by rw [List.length_eraseIdx_of_lt hi]; simpa using hl) fun ys d' hp => ?_)
    refine wpAny_pure (h _ d' ?_)
    exact (hp.cons _).trans (erase_perm (x :: xs) i hi)

/-- next, from what setNext says -/
theorem next_of {Q : Option Value → Shared → Prop} {slot : Int} {tk : Tok} {i n : Nat} {v : Value} {nx : Nat} (hit : s.heap.get? it = some (siObj (.int slot tk) i (.ref a) n ep)) (ho : s.heap.get? a = some (setObj es ep t)) (hf : t.fits es.size = true) (hn : es.size = n)
    (hx : ∀ (A : Around) (E : Value → Shared → Prop) (Q : Option (Value × Nat) → Shared → Prop), Q (some (v, nx)) s → wpAny (model prog w) A (setNext a slot.toNat i ep) Q E s)
    (hQ : ∀ h', h'.get? it = some (siObj (.int nx 0) (i + 1) (.ref a) n ep) → Heap.SameBut it s.heap h' → Q (some v) { s with heap := h' }) : wpAny (model prog w) A (pyNext (.ref it)) Q E s := by
  have hT : s.TypeIs (.ref it) "set_iterator" := ⟨_, hit, rfl⟩
  unfold pyNext
  refine wpAny_bind (wpAny_attempt (wpAny_callSpecial?_slot (name := Str.ofString "__next__") hT slot_si_next (wpAny_call_entry slot_si_next hT entry_si_next ?_ (args_si_next _))))
  unfold Builtin.«set_iterator.__next__» slotArgs
  simp only [List.isEmpty_nil, Bool.not_true, Bool.false_eq_true, ↓reduceIte, List.length_nil, bne_self_eq_false]
  refine wpAny_bind (wpAny_pure ?_)
  refine wpAny_bind (wpAny_fieldsOf hit rfl ?_)
  show wpAny _ _ (setEntries a >>= _) _ _ s
  refine wpAny_bind (entries_ok ho hf ?_)
  rw [if_neg (by rw [hn]; simp)]
  dsimp only
  refine wpAny_bind ?_
  rw [show (((i : Nat) : Int)).toNat = i from Int.toNat_natCast i, show (((ep : Nat) : Int)).toNat = ep from Int.toNat_natCast ep]
  refine hx _ _ _ ?_
  dsimp only
  refine wpAny_bind (wpAny_setField_rec hit (by simp) fun h1 e1 s1 => ?_)
  refine wpAny_bind (wpAny_setField_rec e1 (by simp) fun h2 e2 s2 => ?_)
  refine wpAny_pure ⟨_, rfl, wpAny_pure (hQ h2 ?_ (s1.trans s2))⟩
  rw [e2]
  simp [rawInt]
/-- the end, from what setNext says -/
theorem next_end {Q : Option Value → Shared → Prop} {slot : Int} {tk : Tok} {i n : Nat} (hh : A.handled = none) (hit : s.heap.get? it = some (siObj (.int slot tk) i (.ref a) n ep)) (ho : s.heap.get? a = some (setObj es ep t)) (hf : t.fits es.size = true) (hn : es.size = n)
    (hx : ∀ (A : Around) (E : Value → Shared → Prop) (Q : Option (Value × Nat) → Shared → Prop), Q none s → wpAny (model prog w) A (setNext a slot.toNat i ep) Q E s)
    (hQ : ∀ h', Heap.ExtBut it s.heap h' → Q none { s with heap := h' }) : wpAny (model prog w) A (pyNext (.ref it)) Q E s := by
  have hT : s.TypeIs (.ref it) "set_iterator" := ⟨_, hit, rfl⟩
  unfold pyNext
  refine wpAny_bind (wpAny_attempt (wpAny_callSpecial?_slot (name := Str.ofString "__next__") hT slot_si_next (wpAny_call_entry slot_si_next hT entry_si_next ?_ (args_si_next _))))
  unfold Builtin.«set_iterator.__next__» slotArgs
  simp only [List.isEmpty_nil, Bool.not_true, Bool.false_eq_true, ↓reduceIte, List.length_nil, bne_self_eq_false]
  refine wpAny_bind (wpAny_pure ?_)
  refine wpAny_bind (wpAny_fieldsOf hit rfl ?_)
  show wpAny _ _ (setEntries a >>= _) _ _ s
  refine wpAny_bind (entries_ok ho hf ?_)
  rw [if_neg (by rw [hn]; simp)]
  dsimp only
  refine wpAny_bind ?_
  rw [show (((i : Nat) : Int)).toNat = i from Int.toNat_natCast i, show (((ep : Nat) : Int)).toNat = ep from Int.toNat_natCast ep]
  refine hx _ _ _ ?_
  dsimp only
  refine wpAny_bind (wpAny_setField_rec hit (by simp) fun h1 e1 s1 => ?_)
  refine wpAny_bind ?_
  simp only [newExc, newTuple]
  refine wpAny_bind (wpAny_newObj_type ?_ (by size_fits))
  refine wpAny_bind (m := firstArgMember _ _) (wpAny_of_eq (a := Value.none) (by first | rfl | (simp only [firstArgMember]; rfl)) ?_)
  refine wpAny_newObj_type ?_ (by size_fits)
  simp only [raiseNew]
  refine wpAny_bind (wpAny_handled ?_)
  rw [show A.in1.handled = none from hh]
  refine wpAny_bind (wpAny_pure (wpAny_throw ?_))
  refine wpAny_bind (wpAny_isInstance (T := "StopIteration") (b := true) ⟨_, Heap.get?_push_size _ rfl, rfl⟩ isSubtype_stop ?_)
  exact wpAny_pure (hQ _ ((s1.extBut.push _).push _))
/-- next, by a drawn order -/
theorem nextD_of {Q : Option Value → Shared → Prop} {tp : Addr} {ot : Obj} {pl : Array Value} {kk i n j : Nat} {tk : Tok} {hv : Int} {v : Value} (hit : s.heap.get? it = some (siObj (.ref tp) i (.ref a) n ep)) (ho : s.heap.get? a = some (setObj es ep t)) (hf : t.fits es.size = true) (hn : es.size = n)
    (hot : s.heap.get? tp = some ot) (hpd : ot.data = .seq pl kk) (hp : pl[i]? = some (.int j tk)) (hv : es[j]? = some (hv, v))
    (hQ : ∀ h', h'.get? it = some (siObj (.ref tp) (i + 1) (.ref a) n ep) → Heap.SameBut it s.heap h' → Q (some v) { s with heap := h' }) : wpAny (model prog w) A (pyNext (.ref it)) Q E s := by
  have hT : s.TypeIs (.ref it) "set_iterator" := ⟨_, hit, rfl⟩
  unfold pyNext
  refine wpAny_bind (wpAny_attempt (wpAny_callSpecial?_slot (name := Str.ofString "__next__") hT slot_si_next (wpAny_call_entry slot_si_next hT entry_si_next ?_ (args_si_next _))))
  unfold Builtin.«set_iterator.__next__» slotArgs
  simp only [List.isEmpty_nil, Bool.not_true, Bool.false_eq_true, ↓reduceIte, List.length_nil, bne_self_eq_false]
  refine wpAny_bind (wpAny_pure ?_)
  refine wpAny_bind (wpAny_fieldsOf hit rfl ?_)
  show wpAny _ _ (setEntries a >>= _) _ _ s
  refine wpAny_bind (entries_ok ho hf ?_)
  rw [if_neg (by rw [hn]; simp)]
  dsimp only
  refine wpAny_bind (wpAny_seqItems hot hpd ?_)
  dsimp only
  rw [show (((i : Nat) : Int)).toNat = i from Int.toNat_natCast i, show (((ep : Nat) : Int)).toNat = ep from Int.toNat_natCast ep, hp]
  dsimp only
  rw [show (((j : Nat) : Int)).toNat = j from Int.toNat_natCast j]
  unfold setNextDrawn
  refine wpAny_bind (wpAny_bind (state_ok ho hf ?_))
  dsimp only
  rw [if_neg (by simp), hv]
  dsimp only
  refine wpAny_pure ?_
  refine wpAny_bind (wpAny_setField_rec hit (by simp) fun h1 e1 s1 => ?_)
  refine wpAny_pure ⟨_, rfl, wpAny_pure (hQ h1 ?_ s1)⟩
  rw [e1]
  simp [rawInt]
theorem nextD_end {Q : Option Value → Shared → Prop} {tp : Addr} {ot : Obj} {pl : Array Value} {kk i n : Nat} (hh : A.handled = none) (hit : s.heap.get? it = some (siObj (.ref tp) i (.ref a) n ep)) (ho : s.heap.get? a = some (setObj es ep t)) (hf : t.fits es.size = true) (hn : es.size = n)
    (hot : s.heap.get? tp = some ot) (hpd : ot.data = .seq pl kk) (hp : pl[i]? = none)
    (hQ : ∀ h', Heap.ExtBut it s.heap h' → Q none { s with heap := h' }) : wpAny (model prog w) A (pyNext (.ref it)) Q E s := by
  have hT : s.TypeIs (.ref it) "set_iterator" := ⟨_, hit, rfl⟩
  unfold pyNext
  refine wpAny_bind (wpAny_attempt (wpAny_callSpecial?_slot (name := Str.ofString "__next__") hT slot_si_next (wpAny_call_entry slot_si_next hT entry_si_next ?_ (args_si_next _))))
  unfold Builtin.«set_iterator.__next__» slotArgs
  simp only [List.isEmpty_nil, Bool.not_true, Bool.false_eq_true, ↓reduceIte, List.length_nil, bne_self_eq_false]
  refine wpAny_bind (wpAny_pure ?_)
  refine wpAny_bind (wpAny_fieldsOf hit rfl ?_)
  show wpAny _ _ (setEntries a >>= _) _ _ s
  refine wpAny_bind (entries_ok ho hf ?_)
  rw [if_neg (by rw [hn]; simp)]
  dsimp only
  refine wpAny_bind (wpAny_seqItems hot hpd ?_)
  dsimp only
  rw [show (((i : Nat) : Int)).toNat = i from Int.toNat_natCast i, hp]
  dsimp only
  refine wpAny_bind (wpAny_setField_rec hit (by simp) fun h1 e1 s1 => ?_)
  refine wpAny_bind (wpAny_setField_rec e1 (by simp) fun h2 e2 s2 => ?_)
  refine wpAny_bind ?_
  simp only [newExc, newTuple]
  refine wpAny_bind (wpAny_newObj_type ?_ (by size_fits))
  refine wpAny_bind (m := firstArgMember _ _) (wpAny_of_eq (a := Value.none) (by first | rfl | (simp only [firstArgMember]; rfl)) ?_)
  refine wpAny_newObj_type ?_ (by size_fits)
  simp only [raiseNew]
  refine wpAny_bind (wpAny_handled ?_)
  rw [show A.in1.handled = none from hh]
  refine wpAny_bind (wpAny_pure (wpAny_throw ?_))
  refine wpAny_bind (wpAny_isInstance (T := "StopIteration") (b := true) ⟨_, Heap.get?_push_size _ rfl, rfl⟩ isSubtype_stop ?_)
  exact wpAny_pure (hQ _ (((s1.trans s2).extBut.push _).push _))

/-- what setNext says, by an oracle -/
theorem setNext_text {slot i : Nat} {Q : Option (Value × Nat) → Shared → Prop} (hT : w.params.followText "set-order" = true) (ho : s.heap.get? a = some (setObj es ep t)) (hf : t.fits es.size = true)
    (h : Q (((pickOrder (w.params.setOrder a ep) es)[i]?).map fun e => (e.2, slot)) s) : wpAny (model prog w) A (setNext a slot i ep) Q E s := by
  unfold setNext
  refine wpAny_bind (state_ok ho hf ?_)
  dsimp only
  refine wpAny_bind (byText_ok ?_)
  rw [hT, if_pos rfl, if_neg (by simp)]
  refine wpAny_bind ?_
  unfold setWalk
  refine wpAny_bind (state_ok ho hf ?_)
  dsimp only
  refine wpAny_bind (byText_ok ?_)
  rw [hT, if_pos rfl]
  refine wpAny_bind (wpAny_askSetting (wpAny_pure ?_))
  exact wpAny_pure h
/-- .. by the places -/
theorem setNext_place {slot i : Nat} {Q : Option (Value × Nat) → Shared → Prop} (hT : w.params.followText "set-order" = false) (ho : s.heap.get? a = some (setObj es ep t)) (hf : t.fits es.size = true) (hd : (!t.plain && decide (es.size > 1)) = false) (hl : t.led = true)
    (h : Q (match es[SetTable.below t.place slot]?, t.place[SetTable.below t.place slot]? with | some (_, x), some j => some (x, j + 1) | _, _ => none) s) : wpAny (model prog w) A (setNext a slot i ep) Q E s := by
  unfold setNext
  refine wpAny_bind (state_ok ho hf ?_)
  dsimp only
  refine wpAny_bind (byText_ok ?_)
  rw [hT, if_neg Bool.false_ne_true]
  refine wpAny_ite_split (fun hab => absurd (show (!t.plain && decide (es.size > 1)) = true from hab) (by rw [hd]; exact Bool.false_ne_true)) (fun _ => ?_)
  refine wpAny_bind ?_
  show wpAny _ _ (if (!t.led && !es.isEmpty) = true then unsupported "set:maker-not-led" else pure ()) _ _ s
  rw [if_neg (by rw [hl]; simp)]
  exact wpAny_pure (wpAny_pure h)

/-- the walk of a set: some order of its members -/
structure SetWalk (prog : Program) (w : World) (I a : Addr) (lo : Nat) (vs : List Value) (s' : Shared) : Prop where
  ex : ∃ fp St, (∀ A : Around, A.handled = none → Walks prog w A I fp [I] vs.length (fun i v => vs[i]? = some v) St) ∧ St 0 s'.heap ∧ (∀ b ∈ fp, b < s'.heap.objs.size ∧ (b = a ∨ lo ≤ b)) ∧ I ∈ fp ∧ lo ≤ I
theorem lt_of_get {h : Heap} {b : Addr} {o : Obj} (e : h.get? b = some o) : b < h.objs.size := Heap.lt_size e

theorem si_self {I : Addr} {Q : Value → Shared → Prop} {first : Value} {i n : Nat} {sv : Value} (hit : s.heap.get? I = some (siObj first i sv n ep)) (h : Q (.ref I) s) : wpAny (model prog w) A (pyIter (.ref I)) Q E s := by
  have hT : s.TypeIs (.ref I) "set_iterator" := ⟨_, hit, rfl⟩
  refine wpAny_pyIter_slot hT slot_si_iter (wpAny_call_entry slot_si_iter hT entry_si_iter ?_ (args_si_iter _))
  show wpAny _ _ (ret (.ref I)) _ _ s
  exact wpAny_pure ⟨_, rfl, "set_iterator", _, hT, slot_si_next.lookup, h⟩

theorem walk_text {I : Addr} {lo : Nat} (hlo : lo ≤ I) (hT : w.params.followText "set-order" = true) (hf : t.fits es.size = true) (hne : a ≠ I) (hit : s.heap.get? I = some (siObj (.int ((0 : Nat) : Int) 0) 0 (.ref a) es.size ep)) (ho : s.heap.get? a = some (setObj es ep t)) :
    SetWalk prog w I a lo ((pickOrder (w.params.setOrder a ep) es).toList.map (·.2)) s where
  ex := by
    refine ⟨[I, a], fun i h => h.get? I = some (siObj (.int ((0 : Nat) : Int) 0) i (.ref a) es.size ep) ∧ h.get? a = some (setObj es ep t), fun A hh => ⟨?_, ?_, ?_, ?_, ?_⟩, ⟨hit, ho⟩, ?_, by simp, hlo⟩
    · intro b hb; simp at hb; simp [hb]
    · intro i h h' st hk; exact ⟨hk I (by simp) _ st.1, hk a (by simp) _ st.2⟩
    · intro i s Q E hi st hQ
      have hi' : i < (pickOrder (w.params.setOrder a ep) es).size := by simpa using hi
      refine next_of (v := (pickOrder (w.params.setOrder a ep) es)[i].2) (nx := 0) st.1 st.2 hf rfl (fun A E Q q => setNext_text hT st.2 hf ?_) fun h' e' sb => ?_
      · rw [Array.getElem?_eq_getElem hi']; exact q
      · exact hQ _ h' s.toks (by simp [hi']) ⟨e', (sb.2 a hne).trans st.2⟩ fun b o hb e => (sb.2 b (by simpa using hb)).trans e
    · intro s Q E st hQ
      refine next_end hh st.1 st.2 hf rfl (fun A E Q q => setNext_text hT st.2 hf ?_) fun h' eb => hQ h' s.toks fun b o hb e => eb b o (by simpa using hb) e
      rw [Array.getElem?_eq_none (by simp)]; exact q
    · intro i s Q E st hQ
      exact si_self st.1 hQ
    · intro b hb
      simp only [List.mem_cons, List.not_mem_nil, or_false] at hb
      rcases hb with rfl | rfl
      · exact ⟨lt_of_get hit, .inr hlo⟩
      · exact ⟨lt_of_get ho, .inl rfl⟩
theorem walk_place {I : Addr} {L : Bool} {lo : Nat} (hlo : lo ≤ I) (hT : w.params.followText "set-order" = false) (tb : TabOk L t es.size) (hL : L = true) (hd : (!t.plain && decide (es.size > 1)) = false) (hne : a ≠ I)
    (hit : s.heap.get? I = some (siObj (.int ((0 : Nat) : Int) 0) 0 (.ref a) es.size ep)) (ho : s.heap.get? a = some (setObj es ep t)) :
    SetWalk prog w I a lo (es.toList.map (·.2)) s where
  ex := by
    have hl : t.led = true := tb.led.trans hL
    have hsz := tb.size
    refine ⟨[I, a], fun i h => (∃ slot : Nat, h.get? I = some (siObj (.int (slot : Int) 0) i (.ref a) es.size ep) ∧ SetTable.below t.place slot = i) ∧ h.get? a = some (setObj es ep t), fun A hh => ⟨?_, ?_, ?_, ?_, ?_⟩, ⟨⟨0, hit, below_zero tb.rise⟩, ho⟩, ?_, by simp, hlo⟩
    · intro b hb; simp at hb; simp [hb]
    · intro i h h' ⟨⟨slot, e, b⟩, st⟩ hk; exact ⟨⟨slot, hk I (by simp) _ e, b⟩, hk a (by simp) _ st⟩
    · intro i s Q E hi ⟨⟨slot, e, b⟩, st⟩ hQ
      have hi' : i < es.size := by simpa using hi
      have hi2 : i < t.place.size := by omega
      refine next_of (v := es[i].2) (nx := t.place[i] + 1) e st tb.fits rfl (fun A E Q q => ?_) fun h' e' sb => ?_
      · rw [show ((slot : Nat) : Int).toNat = slot from Int.toNat_natCast slot]
        refine setNext_place hT st tb.fits hd hl ?_
        rw [b, Array.getElem?_eq_getElem hi', Array.getElem?_eq_getElem hi2]
        exact q
      · exact hQ _ h' s.toks (by simp [hi']) ⟨⟨t.place[i] + 1, e', below_at tb.rise hi2⟩, (sb.2 a hne).trans st⟩ fun b o hb e => (sb.2 b (by simpa using hb)).trans e
    · intro s Q E ⟨⟨slot, e, b⟩, st⟩ hQ
      refine next_end hh e st tb.fits rfl (fun A E Q q => ?_) fun h' eb => hQ h' s.toks fun b o hb e => eb b o (by simpa using hb) e
      rw [show ((slot : Nat) : Int).toNat = slot from Int.toNat_natCast slot]
      refine setNext_place hT st tb.fits hd hl ?_
      rw [b, Array.getElem?_eq_none (by simp)]
      exact q
    · intro i s Q E ⟨⟨slot, e, b⟩, st⟩ hQ
      exact si_self e hQ
    · intro b hb
      simp only [List.mem_cons, List.not_mem_nil, or_false] at hb
      rcases hb with rfl | rfl
      · exact ⟨lt_of_get hit, .inr hlo⟩
      · exact ⟨lt_of_get ho, .inl rfl⟩
theorem walk_drawn {I tp : Addr} {ot : Obj} {kk : Nat} {order : List Nat} {lo : Nat} (hlo : lo ≤ I) (hlt : lo ≤ tp) (hf : t.fits es.size = true) (hp : order.Perm (List.range es.size)) (hne : a ≠ I) (hnt : tp ≠ I)
    (hit : s.heap.get? I = some (siObj (.ref tp) 0 (.ref a) es.size ep)) (ho : s.heap.get? a = some (setObj es ep t)) (hot : s.heap.get? tp = some ot) (hpd : ot.data = .seq (order.map fun (i : Nat) => rawInt i).toArray kk) :
    SetWalk prog w I a lo ((order.filterMap (es[·]?)).map (·.2)) s where
  ex := by
    have hlen : order.length = es.size := by rw [hp.length_eq, List.length_range]
    have hmem : ∀ j ∈ order, j < es.size := fun j hj => List.mem_range.mp (hp.mem_iff.mp hj)
    have hfm : ∀ (l : List Nat), (∀ j ∈ l, j < es.size) → ∀ (i : Nat), ((l.filterMap (es[·]?)).map (·.2))[i]? = (l[i]?).bind fun (j : Nat) => (es[j]?).map fun (p : Int × Value) => p.2 := by
      intro l
      induction l with
      | nil => intro _ i; simp
      | cons x l ih =>
        intro h i
        have hx : x < es.size := h x List.mem_cons_self
        rw [List.filterMap_cons_some (b := es[x]) (by simp [hx]), List.map_cons]
        cases i with
        | zero => simp [hx]
        | succ i => simpa using ih (fun j hj => h j (List.mem_cons_of_mem _ hj)) i
    have hl2 : ((order.filterMap (es[·]?)).map (·.2)).length = order.length := by
      rw [List.length_map]
      have : ∀ (l : List Nat), (∀ j ∈ l, j < es.size) → (l.filterMap (es[·]?)).length = l.length := by
        intro l
        induction l with
        | nil => intro _; rfl
        | cons x l ih =>
          intro h
          have hx : x < es.size := h x List.mem_cons_self
          rw [List.filterMap_cons_some (b := es[x]) (by simp [hx]), List.length_cons, List.length_cons, ih fun j hj => h j (List.mem_cons_of_mem _ hj)]
      exact this order hmem
    refine ⟨[I, a, tp], fun i h => h.get? I = some (siObj (.ref tp) i (.ref a) es.size ep) ∧ h.get? a = some (setObj es ep t) ∧ h.get? tp = some ot, fun A hh => ⟨?_, ?_, ?_, ?_, ?_⟩, ⟨hit, ho, hot⟩, ?_, by simp, hlo⟩
    · intro b hb; simp at hb; simp [hb]
    · intro i h h' st hk; exact ⟨hk I (by simp) _ st.1, hk a (by simp) _ st.2.1, hk tp (by simp) _ st.2.2⟩
    · intro i s Q E hi st hQ
      rw [hl2] at hi
      have hj : order[i] < es.size := hmem _ (List.getElem_mem hi)
      refine nextD_of (j := order[i]) (tk := 0) (hv := es[order[i]].1) (v := es[order[i]].2) st.1 st.2.1 hf rfl st.2.2 hpd (by simp [hi, rawInt]) (by simp [hj]) fun h' e' sb => ?_
      refine hQ _ h' s.toks ?_ ⟨e', (sb.2 a hne).trans st.2.1, (sb.2 tp hnt).trans st.2.2⟩ fun b o hb e => (sb.2 b (by simpa using hb)).trans e
      rw [hfm order hmem, List.getElem?_eq_getElem hi]
      simp [hj]
    · intro s Q E st hQ
      rw [hl2] at st
      exact nextD_end hh st.1 st.2.1 hf rfl st.2.2 hpd (by simp) fun h' eb => hQ h' s.toks fun b o hb e => eb b o (by simpa using hb) e
    · intro i s Q E st hQ
      exact si_self st.1 hQ
    · intro b hb
      simp only [List.mem_cons, List.not_mem_nil, or_false] at hb
      rcases hb with rfl | rfl | rfl
      · exact ⟨lt_of_get hit, .inr hlo⟩
      · exact ⟨lt_of_get ho, .inl rfl⟩
      · exact ⟨lt_of_get hot, .inr hlt⟩
end
end L3

set_option Elab.async false
set_option linter.all false
set_option maxRecDepth 100000
set_option maxHeartbeats 4000000
/-! sorted(set(xs)) of a list of ints -/
namespace L3
open PySem PyProof.Rows

section
variable {prog : Program} {w : World} {A : Around} {E : Value → Shared → Prop} {s : Shared} {a : Addr} {es : Array (Int × Value)} {ep : Nat} {t : SetTable} {L : Bool}

theorem drawn_ok {Q : Bool → Shared → Prop} (ho : s.heap.get? a = some (setObj es ep t)) (hf : t.fits es.size = true) (h : Q (!w.params.followText "set-order" && (!t.plain && decide (es.size > 1))) s) : wpAny (model prog w) A (setDrawn a) Q E s := by
  unfold setDrawn
  refine wpAny_bind (state_ok ho hf ?_)
  dsimp only
  exact wpAny_bind (byText_ok (wpAny_pure h))
theorem epoch_ok {Q : Nat → Shared → Prop} (ho : s.heap.get? a = some (setObj es ep t)) (hf : t.fits es.size = true) (h : Q ep s) : wpAny (model prog w) A (setEpoch a) Q E s := by
  unfold setEpoch
  exact wpAny_bind (state_ok ho hf (wpAny_pure h))

/-- iter(a set) -/
theorem iter_set {Q : Value → Shared → Prop} (tb : TabOk L t es.size) (hL : L = !w.params.followText "set-order") (hz : es.size ≤ sizeLine) (ho : s.heap.get? a = some (setObj es ep t))
    (hQ : ∀ I h' d vs, (∀ b o, s.heap.get? b = some o → h'.get? b = some o) → vs.Perm (es.toList.map (·.2)) → SetWalk prog w I a s.heap.objs.size vs { s with heap := h', drawn := d } → Q (.ref I) { s with heap := h', drawn := d }) :
    wpAny (model prog w) A (pyIter (.ref a)) Q E s := by
  have hT : s.TypeIs (.ref a) "set" := ⟨_, ho, rfl⟩
  have halt : a < s.heap.objs.size := Heap.lt_size ho
  refine wpAny_pyIter_slot hT PySem.F.slot_set_iter (wpAny_call_entry PySem.F.slot_set_iter hT entry_set_iter ?_ (PySem.F.args_set_iter_1 _))
  unfold Builtin.«frozenset.__iter__» Builtin.Frozenset.slot0 slotArgs
  simp only [List.isEmpty_nil, Bool.not_true, Bool.false_eq_true, ↓reduceIte, bind_assoc, List.length_nil, bne_self_eq_false]
  unfold Builtin.Frozenset.addrOf Builtin.Frozenset.sizeOf
  refine wpAny_bind (wpAny_pure ?_)
  try dsimp only
  refine wpAny_bind (wpAny_pure ?_)
  refine wpAny_bind (wpAny_bind (entries_ok ho tb.fits (wpAny_pure ?_)))
  refine wpAny_bind (drawn_ok ho tb.fits ?_)
  by_cases hd : (!w.params.followText "set-order" && (!t.plain && decide (es.size > 1))) = true
  · rw [hd, if_pos rfl]
    refine wpAny_bind (drawOrder_ok es.size (List.range es.size) s _ (by simp) fun order d hp => ?_)
    have hol : order.length = es.size := by rw [hp.length_eq, List.length_range]
    refine wpAny_bind (wpAny_newTuple ?_ (by simp only [List.length_map]; omega))
    have hk1 : ∀ b o, s.heap.get? b = some o → (s.heap.push (seqObj "tuple" (order.map fun (i : Nat) => rawInt i).toArray 0)).get? b = some o := fun b o e => Heap.get?_push_of_some _ e
    refine wpAny_bind (epoch_ok (hk1 _ _ ho) tb.fits ?_)
    refine wpAny_bind (wpAny_newObj_type (wpAny_pure ⟨_, rfl, "set_iterator", _, ⟨_, Heap.get?_push_size _ rfl, rfl⟩, slot_si_next.lookup, ?_⟩))
    have hsz : (s.heap.push (seqObj "tuple" (order.map fun (i : Nat) => rawInt i).toArray 0)).objs.size = s.heap.objs.size + 1 := Heap.size_push ..
    refine hQ _ _ d ((order.filterMap (es[·]?)).map (·.2)) (fun b o e => Heap.get?_push_of_some _ (hk1 b o e)) ?_ (walk_drawn (ep := ep) (lo := s.heap.objs.size) (tp := s.heap.objs.size) (ot := seqObj "tuple" (order.map fun (i : Nat) => rawInt i).toArray 0) (kk := 0) (order := order) ?_ (Nat.le_refl _) tb.fits hp ?_ ?_ ?_ ?_ ?_ rfl)
    · refine List.Perm.map _ ((hp.filterMap _).trans (by rw [filterMap_getElem?_range]))
    · show s.heap.objs.size ≤ (s.heap.push (seqObj "tuple" (order.map fun (i : Nat) => rawInt i).toArray 0)).objs.size
      rw [hsz]; exact Nat.le_succ _
    · show a ≠ (s.heap.push (seqObj "tuple" (order.map fun (i : Nat) => rawInt i).toArray 0)).objs.size
      rw [hsz]; exact Nat.ne_of_lt (Nat.lt_succ_of_lt halt)
    · show s.heap.objs.size ≠ (s.heap.push (seqObj "tuple" (order.map fun (i : Nat) => rawInt i).toArray 0)).objs.size
      rw [hsz]; exact Nat.ne_of_lt (Nat.lt_succ_self _)
    · exact Heap.get?_push_size _ rfl
    · exact Heap.get?_push_of_some _ (hk1 _ _ ho)
    · exact Heap.get?_push_of_some _ (Heap.get?_push_size _ rfl)
  · have hd' : (!w.params.followText "set-order" && (!t.plain && decide (es.size > 1))) = false := by simpa using hd
    rw [hd', if_neg Bool.false_ne_true]
    refine wpAny_bind (wpAny_pure ?_)
    refine wpAny_bind (epoch_ok ho tb.fits ?_)
    refine wpAny_bind (wpAny_newObj_type (wpAny_pure ⟨_, rfl, "set_iterator", _, ⟨_, Heap.get?_push_size _ rfl, rfl⟩, slot_si_next.lookup, ?_⟩))
    cases hx : w.params.followText "set-order" with
    | true =>
      refine hQ _ _ s.drawn ((pickOrder (w.params.setOrder a ep) es).toList.map (·.2)) (fun b o e => Heap.get?_push_of_some _ e) ((pick_perm _ es).map _) (walk_text (t := t) (Nat.le_refl _) hx tb.fits (Nat.ne_of_lt halt) ?_ (Heap.get?_push_of_some _ ho))
      exact Heap.get?_push_size _ rfl
    | false =>
      rw [hx] at hd' hL
      refine hQ _ _ s.drawn (es.toList.map (·.2)) (fun b o e => Heap.get?_push_of_some _ e) (List.Perm.refl _) (walk_place (t := t) (Nat.le_refl _) hx tb hL (by simpa using hd') (Nat.ne_of_lt halt) ?_ (Heap.get?_push_of_some _ ho))
      exact Heap.get?_push_size _ rfl

theorem hint_set {Q : Bool → Shared → Prop} {r : Addr} (hT : s.TypeIs (.ref r) "set") (h : Q false s) : wpAny (model prog w) A (Builtin.List.listLengthHint (.ref r)) Q E s := by
  unfold Builtin.List.listLengthHint
  refine wpAny_bind (wpAny_specialOf hT PySem.F.slot_set_len.lookup ?_)
  generalize hid : ("set.__len__" : String) = id0
  wp_delta
  rw [show splitId id0 = some ("set", "__len__") from by subst hid; decide +kernel]
  subst hid
  refine wpAny_bind (wpAny_isInstance (T := "set") (b := true) hT (by rw [isSubtype_type]; kernel_rfl) ?_)
  refine wpAny_ite_split (fun hab => absurd hab (by decide)) (fun _ => ?_)
  refine wpAny_ite_split (fun _ => ?_) (fun hab => absurd (by decide +kernel) hab)
  refine wpAny_bind (wpAny_typeOf hT ?_)
  exact wpAny_pure h

/-- list of a set's members, as the built-ins collect them -/
theorem collect_set {Q : List Value → Shared → Prop} (hh : A.handled = none) (tb : TabOk L t es.size) (hL : L = !w.params.followText "set-order") (hz : es.size ≤ sizeLine) (ho : s.heap.get? a = some (setObj es ep t))
    (hQ : ∀ h' d tk vs, (∀ b o, s.heap.get? b = some o → h'.get? b = some o) → s.heap.objs.size < h'.objs.size → vs.Perm (es.toList.map (·.2)) → Q vs { s with heap := h', drawn := d, toks := tk }) :
    wpAny (model prog w) A (collect (.ref a)) Q E s := by
  have halt : a < s.heap.objs.size := Heap.lt_size ho
  unfold collect
  refine wpAny_bind (wpAny_runValue (codeAny_builtin PySem.F.entry_proto_collect ?_))
  rw [Around.under_plainId PySem.F.plain_proto_collect _]
  show wpAny _ A.in1 (newList [] >>= fun l => again (.builtin "list.__iadd__" ⟨[l, .ref a], []⟩)) _ _ s
  refine wpAny_bind (wpAny_newObj_type ?_)
  refine wpAny_pure ⟨plainId_quiet PySem.F.plain_list_iadd _, codeAny_builtin PySem.F.entry_list_iadd ?_⟩
  rw [Around.under_plainId PySem.F.plain_list_iadd _]
  have ho1 : (s.heap.push (seqObj "list" #[] 0)).get? a = some (setObj es ep t) := Heap.get?_push_of_some _ ho
  show wpAny _ A.in1 (Builtin.List.listExtendWith (.ref s.heap.objs.size) (.ref a) (.ref s.heap.objs.size)) _ _ { s with heap := s.heap.push (seqObj "list" #[] 0) }
  unfold Builtin.List.listExtendWith
  refine wpAny_bind (wpAny_typeOf (T := "set") ⟨_, ho1, rfl⟩ ?_)
  have h1 : Builtin.List.listSameRef (.ref s.heap.objs.size) (.ref a) = false := by
    simp only [Builtin.List.listSameRef, beq_eq_false_iff_ne, ne_eq]
    exact Nat.ne_of_gt halt
  have h2 : (Value.type "set" == Value.type "list") = false := by decide
  have h3 : (Value.type "set" == Value.type "tuple") = false := by decide
  simp only [h1, h2, h3, Bool.or_false, Bool.false_eq_true, if_false]
  refine wpAny_bind (iter_set (s := { s with heap := s.heap.push (seqObj "list" #[] 0) }) tb hL hz ho1 fun I h2 d vs hk hp hw => ?_)
  refine wpAny_bind (wpAny_holding (hint_set ⟨_, hk _ _ ho1, rfl⟩ ?_))
  obtain ⟨fp, St, W, st0, hfp, hI, hlo⟩ := hw.ex
  have hS2 : h2.get? s.heap.objs.size = some (seqObj "list" #[] 0) := hk _ _ (Heap.get?_push_size _ rfl)
  have hsz1 : (s.heap.push (seqObj "list" #[] 0)).objs.size = s.heap.objs.size + 1 := Heap.size_push ..
  have hSfp : s.heap.objs.size ∉ fp := fun hm => by
    rcases (hfp _ hm).2 with z | z
    · exact absurd halt (by rw [← z]; exact Nat.lt_irrefl _)
    · have z' : (s.heap.push (seqObj "list" #[] 0)).objs.size ≤ s.heap.objs.size := z
      rw [hsz1] at z'
      exact absurd z' (Nat.not_le.mpr (Nat.lt_succ_self _))
  have hvn : vs.length = es.size := by rw [hp.length_eq]; simp
  have st0' : St 0 h2 := st0
  have WA := W A.in1 (by simpa using hh)
  refine wpAny_ite_split (fun _ => ?_) (fun hab => absurd (by decide +kernel) hab)
  refine wpAny_bind (wpAny_rule ?_)
  refine wpAny_bind ?_
  show wpAny _ A.in1 (updateSeq s.heap.objs.size (·.push .none) >>= fun _ => updateSeq s.heap.objs.size (·.pop)) _ _ _
  refine wpAny_bind (wpAny_updateSeq hS2 rfl ?_)
  have hS3 := Heap.get?_update_self (Obj.mapSeq (·.push Value.none)) hS2 rfl
  refine wpAny_updateSeq hS3 rfl ?_
  have hS4 := Heap.get?_update_self (Obj.mapSeq (·.pop)) hS3 rfl
  have oth : ∀ b o, b ≠ s.heap.objs.size → h2.get? b = some o → ((h2.update s.heap.objs.size (Obj.mapSeq (·.push Value.none))).update s.heap.objs.size (Obj.mapSeq (·.pop))).get? b = some o :=
    fun b o hb e => (Heap.get?_update_other _ _ (Ne.symm hb)).trans ((Heap.get?_update_other _ _ (Ne.symm hb)).trans e)
  refine wpAny_pure ⟨plainId_quiet PySem.F.plain_extend_loop _, codeAny_extend_loopS (WA.toS) (by rw [hvn]; exact hz) _ hSfp _ vs.length 0 _ _ _ rfl (Nat.zero_le _)
    (WA.frame 0 h2 _ st0' fun b hb o e => oth b o (fun z => hSfp (z ▸ hb)) e) hS4 (ItemsOf.nil _) fun s' acc' c' hm hS' hacc => ?_⟩
  show wpAny _ A (load s.heap.objs.size >>= _) _ _ s'
  refine wpAny_bind (wpAny_load hS' ?_)
  have hvs : acc'.toList = vs := by
    apply List.ext_getElem?
    intro i
    by_cases hi : i < acc'.size
    · have := hacc.2 i acc'[i] (by simp [hi])
      rw [this]; simp [hi]
    · have h1 : acc'.toList[i]? = none := by simp; omega
      have h2 : vs[i]? = none := by
        have := hacc.1
        simp; omega
      rw [h1, h2]
  obtain ⟨hh', gg, dd, tt, oo⟩ := s'
  have e1 : gg = s.gens := hm.gens
  have e2 : dd = d := hm.drawn
  have e3 : oo = s.os := hm.os
  subst e1 e2 e3
  refine wpAny_pure ?_
  rw [hvs]
  refine hQ hh' _ tt vs (fun b o e => ?_) (Heap.lt_size hS') hp
  have hbs : b ≠ s.heap.objs.size := Nat.ne_of_lt (Heap.lt_size e)
  have hbI : b ∉ [s.heap.objs.size, I] := by
    intro z
    simp only [List.mem_cons, List.not_mem_nil, or_false] at z
    rcases z with z | z
    · exact hbs z
    · subst z
      have q' : (s.heap.push (seqObj "list" #[] 0)).objs.size ≤ b := hlo
      rw [hsz1] at q'
      exact absurd (Heap.lt_size e) (Nat.not_lt.mpr (Nat.le_of_succ_le q'))
  exact hm.heap b o hbI (oth b o hbs (hk b o (Heap.get?_push_of_some _ e)))

theorem ints_perm {vs vs' : List Value} (p : vs'.Perm vs) : ∀ {ns : List Int}, IntsAre vs ns → ∃ ns', ns'.Perm ns ∧ IntsAre vs' ns' := by
  induction p with
  | nil => intro ns h; cases h; exact ⟨[], .nil, .nil⟩
  | cons x _ ih =>
    intro ns h
    cases h with
    | cons n t h =>
      obtain ⟨ms, p, q⟩ := ih h
      exact ⟨n :: ms, p.cons n, .cons n t q⟩
  | swap x y l =>
    intro ns h
    cases h with
    | cons n t h =>
      cases h with
      | cons m u h => exact ⟨m :: n :: _, List.Perm.swap .., .cons m u (.cons n t h)⟩
  | trans _ _ ih1 ih2 =>
    intro ns h
    obtain ⟨ms, p, q⟩ := ih2 h
    obtain ⟨ks, p', q'⟩ := ih1 q
    exact ⟨ks, p'.trans p, q'⟩

/-- sorted(a set of ints) -/
theorem sorted_set {Q : Value → Shared → Prop} {ns : List Int} (hh : A.handled = none) (tb : TabOk L t es.size) (hL : L = !w.params.followText "set-order") (ho : s.heap.get? a = some (setObj es ep t))
    (hI : IntsAre (es.toList.map (·.2)) ns) (h64 : es.size < 64)
    (h : ∀ (l : Addr) (h' : Heap) (d : Drawn) (tk : Nat) (out : Array Value) (ns' : List Int) (n : Nat), (∀ b o, s.heap.get? b = some o → h'.get? b = some o) → s.heap.objs.size ≤ l → h'.get? l = some (seqObj "list" out n) →
      IntsAre out.toList ns' → ns'.Perm ns → ns'.Pairwise (· ≤ ·) → Q (.ref l) { s with heap := h', drawn := d, toks := tk }) :
    wpAny (model prog w) A (call (.builtin "sorted") [.ref a]) Q E s := by
  refine Calls.call_function_entry kind_sorted plain_sorted entry_sorted (args_sorted1 _) ?_
  unfold Builtin.«sorted»
  refine wpAny_bind (m := checkCount "sorted" 1 1 _) (wpAny_pure ?_)
  refine wpAny_bind (collect_set (A := A.in1) (by simpa using hh) tb hL (by rw [sizeLine_eq]; omega) ho fun h1 d tk vs hk hsz hp => ?_)
  have hvl : vs.length = es.size := by rw [hp.length_eq]; simp
  obtain ⟨ns1, p1, hI1⟩ := ints_perm hp hI
  refine wpAny_bind (wpAny_newList ?_ (by rw [sizeLine_eq]; omega))
  have hoL : (h1.push (seqObj "list" vs.toArray 0)).get? h1.objs.size = some (seqObj "list" vs.toArray 0) := Heap.get?_push_size _ rfl
  refine wpAny_bind (wpAny_holding (wpAny_call_entry slot_list_sort ⟨_, hoL, rfl⟩ entry_list_sort (list_sort_tree hoL hI1 (by omega) fun out ns' a1 a2 a3 => ⟨_, rfl, ?_⟩) (args_list_sort _)))
  refine wpAny_pure ⟨_, rfl, ?_⟩
  obtain ⟨e, he⟩ := sortedHeap_at (out := out) hoL
  refine h h1.objs.size _ d tk out ns' e (fun b o eb => ?_) ?_ he a1 (a2.trans p1) a3
  · have hlt : b < h1.objs.size := Heap.lt_size (hk b o eb)
    show (sortedHeap (h1.push (seqObj "list" vs.toArray 0)) h1.objs.size vs out).get? b = some o
    rw [sortedHeap_old (Nat.ne_of_lt hlt) (by rw [size_push']; exact Nat.lt_succ_of_lt hlt)]
    exact Heap.get?_push_of_some _ (hk b o eb)
  · exact Nat.le_of_lt hsz

/-! ### set(xs) -/
/-- a set of ints, whose table only took things in -/
def SetI (prog : Program) (w : World) (h : Heap) (a : Addr) (L : Bool) (ns : List Int) : Prop :=
  ∃ es ep t, h.get? a = some (setObj es ep t) ∧ ElemsOf (intKind prog w) es.toList ∧ IntsAre (es.toList.map (·.2)) ns ∧ ns.Nodup ∧ TabOk L t es.size

theorem ints_mem {vs : List Value} {ns : List Int} (h : IntsAre vs ns) (k : Int) : (∃ v ∈ vs, Value.isInt k v = true) ↔ k ∈ ns := by
  induction h with
  | nil => simp
  | cons n t _ ih =>
    simp only [List.mem_cons, exists_eq_or_imp]
    rw [ih]
    have : Value.isInt k (.int n t) = true ↔ k = n := by
      simp only [Value.isInt, beq_iff_eq]
      exact eq_comm
    rw [this]
theorem ints_append : ∀ {vs us : List Value} {ns ms : List Int}, IntsAre vs ns → IntsAre us ms → IntsAre (vs ++ us) (ns ++ ms)
  | _, _, _, _, .nil, h => h
  | _, _, _, _, .cons n t h, q => .cons n t (ints_append h q)
theorem ints_len {vs : List Value} {ns : List Int} (h : IntsAre vs ns) : vs.length = ns.length := by
  induction h with
  | nil => rfl
  | cons _ _ _ ih => simp [ih]
theorem SetI.size {h : Heap} {ns : List Int} (x : SetI prog w h a L ns) : ∃ es ep t, h.get? a = some (setObj es ep t) ∧ TabOk L t es.size ∧ IntsAre (es.toList.map (·.2)) ns ∧ es.size = ns.length := by
  obtain ⟨es, ep, t, ho, _, hI, _, tb⟩ := x
  exact ⟨es, ep, t, ho, tb, hI, by have := ints_len hI; simpa using this⟩
theorem putSet_obj (es es' : Array (Int × Value)) (ep : Nat) (t t' : SetTable) : Obj.putSet es' t' (setObj es ep t) = setObj es' (ep + 1) t' := putSet_of es' t' rfl

/-- one more int -/
theorem add_int {Q : Bool → Shared → Prop} {ns : List Int} {k : Int} {tk : Tok} (hS : SetI prog w s.heap a L ns) (hroom : ns.length + 1 < scanBound)
    (h : ∀ h' ns' b, Heap.SameBut a s.heap h' → SetI prog w h' a L ns' → ns'.length ≤ ns.length + 1 → (∀ j, j ∈ ns' ↔ j ∈ ns ∨ j = k) → Q b { s with heap := h' }) :
    wpAny (model prog w) A (setAddHashed a (.int k tk) ((intKind prog w).hash k)) Q E s := by
  obtain ⟨es, ep, t, ho, hel, hI, hnd, tb⟩ := hS
  have hlen : es.size = ns.length := by have := ints_len hI; simpa using this
  have hb : es.size < scanBound := by omega
  have hkey : (intKind prog w).is k (.int k tk) = true := intKind_is prog w k tk
  unfold setAddHashed setAddHashedIn
  refine wpAny_holding (wpAny_bind (state_ok ho tb.fits ?_))
  dsimp only
  rw [byScan_of (knd := intKind prog w) rfl hb hel]
  simp only [↓reduceIte]
  unfold setAddByScan
  refine wpAny_bind ?_
  refine wpAny_bind (wpAny_rule ?_)
  refine wpAny_bind (wpAny_setScan_of hkey ho rfl tb.fits hel ?_)
  have hmem : ∀ j, (∃ e ∈ es.toList, Value.isInt j e.2 = true) ↔ j ∈ ns := fun j => by
    rw [← ints_mem hI j]
    constructor
    · rintro ⟨e, he, q⟩; exact ⟨e.2, List.mem_map.mpr ⟨e, he, rfl⟩, q⟩
    · rintro ⟨v, hv, q⟩
      obtain ⟨e, he, rfl⟩ := List.mem_map.mp hv
      exact ⟨e, he, q⟩
  cases hr : List.findIdx? (fun e => (intKind prog w).is k e.2) es.toList with
  | some j =>
    dsimp only
    obtain ⟨hj, hpj, _⟩ := List.findIdx?_eq_some_iff_getElem.mp hr
    have hin : k ∈ ns := (hmem k).mp ⟨es.toList[j], List.getElem_mem hj, hpj⟩
    refine wpAny_pure (wpAny_pure ?_)
    exact h s.heap ns _ (Heap.SameBut.refl a s.heap) ⟨es, ep, t, ho, hel, hI, hnd, tb⟩ (by omega) fun j => ⟨fun z => .inl z, fun z => z.elim id fun e => e ▸ hin⟩
  | none =>
    dsimp only
    have hnin : k ∉ ns := fun z => by
      obtain ⟨e, he, q⟩ := (hmem k).mpr z
      have := List.findIdx?_eq_none_iff.mp hr e he
      rw [show (intKind prog w).is k e.2 = true from q] at this
      exact Bool.noConfusion this
    have hperm := layNew_perm t es ((intKind prog w).hash k) (.int k tk)
    have htab := tb.layNew (h := (intKind prog w).hash k) (x := .int k tk)
    generalize hLn : layNew t es ((intKind prog w).hash k) (.int k tk) = Ln at hperm htab ⊢
    obtain ⟨es1, t1, wasDummy, gave⟩ := Ln
    dsimp only at hperm htab ⊢
    rw [Array.toList_push] at hperm
    have hel1 : ElemsOf (intKind prog w) es1.toList := (hel.push hkey rfl).perm hperm
    obtain ⟨ns1, pn1, hI1⟩ := ints_perm (hperm.map (·.2)) (show IntsAre ((es.toList ++ [((intKind prog w).hash k, Value.int k tk)]).map (·.2)) (ns ++ [k]) from by
      rw [List.map_append]; exact ints_append hI (.cons k tk .nil))
    have hsz1 : es1.size = ns.length + 1 := by
      have := ints_len hI1
      rw [pn1.length_eq] at this
      simpa using this
    have hnd1 : ns1.Nodup := pn1.nodup_iff.mpr (List.nodup_append.mpr ⟨hnd, by simp, fun x hx y hy e => by
      simp at hy; subst hy; subst e; exact hnin hx⟩)
    have hm1 : ∀ j, j ∈ ns1 ↔ j ∈ ns ∨ j = k := fun j => by rw [pn1.mem_iff]; simp
    have hz1 : es1.size ≤ sizeLine := by rw [hsz1, sizeLine_eq]; have : scanBound = 4096 := rfl; omega
    -- the end, from a set as it was stored
    have fin : ∀ (h' : Heap) (es2 : Array (Int × Value)) (ep2 : Nat) (t2 : SetTable), Heap.SameBut a s.heap h' → h'.get? a = some (setObj es2 ep2 t2) → es2.toList.Perm es1.toList → TabOk L t2 es2.size → Q true { s with heap := h' } := fun h' es2 ep2 t2 sb ho2 p2 tb2 => by
      obtain ⟨ns2, pn2, hI2⟩ := ints_perm (p2.map (·.2)) hI1
      exact h h' ns2 true sb ⟨es2, ep2, t2, ho2, hel1.perm p2, hI2, pn2.nodup_iff.mpr hnd1, tb2⟩ (by rw [pn2.length_eq, pn1.length_eq]; simp) fun j => by rw [pn2.mem_iff]; exact hm1 j
    have gw : ∀ {s₁ : Shared} {Q' : Unit → Shared → Prop}, Q' () s₁ → wpAny (model prog w) A (match gave with | true => rule "set.scan.the-table-gave-way" | false => pure ()) Q' E s₁ :=
      fun {s₁ Q'} hq => by cases gave <;> first | exact wpAny_pure hq | exact wpAny_rule hq
    refine wpAny_bind (gw ?_)
    have tail : ∀ (t2 : SetTable), TabOk L t2 es1.size → wpAny (model prog w) A (do
        storeSet a es1 t2
        if (!wasDummy && t2.tooFull) = true then do
            (match (relayAll t2 es1 (SetTable.grown es1.size)).2.2 with | true => rule "set.scan.the-table-gave-way" | false => pure ())
            storeSet a (relayAll t2 es1 (SetTable.grown es1.size)).1 (relayAll t2 es1 (SetTable.grown es1.size)).2.1
            pure (some true)
          else pure (some true)) (fun r s' => r = some true ∧ Q true s') E s := fun t2 tb2 => by
      refine wpAny_bind (wpAny_storeSet_of ho rfl ?_ hz1)
      have ho1 : (s.heap.update a (Obj.putSet es1 t2)).get? a = some (setObj es1 (ep + 1) t2) := by
        have := Heap.get?_update_self (Obj.putSet es1 t2) ho (by rw [putSet_obj]; rfl)
        rw [putSet_obj] at this; exact this
      have sb1 := Heap.SameBut.update s.heap a (Obj.putSet es1 t2)
      split
      · have hp := relayAll_perm t2 es1 (SetTable.grown es1.size)
        have htr := TabOk.relayAll (es := es1) (wanted := SetTable.grown es1.size) tb2.led
        generalize relayAll t2 es1 (SetTable.grown es1.size) = Rl at hp htr ⊢
        obtain ⟨es2, t3, gave2⟩ := Rl
        dsimp only at hp htr ⊢
        have hsz2 : es2.size = es1.size := by rw [← Array.length_toList, hp.length_eq, Array.length_toList]
        have gw2 : ∀ {s₁ : Shared} {Q' : Unit → Shared → Prop}, Q' () s₁ → wpAny (model prog w) A (match gave2 with | true => rule "set.scan.the-table-gave-way" | false => pure ()) Q' E s₁ :=
          fun {s₁ Q'} hq => by cases gave2 <;> first | exact wpAny_pure hq | exact wpAny_rule hq
        refine wpAny_bind (gw2 ?_)
        refine wpAny_bind (wpAny_storeSet_of ho1 rfl ?_ (by rw [hsz2]; exact hz1))
        have ho2 : ((s.heap.update a (Obj.putSet es1 t2)).update a (Obj.putSet es2 t3)).get? a = some (setObj es2 (ep + 1 + 1) t3) := by
          have := Heap.get?_update_self (Obj.putSet es2 t3) ho1 (by rw [putSet_obj]; rfl)
          rw [putSet_obj] at this; exact this
        exact wpAny_pure ⟨rfl, fin _ es2 _ t3 (sb1.trans (Heap.SameBut.update _ a _)) ho2 hp htr⟩
      · exact wpAny_pure ⟨rfl, fin _ es1 _ t2 sb1 ho1 (List.Perm.refl _) tb2⟩
    split
    · refine wpAny_bind ?_
      rw [hashByValue_scannable 8 rfl]
      refine wpAny_pure ?_
      simp only [plainKind, ↓reduceIte]
      refine wpAny_mono (tail t1 htab) (fun r s' hr => ?_) fun _ _ e => e
      obtain ⟨rfl, q⟩ := hr
      exact wpAny_pure q
    · refine wpAny_bind (wpAny_pure ?_)
      simp only [↓reduceIte]
      refine wpAny_mono (tail t1 htab) (fun r s' hr => ?_) fun _ _ e => e
      obtain ⟨rfl, q⟩ := hr
      exact wpAny_pure q
end

section
variable {prog : Program} {w : World} {A : Around} {R : Result → Shared → Prop} {I : Addr} {fp wr : List Addr} {G : Array GenState → Array GenState → Prop} {n : Nat} {P : Nat → Value → Prop} {St : Nat → Shared → Prop} {L : Bool}
/-- what a walk tells is taken in, one by one -/
theorem take_in (W : WalksS prog w A.in1 I fp wr G n P St) (S : Addr) (hSf : S ∉ fp) (val : Nat → Int) (hval : ∀ i v, P i v → ∃ t, v = .int (val i) t) (hb : n + 1 < scanBound) :
    ∀ (k i : Nat) (s : Shared) (ns : List Int), n - i = k → i ≤ n → St i s → SetI prog w s.heap S L ns → ns.length ≤ i → (∀ j, j ∈ ns ↔ ∃ m, m < i ∧ j = val m) →
      (∀ s' ns', Moved (S :: wr) G s s' → SetI prog w s'.heap S L ns' → (∀ j, j ∈ ns' ↔ ∃ m, m < n ∧ j = val m) → R (.ok (.ret .none)) s') →
      codeAny (model prog w) A (.builtin "set.update.loop" ⟨[.ref S, .ref I], []⟩) R s := by
  have hSw : S ∉ wr := fun h => hSf (W.sub _ h)
  have hsub : ∀ b ∈ wr, b ∈ S :: wr := fun b hb => List.mem_cons_of_mem _ hb
  have keepS : ∀ {s s' : Shared} {ns : List Int}, Moved wr G s s' → SetI prog w s.heap S L ns → SetI prog w s'.heap S L ns := fun {s s' ns} hm ⟨es, ep, t, ho, r⟩ => ⟨es, ep, t, hm.heap S _ hSw ho, r⟩
  intro k
  induction k with
  | zero =>
    intro i s ns hk hi hst hS hln hmem hR
    have hin : i = n := by omega
    subst hin
    refine codeAny_builtin PyProof.Rows.F.entry_set_update_loop ?_
    rw [Around.under_plainId PyProof.Rows.F.plain_set_update_loop _]
    show wpAny _ A.in1 (pyNext (.ref I) >>= _) _ _ s
    refine wpAny_bind (W.done s _ _ hst fun s' hm => ?_)
    show wpAny _ A.in1 (ret Value.none) _ _ s'
    exact wpAny_pure (hR s' ns (hm.mono hsub) (keepS hm hS) hmem)
  | succ k ih =>
    intro i s ns hk hi hst hS hln hmem hR
    have hlt : i < n := by omega
    refine codeAny_builtin PyProof.Rows.F.entry_set_update_loop ?_
    rw [Around.under_plainId PyProof.Rows.F.plain_set_update_loop _]
    show wpAny _ A.in1 (pyNext (.ref I) >>= _) _ _ s
    refine wpAny_bind (W.item i s _ _ hlt hst fun v s' hP hst' hm => ?_)
    obtain ⟨t, rfl⟩ := hval i v hP
    show wpAny _ A.in1 (holding [Value.int (val i) t] (setAdd S (.int (val i) t)) >>= _) _ _ s'
    refine wpAny_bind (wpAny_holding ?_)
    unfold setAdd
    refine wpAny_holding ?_
    refine wpAny_bind ((intKind prog w).pyHash (k := val i) (intKind_is _ _ _ _) ?_)
    refine add_int (s := { s' with toks := s'.toks + 1 }) (show SetI prog w s'.heap S L ns from keepS hm hS) (by omega) fun h' ns' bb sb hS' hl' hm' => ?_
    refine wpAny_pure ⟨plainId_quiet PyProof.Rows.F.plain_set_update_loop _, ih (i + 1) _ ns' (by omega) hlt (W.frame _ s' _ _ hst' (Nat.le_succ _) fun b hb o e => ?_) hS' (by omega) (fun j => ?_) fun s'' ns'' hm'' hS'' hmem'' => ?_⟩
    · rw [sb.2 b (fun h : b = S => hSf (by rw [← h]; exact hb))]; exact e
    · rw [hm' j, hmem j]
      constructor
      · rintro (⟨m, h1, h2⟩ | h)
        · exact ⟨m, by omega, h2⟩
        · exact ⟨i, by omega, h⟩
      · rintro ⟨m, h1, h2⟩
        by_cases e : m = i
        · subst e; exact .inr h2
        · exact .inl ⟨m, by omega, h2⟩
    · refine hR s'' ns'' (Moved.trans W.gtrans ((hm.mono hsub).then_heap (Nat.le_succ _) fun b o hb e => ?_) hm'') hS'' hmem''
      rw [sb.2 b (fun h : b = S => hb (by rw [h]; exact List.mem_cons_self))]; exact e
end

section
variable {prog : Program} {w : World} {A : Around} {E : Value → Shared → Prop} {s : Shared}
theorem made_set (a : Value) {Q₁ : Value → Shared → Prop}
    (h : Q₁ (.ref s.heap.objs.size) { s with heap := s.heap.push (setObj #[] 0 (.fresh 0 0 (!w.params.followText "set-order"))) }) :
    codeAny (model prog w) A (.call (.builtin "set.__new__") ⟨[.type "set", a], []⟩) (wants Q₁ E) s := by
  refine codeAny_of_tree ?_
  show wpAny _ A.in1 (do checkBuiltinCall "set.__new__" ⟨[.type "set", a], []⟩; again (.builtin "set.__new__" ⟨[.type "set", a], []⟩)) _ _ s
  refine wpAny_bind (wpAny_of_eq (PySem.F.newCall_set_1 a) (wpAny_pure ⟨plainId_quiet PySem.F.plain_set_new _, codeAny_builtin PySem.F.entry_set_new ?_⟩))
  rw [Around.under_plainId PySem.F.plain_set_new _]
  unfold Builtin.«set.__new__» Builtin.Frozenset.newClass
  have hsub := sub_set_self
  obtain ⟨hp, g, d, tk, os⟩ := s
  dsimp only
  wp_walk
  refine wpAny_askSetting (wpAny_pure ?_)
  dsimp only
  simp only [newObj]
  refine wpAny_bind (wpAny_alloc (wpAny_pure ?_))
  exact wpAny_pure h

theorem SetI.fresh {h : Heap} {a : Addr} {L : Bool} (e : h.get? a = some (setObj #[] 0 (.fresh 0 0 L))) : SetI prog w h a L [] :=
  ⟨#[], 0, _, e, fun x hx => by simp at hx, by simpa using IntsAre.nil, List.nodup_nil, by simpa using TabOk.fresh L⟩

/-- set(a list of ints) -/
theorem set_list {l : Addr} {items : Array Value} {ns : List Int} {Q : Value → Shared → Prop} (hh : A.handled = none) (hl : s.heap.IsList l items) (hi : IntsAre items.toList ns) (hb : items.size + 1 < scanBound)
    (h : ∀ (h' : Heap) (tk : Nat) (ms : List Int), SetI prog w h' s.heap.objs.size (!w.params.followText "set-order") ms → (∀ j, j ∈ ms ↔ j ∈ ns) → (∀ b o, s.heap.get? b = some o → h'.get? b = some o) → Q (.ref s.heap.objs.size) { s with heap := h', toks := tk }) :
    wpAny (model prog w) A (call (.type "set") [.ref l]) Q E s := by
  obtain ⟨c, tl, hmro⟩ := PySem.F.called_set.mro
  have hmade := PySem.F.called_set.made
  have hsub := PySem.F.called_set.sub
  refine wpAny_call (codeAny_of_tree ?_)
  show wpAny _ _ (callAny (.type "set") _) _ _ _
  refine wpAny_pure ⟨Code.quiet_builtin _ (by decide +kernel), codeAny_builtin PySem.F.entry_type_call ?_⟩
  rw [Around.under_plain (weight_type_call_type "set" [.ref l] []) rfl]
  have h1 := PySem.F.called_set.notType
  have h2 := PySem.F.called_set.canCreate
  have hct := PySem.F.typeCall_set_1 (.ref l)
  repeat (any_goals (first | assumption | wp_step))
  refine codeAny_mono (made_set (.ref l) (E := E) (Q₁ := fun obj s₁ => obj = .ref s.heap.objs.size ∧ s₁ = { s with heap := s.heap.push (setObj #[] 0 (.fresh 0 0 (!w.params.followText "set-order"))) }) ⟨rfl, rfl⟩) fun r s₁ hr => ?_
  cases r with
  | error e => exact hr
  | ok fl =>
    cases fl with
    | ret obj =>
      obtain ⟨rfl, rfl⟩ := hr
      have hS : (s.heap.push (setObj #[] 0 (.fresh 0 0 (!w.params.followText "set-order")))).get? s.heap.objs.size = some (setObj #[] 0 (.fresh 0 0 (!w.params.followText "set-order"))) := Heap.get?_push_size _ rfl
      have hT : Shared.TypeIs { s with heap := s.heap.push (setObj #[] 0 (.fresh 0 0 (!w.params.followText "set-order"))) } (.ref s.heap.objs.size) "set" := ⟨_, hS, rfl⟩
      have hli := PySem.F.called_set.init.lookup
      have hbi := PySem.F.called_set.init.bind (.ref s.heap.objs.size)
      repeat (any_goals (first | assumption | wp_step))
      refine codeAny_mono (codeAny_call_builtin (R := wants (fun r s₂ => r = .none ∧ ∃ h' tk ms, s₂ = { s with heap := h', toks := tk } ∧ SetI prog w h' s.heap.objs.size (!w.params.followText "set-order") ms ∧ (∀ j, j ∈ ms ↔ j ∈ ns) ∧
          (∀ b o, s.heap.get? b = some o → h'.get? b = some o)) E) PySem.F.called_set.init.plain PySem.F.entry_set_init (check_set_init_1 hT ?_)) fun r₂ s₂ hr₂ => ?_
      · obtain ⟨ol, hol, hcl, nl, hdl⟩ := hl
        obtain ⟨ocls, odict, odata, oslots⟩ := ol
        simp only at hcl hdl
        subst hcl; subst hdl
        have hol' : (s.heap.push (setObj #[] 0 (.fresh 0 0 (!w.params.followText "set-order")))).get? l = some { cls := .type "list", dict := odict, data := .seq items nl, slots := oslots } := Heap.get?_push_of_some _ hol
        have hsls := PySem.F.sub_list_set
        have hslf := PySem.F.sub_list_frozenset
        have hne : (Value.type "list" == Value.type "dict") = false := by decide
        have hl1 : (s.heap.push (setObj #[] 0 (.fresh 0 0 (!w.params.followText "set-order")))).IsList l items := ⟨_, hol', rfl, nl, rfl⟩
        unfold Builtin.«set.__init__» noKeywords Builtin.Frozenset.updateFrom
        generalize hPI : pyIter = PI
        wp_walk
        subst hPI
        refine wpAny_pyIter_list hl1 ?_
        refine wpAny_bind (wpAny_runValue ?_)
        have hlS : l < s.heap.objs.size := Heap.lt_size hol
        have hh3 : A.in1.in1.in1.handled = none := by simp [hh]
        have hsz1 : (s.heap.push (setObj #[] 0 (.fresh 0 0 (!w.params.followText "set-order")))).objs.size = s.heap.objs.size + 1 := Heap.size_push ..
        have hneI : l ≠ (s.heap.push (setObj #[] 0 (.fresh 0 0 (!w.params.followText "set-order")))).objs.size := by
          rw [hsz1]; exact Nat.ne_of_lt (Nat.lt_succ_of_lt hlS)
        have hSf : s.heap.objs.size ∉ [(s.heap.push (setObj #[] 0 (.fresh 0 0 (!w.params.followText "set-order")))).objs.size, l] := by
          rw [hsz1]
          intro z
          simp only [List.mem_cons, List.not_mem_nil, or_false] at z
          rcases z with z | z
          · exact absurd z (Nat.ne_of_lt (Nat.lt_succ_self _))
          · exact absurd hlS (by rw [← z]; exact Nat.lt_irrefl _)
        have hval : ∀ (i : Nat) (v : Value), items[i]? = some v → ∃ t, v = .int ((fun i => ns.getD i 0) i) t := fun i v hv =>
          PyProof.Rows.IntsAre.int_at hi i v (by rw [Array.getElem?_toList]; exact hv)
        refine take_in ((Walks.list hh3 _ l hneI items).toS) s.heap.objs.size hSf (fun i => ns.getD i 0) hval hb (items.size - 0) 0 _ [] (by omega) (Nat.zero_le _)
          ⟨⟨_, Heap.get?_push_size _ rfl, rfl, rfl⟩, (hl1.push _)⟩ (SetI.fresh (Heap.get?_push_of_some _ hS)) (Nat.zero_le _) (fun j => by simp) ?hR
        intro s' ms hm hS' hms
        obtain ⟨h', g', d', tk', os'⟩ := s'
        have eg : g' = s.gens := hm.gens
        have ed : d' = s.drawn := hm.drawn
        have eo : os' = s.os := hm.os
        subst eg; subst ed; subst eo
        refine wpAny_pure ?_
        show wpAny _ _ (ret Value.none) _ _ _
        refine wpAny_pure ⟨rfl, h', tk', ms, rfl, hS', fun j => ?_, fun b o e => ?_⟩
        · rw [hms j]
          have hlen : items.size = ns.length := by have := ints_len hi; simpa using this
          constructor
          · rintro ⟨m, h1, rfl⟩
            rw [hlen] at h1
            simp [h1]
          · intro hj
            obtain ⟨m, hm1, rfl⟩ := List.mem_iff_getElem.mp hj
            exact ⟨m, by omega, by simp [hm1]⟩
        · have hb1 : b ≠ s.heap.objs.size := Nat.ne_of_lt (Heap.lt_size e)
          have hb2 : b ≠ (s.heap.push (setObj #[] 0 (.fresh 0 0 (!w.params.followText "set-order")))).objs.size := by
            rw [hsz1]; exact Nat.ne_of_lt (Nat.lt_succ_of_lt (Heap.lt_size e))
          refine hm.heap b o ?_ (Heap.get?_push_of_some _ (Heap.get?_push_of_some _ e))
          intro z
          simp only [List.mem_cons, List.not_mem_nil, or_false] at z
          exact z.elim hb1 hb2
      · cases r₂ with
        | error e => exact hr₂
        | ok fl₂ =>
          cases fl₂ with
          | ret r =>
            obtain ⟨rfl, h', tk, ms, rfl, hS', hj, hk'⟩ := hr₂
            repeat (any_goals (first | assumption | wp_step))
            exact h _ _ ms hS' hj hk'
          | _ => exact hr₂.elim
    | _ => exact hr.elim
end
end L3

set_option Elab.async false
set_option linter.all false
set_option maxRecDepth 100000
set_option maxHeartbeats 4000000
/-! LIST COMPREHENSIONS over the hand layer: one for, at most one if; free names and own cells. -/
namespace L3
open PySem PySem.Spec PyProof.Rows L2

/-! ### lookups -/
theorem lookup_mapk {α β : Type} (g : Str → α → β) (y : Str) : ∀ l : List (Str × α), (l.map fun p => (p.1, g p.1 p.2)).lookup y = (l.lookup y).map (g y)
  | [] => rfl
  | (n, k) :: r => by
    rw [List.map_cons, List.lookup_cons, List.lookup_cons]
    cases h : y == n with
    | true => have e : y = n := by simpa using h
              subst e; rfl
    | false => exact lookup_mapk g y r
def ownK (env : Env) (n : Str) (k : NameKind) : NameKind := if (k == .free && env.scope.kind == .function && env.kindOf n == some .cell) then .cell else k
theorem relabel_names (scope : Scope) (env : Env) : (relabel scope env).names = scope.names.map fun p => (p.1, ownK env p.1 p.2) := by
  unfold relabel
  show (scope.names.map _) = _
  congr 1
  funext p
  obtain ⟨n, k⟩ := p
  unfold ownK
  show (if _ then (n, NameKind.cell) else (n, k)) = (n, if _ then NameKind.cell else k)
  split <;> rfl
theorem relabel_lookup (scope : Scope) (env : Env) (y : Str) : (relabel scope env).names.lookup y = (scope.names.lookup y).map (ownK env y) := by
  rw [relabel_names]
  exact lookup_mapk (ownK env) y scope.names
theorem relabel_kind (scope : Scope) (env : Env) : (relabel scope env).kind = scope.kind := rfl
theorem mem_lookup {α : Type} : ∀ {l : List (Str × α)} {n : Str} {c : α}, (n, c) ∈ l → ∃ d, l.lookup n = some d
  | (k, v) :: r, n, c, h => by
    rw [List.lookup_cons]
    cases hb : n == k with
    | true => exact ⟨v, rfl⟩
    | false =>
      rcases List.mem_cons.mp h with e | h
      · cases e; simp at hb
      · exact mem_lookup h

/-! ### the closure -/
theorem closure_go (env : Env) : ∀ (names : List (Str × NameKind)) (acc : List (Str × Addr)), (∀ p ∈ names, p.2 = .free → ∃ c, env.cells.lookup p.1 = some c) →
    ∃ cl, (forIn names acc (fun (x : Str × NameKind) (r : List (Str × Addr)) => match x with
      | (name, kind) => if (kind == NameKind.free) = true then do let a ← cellOf env name; pure (ForInStep.yield ((name, a) :: r)) else pure (ForInStep.yield r)) : Sem (List (Str × Addr))) = pure cl ∧
      (∀ y c, (y, c) ∈ cl → (y, c) ∈ acc ∨ ((y, NameKind.free) ∈ names ∧ env.cells.lookup y = some c)) ∧ (∀ p ∈ acc, p ∈ cl) ∧ ∀ y, (y, NameKind.free) ∈ names → ∃ c, (y, c) ∈ cl
  | [], acc, _ => ⟨acc, by rw [List.forIn_nil], fun y c h => .inl h, fun _ h => h, fun y h => nomatch h⟩
  | (n, k) :: r, acc, h => by
    have hr : ∀ p ∈ r, p.2 = .free → ∃ c, env.cells.lookup p.1 = some c := fun p hp => h p (List.mem_cons_of_mem _ hp)
    rw [List.forIn_cons]
    by_cases hk : k = .free
    · subst hk
      obtain ⟨c, hc⟩ := h (n, .free) List.mem_cons_self rfl
      obtain ⟨cl, e, h1, h2, h3⟩ := closure_go env r ((n, c) :: acc) hr
      have hc' : env.cells.lookup n = some c := hc
      refine ⟨cl, ?_, fun y d hy => ?_, fun p hp => h2 p (List.mem_cons_of_mem _ hp), fun y hy => ?_⟩
      · simp only [beq_self_eq_true, if_true, cellOf, hc', pure_bind]
        exact e
      · rcases h1 y d hy with z | z
        · rcases List.mem_cons.mp z with z | z
          · cases z; exact .inr ⟨List.mem_cons_self, hc'⟩
          · exact .inl z
        · exact .inr ⟨List.mem_cons_of_mem _ z.1, z.2⟩
      · rcases List.mem_cons.mp hy with z | z
        · cases z; exact ⟨c, h2 _ List.mem_cons_self⟩
        · exact h3 y z
    · obtain ⟨cl, e, h1, h2, h3⟩ := closure_go env r acc hr
      have hb : (k == NameKind.free) = false := by simpa using hk
      refine ⟨cl, ?_, fun y d hy => ?_, h2, fun y hy => ?_⟩
      · simp only [hb, Bool.false_eq_true, if_false, pure_bind]
        exact e
      · rcases h1 y d hy with z | z
        · exact .inl z
        · exact .inr ⟨List.mem_cons_of_mem _ z.1, z.2⟩
      · rcases List.mem_cons.mp hy with z | z
        · cases z; exact absurd rfl hk
        · exact h3 y z
theorem closure_ok {scope : Scope} {env : Env} (h : ∀ p ∈ scope.names, p.2 = .free → ∃ c, env.cells.lookup p.1 = some c) :
    ∃ cl, closureFor scope env = pure cl ∧ (∀ y c, (y, c) ∈ cl → (y, NameKind.free) ∈ scope.names ∧ env.cells.lookup y = some c) ∧ ∀ y, (y, NameKind.free) ∈ scope.names → ∃ c, (y, c) ∈ cl := by
  obtain ⟨cl, e, h1, _, h3⟩ := closure_go env scope.names [] h
  refine ⟨cl, ?_, fun y c hy => (h1 y c hy).elim (fun z => nomatch z) id, h3⟩
  simp only [closureFor]
  rw [e]
  rfl

/-! ### own cells -/
theorem cellsFrom_app : ∀ (names : List (Str × NameKind)) (n : Nat) (acc : List (Str × Addr)), cellsFrom n names acc = cellsFrom n names [] ++ acc
  | [], _, _ => rfl
  | (name, kind) :: r, n, acc => by
    unfold cellsFrom
    split
    · rw [cellsFrom_app r (n + 1) ((name, n) :: acc), cellsFrom_app r (n + 1) [(name, n)], List.append_assoc]; rfl
    · exact cellsFrom_app r n acc
theorem cellsFrom_mem : ∀ {names : List (Str × NameKind)} {n : Nat} {acc : List (Str × Addr)} {y : Str} {c : Addr}, (y, c) ∈ cellsFrom n names acc → (y, c) ∈ acc ∨ (y, NameKind.cell) ∈ names
  | [], _, _, _, _, h => .inl h
  | (name, kind) :: r, n, acc, y, c, h => by
    unfold cellsFrom at h
    split at h
    · rename_i hk
      have hk' : kind = .cell := by simpa using hk
      subst hk'
      rcases cellsFrom_mem h with z | z
      · rcases List.mem_cons.mp z with z | z
        · cases z; exact .inr List.mem_cons_self
        · exact .inl z
      · exact .inr (List.mem_cons_of_mem _ z)
    · rcases cellsFrom_mem h with z | z
      · exact .inl z
      · exact .inr (List.mem_cons_of_mem _ z)

theorem new_block {M : Model} {A : Around} {E : Value → Shared → Prop} {s : Shared} {scope : Scope} {globals : Addr} {cl : List (Str × Addr)} {qual : Str} {env : Env} {Q : Env → Shared → Prop}
    (hQ : Q (newEnv scope s.heap.objs.size globals (cellsFrom (s.heap.objs.size + 1) scope.names cl) qual none .none (some env) builtinsNs)
      { s with heap := pushCells (s.heap.push { cls := .type "dict", data := .dict #[] }) scope.names }) :
    wpAny M A (newFunctionEnv scope globals cl [] qual none .none (some env)) Q E s := by
  simp only [newFunctionEnv, Option.isSome_some, if_true]
  refine wpAny_bind (wpAny_alloc ?_)
  refine wpAny_bind (wpAny_layCells _ (fun name kind cells => by cases hkc : kind == NameKind.cell <;> simp [hkc]) _ _ _ _ ?_)
  rw [show ({ s with heap := s.heap.push { cls := .type "dict", data := .dict #[] } } : Shared).heap.objs.size = s.heap.objs.size + 1 from Heap.size_push ..]
  rw [List.forIn_nil]
  exact wpAny_bind (wpAny_pure (wpAny_pure hQ))

/-! ### the block's context -/
def bEnv (scope : Scope) (cl : List (Str × Addr)) (n : Nat) (env : Env) : Env :=
  { scope := relabel scope env, locals := n + 1, globals := env.globals, cells := cellsFrom (n + 2) scope.names cl, qual := env.qual, func := none, code := env.code, frame := env.frame, builtins := env.builtins }
def blk (X : Cx) (scope : Scope) (cl : List (Str × Addr)) (fp : List Addr) (N : List Str) (s2 : Shared) (H2 : Hp) : Cx :=
  { X with N := N, s₀ := s2, H₀ := H2, env := bEnv scope cl s2.heap.objs.size X.env, outer := X.stack, ex := fp, fn := fun y => scope.names.lookup y == some .cell, xe := fun _ _ => False }
/-- what of the text a comprehension asks: N = x and the free names that are read, ix: their slots in the context around -/
def cOk (XN : List Str) (kd : Str → Option NameKind) (scope : Scope) (x : Str) (N : List Str) (ix : List Nat) : Bool :=
  (scope.names.all fun p => (p.2 != .local || scope.names.lookup p.1 == some .local) && (p.2 != .free || (kd p.1 == some .cell || kd p.1 == some .free)) && (scope.names.filter fun q => q.1 == p.1).length == 1) &&
  (scope.names.lookup x == some .local || scope.names.lookup x == some .cell) && decide N.Nodup && N.length == ix.length + 1 && N[0]? == some x &&
  ((List.range ix.length).all fun j => match N[j + 1]?, ix[j]? with | some y, some i => XN[i]? == some y && scope.names.lookup y == some .free | _, _ => false)
structure COk (X : Cx) (scope : Scope) (x : Str) (N : List Str) (ix : List Nat) : Prop where
  kind : scope.kind = .function
  nm : ∀ y ∈ scope.names, y.2 = .local → scope.names.lookup y.1 = some .local
  fr : ∀ y ∈ scope.names, y.2 = .free → X.env.kindOf y.1 = some .cell ∨ X.env.kindOf y.1 = some .free
  uq : ∀ y k, (y, k) ∈ scope.names → scope.names.lookup y = some k
  nx : scope.names.lookup x = some .local ∨ scope.names.lookup x = some .cell
  nd : N.Nodup
  len : N.length = ix.length + 1
  hx : N[0]? = some x
  hix : ∀ j y i, N[j + 1]? = some y → ix[j]? = some i → X.N[i]? = some y ∧ scope.names.lookup y = some .free
theorem uq_of {l : List (Str × NameKind)} {y : Str} {k : NameKind} (h : (l.filter fun q => q.1 == y).length = 1) (m : (y, k) ∈ l) : l.lookup y = some k := by
  induction l with
  | nil => cases m
  | cons p r ih =>
    obtain ⟨n, k'⟩ := p
    rw [List.lookup_cons]
    cases hb : y == n with
    | true =>
      have e : y = n := by simpa using hb
      subst e
      rcases List.mem_cons.mp m with z | z
      · cases z; rfl
      · rw [List.filter_cons] at h
        simp only [beq_self_eq_true, if_true, List.length_cons] at h
        have : (y, k) ∈ r.filter fun q => q.1 == y := List.mem_filter.mpr ⟨z, by simp⟩
        have h0 : (r.filter fun q => q.1 == y).length = 0 := by omega
        rw [List.length_eq_zero_iff.mp h0] at this
        cases this
    | false =>
      rcases List.mem_cons.mp m with z | z
      · cases z; simp at hb
      · refine ih ?_ z
        rw [List.filter_cons] at h
        have hb' : (n == y) = false := by
          cases q : n == y with
          | false => rfl
          | true => have e : n = y := by simpa using q
                    subst e; simp at hb
        simpa [hb'] using h
theorem COk.of {X : Cx} {scope : Scope} {x : Str} {N : List Str} {ix : List Nat} (hk : scope.kind = .function) (h : cOk X.N X.env.kindOf scope x N ix = true) : COk X scope x N ix := by
  unfold cOk at h
  simp only [Bool.and_eq_true, decide_eq_true_eq, beq_iff_eq, Bool.or_eq_true] at h
  obtain ⟨⟨⟨⟨⟨h1, h2⟩, h3⟩, h4⟩, h5⟩, h6⟩ := h
  have hall := List.all_eq_true.mp h1
  refine ⟨hk, fun y hy e => ?_, fun y hy e => ?_, fun y k hy => ?_, h2, h3, h4, h5, fun j y i e1 e2 => ?_⟩
  · have := hall y hy
    simp only [Bool.and_eq_true, Bool.or_eq_true, beq_iff_eq, bne_iff_ne, ne_eq] at this
    rcases this.1.1 with z | z
    · exact absurd e z
    · exact z
  · have := hall y hy
    simp only [Bool.and_eq_true, Bool.or_eq_true, beq_iff_eq, bne_iff_ne, ne_eq] at this
    rcases this.1.2 with z | z
    · exact absurd e z
    · exact z
  · have := hall (y, k) hy
    simp only [Bool.and_eq_true, Bool.or_eq_true, beq_iff_eq, bne_iff_ne, ne_eq] at this
    exact uq_of this.2 hy
  · have hj : j < ix.length := (List.getElem?_eq_some_iff.mp e2).1
    have := List.all_eq_true.mp h6 j (List.mem_range.mpr hj)
    rw [e1, e2] at this
    simpa using this

section
variable {X : Cx} {pins : List (Addr × Obj)} {σ : L2.St} {H2 : Hp} {s2 : Shared} {scope : Scope} {x : Str} {N : List Str} {ix : List Nat} {cl : List (Str × Addr)} {fp : List Addr}

/-- the block's names at its entry -/
def bSt (ix : List Nat) (σ : L2.St) (o : Option V) : L2.St := o :: ix.map fun j => (σ[j]?).join
theorem bSt_set (ix : List Nat) (σ : L2.St) (o : Option V) (v : V) : (bSt ix σ o).set 0 (some v) = bSt ix σ (some v) := rfl

structure ClOk (X : Cx) (scope : Scope) (cl : List (Str × Addr)) : Prop where
  of : ∀ y c, (y, c) ∈ cl → (y, NameKind.free) ∈ scope.names ∧ X.env.cells.lookup y = some c
  to : ∀ y, (y, NameKind.free) ∈ scope.names → ∃ c, (y, c) ∈ cl

theorem cells_get (C : COk X scope x N ix) (L : ClOk X scope cl) {n : Nat} {y : Str} {c : Addr} (e : (cellsFrom n scope.names cl).lookup y = some c) :
    ((y, c) ∈ cellsFrom n scope.names [] ∧ scope.names.lookup y = some .cell) ∨ (scope.names.lookup y = some .free ∧ X.env.cells.lookup y = some c) := by
  have hm := PySem.mem_of_lookup e
  rw [cellsFrom_app] at hm
  rcases List.mem_append.mp hm with z | z
  · refine .inl ⟨z, ?_⟩
    rcases cellsFrom_mem z with q | q
    · cases q
    · exact C.uq _ _ q
  · obtain ⟨a, b⟩ := L.of y c z
    exact .inr ⟨C.uq _ _ a, b⟩
theorem cells_free (C : COk X scope x N ix) (L : ClOk X scope cl) {n : Nat} {y : Str} (e : scope.names.lookup y = some .free) : ∃ c, (cellsFrom n scope.names cl).lookup y = some c ∧ X.env.cells.lookup y = some c := by
  obtain ⟨c, hc⟩ := L.to y (PySem.mem_of_lookup e)
  have hs : ((cellsFrom n scope.names cl).lookup y).isSome = true := PySem.W.cellsFrom_some _ _ _ (.inr (by
    obtain ⟨d, hd⟩ := mem_lookup hc
    rw [hd]; rfl))
  obtain ⟨d, hd⟩ := Option.isSome_iff_exists.mp hs
  rcases cells_get C L hd with ⟨_, z⟩ | ⟨_, z⟩
  · rw [e] at z; cases z
  · exact ⟨d, hd, z⟩

/-- the heap at the block's entry -/
def bHeap (h : Heap) (scope : Scope) : Heap := pushCells ((h.push { cls := .type "list", data := .seq #[] }).push { cls := .type "dict", data := .dict #[] }) scope.names
theorem bHeap_keep {h : Heap} {scope : Scope} {b : Addr} {o : Obj} (e : h.get? b = some o) : (bHeap h scope).get? b = some o :=
  pushCells_keeps _ _ _ _ (Heap.get?_push_of_some _ (Heap.get?_push_of_some _ e))
theorem bHeap_acc (h : Heap) (scope : Scope) : (bHeap h scope).get? h.objs.size = some { cls := .type "list", data := .seq #[] } :=
  pushCells_keeps _ _ _ _ (Heap.get?_push_of_some _ (Heap.get?_push_size _ rfl))
theorem bHeap_ns (h : Heap) (scope : Scope) : (bHeap h scope).Ns (h.objs.size + 1) fun _ => none := by
  have q := (Heap.Ns.new (h.push { cls := .type "list", data := .seq #[] }) (.type "dict")).keeps (pushCells_keeps scope.names _)
  rw [Heap.size_push] at q
  exact q
theorem bHeap_cells (h : Heap) (scope : Scope) : CellsOk (bHeap h scope) (h.objs.size + 2) (cellsFrom (h.objs.size + 2) scope.names []) := by
  have q := cellsFrom_ok scope.names ((h.push { cls := .type "list", data := .seq #[] }).push { cls := .type "dict", data := .dict #[] }) (h.objs.size + 2) [] ⟨fun _ _ hm => (nomatch hm), List.Pairwise.nil⟩ (by
    rw [Heap.size_push, Heap.size_push]; exact Nat.le_refl _)
  rw [Heap.size_push, Heap.size_push] at q
  exact q

theorem cell_split (C : COk X scope x N ix) (L : ClOk X scope cl) (I : Inv X pins σ H2 s2) {y : Str} {c : Addr} (e : (bEnv scope cl s2.heap.objs.size X.env).cells.lookup y = some c) :
    ((y, c) ∈ cellsFrom (s2.heap.objs.size + 2) scope.names [] ∧ scope.names.lookup y = some .cell ∧ s2.heap.objs.size + 2 ≤ c ∧ (bHeap s2.heap scope).IsCell c none) ∨
    (scope.names.lookup y = some .free ∧ X.env.cells.lookup y = some c ∧ @LT.lt Nat _ c s2.heap.objs.size) := by
  rcases cells_get C L (n := s2.heap.objs.size + 2) e with ⟨z, q⟩ | ⟨z, q⟩
  · obtain ⟨a, b⟩ := (bHeap_cells s2.heap scope).empty y c z
    exact .inl ⟨z, q, b, a⟩
  · obtain ⟨v, hv⟩ := I.cell y c q
    exact .inr ⟨z, q, hv.lt⟩

theorem blk_ok (C : COk X scope x N ix) (L : ClOk X scope cl) (I : Inv X pins σ H2 s2) (hf : ∀ b ∈ fp, FpOk X pins H2 b) (hl : ∀ b ∈ fp, b < s2.heap.objs.size) : (blk X scope cl fp N s2 H2).Ok where
  mod := I.ok.mod
  kind := C.kind
  glob := I.ok.glob
  blt := I.ok.blt
  above := Nat.le_succ _
  inj := fun y z c e1 e2 => by
    rcases cell_split C L I e1 with ⟨a1, _, a3, _⟩ | ⟨_, b2, b3⟩ <;> rcases cell_split C L I e2 with ⟨c1, _, c3, _⟩ | ⟨_, d2, d3⟩
    · exact name_of_addr (bHeap_cells s2.heap scope).apart a1 c1
    · omega
    · omega
    · exact I.ok.inj y z c b2 d2
  has := fun y hy => by
    have hy : (relabel scope X.env).names.lookup y = some .cell ∨ (relabel scope X.env).names.lookup y = some .free := hy
    rw [relabel_lookup] at hy
    cases e : scope.names.lookup y with
    | none => rw [e] at hy; rcases hy with z | z <;> cases z
    | some k =>
      rw [e] at hy
      have hk : k = .cell ∨ k = .free := by
        have z : ownK X.env y k = .cell ∨ ownK X.env y k = .free := hy.elim (fun q => .inl (Option.some.inj q)) fun q => .inr (Option.some.inj q)
        unfold ownK at z
        split at z
        · rename_i hc
          simp only [Bool.and_eq_true, beq_iff_eq] at hc
          exact .inr hc.1.1
        · exact z
      rcases hk with rfl | rfl
      · exact Option.isSome_iff_exists.mp (PySem.W.cellsFrom_some _ _ _ (.inl e))
      · obtain ⟨c, hc, _⟩ := cells_free C L (n := s2.heap.objs.size + 2) e
        exact ⟨c, hc⟩
  cab := fun y c hfn e => by
    have hfn : (scope.names.lookup y == some .cell) = true := hfn
    have hfn' : scope.names.lookup y = some .cell := by simpa using hfn
    rcases cell_split C L I e with ⟨_, _, a3, _⟩ | ⟨b1, _⟩
    · show s2.heap.objs.size ≤ c
      omega
    · rw [hfn'] at b1; cases b1
  hd := I.ok.hd
  frames := I.ok.frames
  stk := .inl rfl
  exf := fun b hb => by
    have hb : b ∈ fp := hb
    have hlt : @LT.lt Nat _ b s2.heap.objs.size := hl b hb
    refine ⟨?_, fun y c e => ?_⟩
    · show b ≠ s2.heap.objs.size + 1
      exact Nat.ne_of_lt (Nat.lt_succ_of_lt hlt)
    · rcases cell_split C L I e with ⟨_, _, a3, _⟩ | ⟨_, b2, _⟩
      · exact Nat.ne_of_gt (by omega)
      · exact (hf b hb).2.2.2.2.1 y c b2
  bs := I.bs
  bsz := Nat.le_trans I.ok.bsz I.sz
  noex := fun b o e hb => by
    rcases (hf b hb).2.2.2.1 with z | z
    · exact I.ok.noex b o e z
    · exact absurd (Nat.lt_of_lt_of_le (Heap.lt_size e) (Nat.le_trans I.ok.bsz z)) (Nat.lt_irrefl _)
  exfs := fun b hb z => by
    rcases List.mem_cons.mp (I.stkSub b z) with q | q
    · exact (hf b hb).2.1 q
    · exact (hf b hb).2.2.1 q
  funs := I.stack
  frf := I.stkFree

theorem blk_inv (C : COk X scope x N ix) (L : ClOk X scope cl) (I : Inv X pins σ H2 s2) (hf : ∀ b ∈ fp, FpOk X pins H2 b) (hl : ∀ b ∈ fp, b < s2.heap.objs.size) :
    Inv (blk X scope cl fp N s2 H2) pins (bSt ix σ none) H2 { s2 with heap := bHeap s2.heap scope } where
  ok := blk_ok C L I hf hl
  os := rfl
  bare := I.bare
  base := Un.kept fun b o e => bHeap_keep e
  loc := by
    obtain ⟨m, hn, hloc⟩ := I.loc
    refine ⟨_, bHeap_ns s2.heap scope, fun i y v e1 e2 e3 => ?_⟩
    cases i with
    | zero => cases e2
    | succ j =>
      have e2' : (ix.map fun j => (σ[j]?).join)[j]? = some (some v) := e2
      rw [List.getElem?_map] at e2'
      cases hj : ix[j]? with
      | none => rw [hj] at e2'; cases e2'
      | some i =>
        rw [hj] at e2'
        have e4 : (σ[i]?).join = some v := Option.some.inj e2'
        have e5 : σ[i]? = some (some v) := by
          cases q : σ[i]? with
          | none => rw [q] at e4; cases e4
          | some o => rw [q] at e4; exact congrArg some e4
        obtain ⟨hN, hlk⟩ := C.hix j y i e1 hj
        have hk := C.fr (y, .free) (PySem.mem_of_lookup hlk) rfl
        obtain ⟨u, r, lk⟩ := hloc i y v hN e5 (hk.elim (fun z => .inr (.inl z)) fun z => .inr (.inr z))
        obtain ⟨c, hc1, hc2⟩ := cells_free C L (n := s2.heap.objs.size + 2) hlk
        refine ⟨u, r, .inr ⟨?_, c, hc1, ?_⟩⟩
        · show (relabel scope X.env).names.lookup y = some .cell ∨ (relabel scope X.env).names.lookup y = some .free
          rw [relabel_lookup, hlk]
          show some (ownK X.env y .free) = some .cell ∨ some (ownK X.env y .free) = some .free
          unfold ownK
          split
          · exact .inl rfl
          · exact .inr rfl
        · rcases lk with ⟨z, _⟩ | ⟨_, c', hc', hcell⟩
          · rcases hk with q | q
            · rw [show X.env.kindOf y = some .cell from q] at z; cases z
            · rw [show X.env.kindOf y = some .free from q] at z; cases z
          · rw [hc2] at hc'; cases hc'
            exact hcell.keeps fun b o e => bHeap_keep e
  cell := fun y c e => by
    rcases cell_split C L I e with ⟨_, _, _, q⟩ | ⟨_, q, _⟩
    · exact ⟨_, q⟩
    · obtain ⟨v, hv⟩ := I.cell y c q
      exact ⟨v, hv.keeps fun b o e => bHeap_keep e⟩
  free := I.hok.fresh (show s2.heap.objs.size ≤ s2.heap.objs.size + 1 from Nat.le_succ _)
  freeC := fun y c e => by
    rcases cell_split C L I e with ⟨_, _, a3, _⟩ | ⟨_, b2, _⟩
    · exact I.hok.fresh (by omega)
    · exact I.freeC y c b2
  pin := fun p hp => by
    obtain ⟨e, n, ne, nf, d⟩ := I.pin p hp
    refine ⟨bHeap_keep e, n, ?_, fun z => ?_, d⟩
    · show p.1 ≠ s2.heap.objs.size + 1
      exact Nat.ne_of_lt (Nat.lt_succ_of_lt (Heap.lt_size e))
    · rcases List.mem_cons.mp (I.stkSub p.1 z) with q | q
      · exact ne q
      · exact nf q
  hok := I.hok.kept fun b o e => bHeap_keep e
  len := by
    show (bSt ix σ none).length = N.length
    rw [C.len]
    simp [bSt]
end
end L3

namespace L3
open PySem PySem.Spec PyProof.Rows L2
section
variable {prog : Program} {w : World} {A : Around} {R : Result → Shared → Prop} {s : Shared}
/-- the loop of a comprehension, the step ahead of the store kept -/
theorem compLoop_own {elt target iter : Expr} {ifs : List Expr} {scope : Scope} {pos : Pos} {it acc : Value} {env : Env} (I : Nat → Shared → Prop)
    (turn : ∀ n s, I n s → wpAny (model prog w) A (pyNext it) (fun r s₁ => match r with
      | none => R (.ok .next) s₁
      | some v => wpAny (model prog w) A (letOwnedTupleGo target it v) (fun _ s₁' => wpAny (model prog w) A (assign target env v) (fun _ s₂ =>
          wpAny (model prog w) A (forIn ifs true fun c r => if r = true then do let ok ← isTrue c env (eval c env); pure (ForInStep.yield ok) else pure (ForInStep.yield r)) (fun ok s₃ =>
            if ok = true then wpAny (model prog w) A (eval elt env) (fun x s₄ =>
              wpAny (model prog w) A (call (.builtin "list.append") [acc, x]) (fun _ s₅ => ∃ m, m < n ∧ I m s₅) (fun _ _ => False) s₄) (fun _ _ => False) s₃
            else ∃ m, m < n ∧ I m s₃) (fun _ _ => False) s₂) (fun _ _ => False) s₁') (fun _ _ => False) s₁) (fun _ _ => False) s)
    (n : Nat) (h : I n s) :
    codeAny (model prog w) A (.compLoop (.ListComp elt [⟨target, iter, ifs, 0⟩] scope pos) 0 it acc env) R s := by
  refine codeAny_loop rfl I (fun n s hI => ?_) n h
  show wpAny _ A ((compTurn (.ListComp elt [⟨target, iter, ifs, 0⟩] scope pos) 0 it acc env).onRaise (fun x => do noteFrame x env; theTreesLotGoes x)) _ _ s
  refine wpAny_noted ?_
  rw [compTurn_list]
  refine wpAny_bind (wpAny_standAt (wpAny_bind (wpAny_mono (turn n s hI) (fun r s₁ h₁ => ?_) fun _ _ h' => h'.elim)))
  cases r with
  | none => exact wpAny_pure h₁
  | some v =>
    refine wpAny_bind (wpAny_mono h₁ (fun _ s₁' h₁' => ?_) fun _ _ h' => h'.elim)
    refine wpAny_bind (wpAny_mono h₁' (fun _ s₂ h₂ => wpAny_bind (wpAny_mono h₂ (fun ok s₃ h₃ => ?_) fun _ _ h' => h'.elim)) fun _ _ h' => h'.elim)
    cases ok with
    | false => exact wpAny_pure ⟨rfl, h₃⟩
    | true =>
      exact wpAny_bind (wpAny_bind (wpAny_mono h₃ (fun x s₄ h₄ => wpAny_bind (wpAny_mono h₄ (fun _ s₅ h₅ => wpAny_pure (wpAny_pure ⟨rfl, h₅⟩)) fun _ _ h' => h'.elim)) fun _ _ h' => h'.elim))
end

/-- the tests of a comprehension -/
def PIfs (X : Cx) (ifs : List Expr) (t : TT) : Prop :=
  ∀ (pins : List (Addr × Obj)) (s : Shared) (σ : L2.St) (H : Hp) (Q : Bool → Hp → Prop), Inv X pins σ H s → t σ H Q →
    wpAny (model X.prog X.w) X.A (forIn ifs true fun c r => if r = true then do let ok ← isTrue c X.env (eval c X.env); pure (ForInStep.yield ok) else pure (ForInStep.yield r)) (TP X pins σ Q) X.xe s
def tYes : TT := fun _ H Q => Q true H
theorem pifs_nil {X : Cx} : PIfs X [] tYes := fun _ _ _ H _ I h => wpAny_tests_nil ⟨H, I, h⟩
theorem pifs_one {X : Cx} {c : Expr} {t : TT} (h : PT X c t) : PIfs X [c] t := fun pins s σ H Q I q => wpAny_tests_one (h pins s σ H Q I q)

/-- the turns: W by the turn, a measure, what has been told so far -/
def tTurns (ix : List Nat) (tt : TT) (te : TE) (σ : L2.St) (J : It) (H1 : Hp) (Q : List V → Hp → Prop) : Prop :=
  ∃ W : Nat → Nat → List V → Hp → Prop, (∃ m, W 0 m [] H1) ∧ ∀ i m ys H, W i m ys H →
    (J.stop i H ∧ ys.length ≤ sizeLine ∧ Q ys H) ∨
    (J.go i H ∧ ∀ x H', J.yld i H x H' → tt (bSt ix σ (some x)) H' fun ok H2 => if ok = true then (te (bSt ix σ (some x)) H2 fun v H3 => ys.length < sizeLine ∧ ∃ m', m' < m ∧ W (i + 1) m' (ys ++ [v]) H3) else ∃ m', m' < m ∧ W (i + 1) m' ys H2)
def tComp (ix : List Nat) (wi : TI) (tt : TT) (te : TE) : TE := fun σ H Q => wi σ H fun J H1 => tTurns ix tt te σ J H1 fun ys H2 => ∀ p, H2 p = none → Q (.ref p) (upd H2 p (.lst ys))

theorem HOk.track {P : Program} {w : World} {H : Hp} {h : Heap} {a : Addr} {o : HO} (x : HOk P w H h) (hn : H a = none) (new : ObjOk P w (upd H a o) h a o) : HOk P w (upd H a o) h := fun b u e => by
  by_cases hb : b = a
  · subst hb; rw [upd_same] at e; cases e; exact new
  · rw [upd_ne hb] at e
    exact (x b u e).stay (fun c v _ q => q) (fun c q => by rw [upd_ne (ne_of_none q hn)]; exact q) fun c xs q => by rw [upd_ne (ne_of_none q hn)]; exact q

section
variable {X : Cx} {pins : List (Addr × Obj)} {σ : L2.St} {H2 : Hp} {s2 : Shared} {scope : Scope} {x : Str} {N : List Str} {ix : List Nat} {cl : List (Str × Addr)} {fp : List Addr} {it : Addr} {tn : Nat → Heap → Prop} {J : It}

/-- THE BLOCK -/
theorem block {elt iter : Expr} {px : Pos} {ifs : List Expr} {pos : Pos} {tt : TT} {te : TE} {Q : List V → Hp → Prop} {E : Value → Shared → Prop} {RR : Value → Addr → Result → Shared → Prop}
    (hc : X.calm = true) (C : COk X scope x N ix) (L : ClOk X scope cl) (I : Inv X pins σ H2 s2) (T : Turn X.prog X.w X.K (.Name x px) J fp it tn) (st0 : tn 0 s2.heap) (hf : ∀ b ∈ fp, FpOk X pins H2 b)
    (ht : PIfs (blk X scope cl fp N s2 H2) ifs tt) (he : PE (blk X scope cl fp N s2 H2) elt te) (hw : tTurns ix tt te σ J H2 Q)
    (hR : ∀ (D Ca : Addr) (s' : Shared) (H' : Hp) (ys : List V) (m : Str → Option Value), H' D = none → Q ys H' → Inv X pins σ (upd H' D (.lst ys)) s' → FpOk X pins (upd H' D (.lst ys)) Ca → s'.heap.Ns Ca m → RR (.ref D) Ca (.ok .next) s') :
    wpAny (model X.prog X.w) X.A (newList []) (fun acc s₃ => wpAny (model X.prog X.w) X.A (newFunctionEnv scope X.env.globals cl [] X.env.qual none .none (some X.env)) (fun cenv s₄ =>
      codeAny (model X.prog X.w) X.A (.compStart (.ListComp elt [⟨.Name x px, iter, ifs, 0⟩] scope pos) 0 (.ref it) acc { cenv with scope := relabel scope X.env }) (RR acc cenv.locals) s₄) E s₃) E s2 := by
  have hl : ∀ b ∈ fp, b < s2.heap.objs.size := fun b hb => by
    obtain ⟨o, e, _⟩ := T.obj 0 _ st0 b hb
    exact Heap.lt_size e
  have I4 := blk_inv (N := N) C L I hf hl
  refine wpAny_newObj_type (new_block ?_)
  have hsz : ({ s2 with heap := s2.heap.push { cls := .type "list", dict := none, data := .seq ([] : List Value).toArray } } : Shared).heap.objs.size = s2.heap.objs.size + 1 := Heap.size_push ..
  rw [hsz]
  show codeAny (model X.prog X.w) X.A (.compStart (.ListComp elt [⟨.Name x px, iter, ifs, 0⟩] scope pos) 0 (.ref it) (.ref s2.heap.objs.size) (bEnv scope cl s2.heap.objs.size X.env)) (RR (.ref s2.heap.objs.size) (s2.heap.objs.size + 1)) { s2 with heap := bHeap s2.heap scope }
  obtain ⟨W, ⟨m0, w0⟩, turn⟩ := hw
  -- what stays true of the iterator's records in the block
  have hD : H2 s2.heap.objs.size = none := I.hok.fresh (Nat.le_refl _)
  have fpY : ∀ {H' : Hp} {o : Obj}, (∀ b ∈ fp, H' b = none) → ∀ b ∈ fp, FpOk (blk X scope cl fp N s2 H2) (pins ++ [(s2.heap.objs.size, o)]) H' b := fun {H' o} hn b hb => by
    have hlt : @LT.lt Nat _ b s2.heap.objs.size := hl b hb
    obtain ⟨_, f1, f2, f3, f4, f5⟩ := hf b hb
    refine ⟨hn b hb, ?_, fun z => ?_, .inl hb, fun y c e => ?_, fun p hp => ?_⟩
    · show b ≠ s2.heap.objs.size + 1
      exact Nat.ne_of_lt (Nat.lt_succ_of_lt hlt)
    · rcases List.mem_cons.mp (I.stkSub b z) with q | q
      · exact f1 q
      · exact f2 q
    · rcases cell_split C L I e with ⟨_, _, a3, _⟩ | ⟨_, b2, _⟩
      · exact Nat.ne_of_gt (by omega)
      · exact f4 y c b2
    · rcases List.mem_append.mp hp with z | z
      · exact f5 p (List.mem_append_left _ z)
      · rcases List.mem_append.mp z with z | z
        · exact f5 p (List.mem_append_right _ z)
        · have e : p = (s2.heap.objs.size, o) := by simpa using z
          subst e
          show s2.heap.objs.size ≠ b
          exact Nat.ne_of_gt hlt
  -- the list may be pinned
  have pinD : ∀ {σ' : L2.St} {H' : Hp} {s' : Shared} {its : List Value} {k : Nat}, Inv (blk X scope cl fp N s2 H2) pins σ' H' s' → s'.heap.get? s2.heap.objs.size = some { cls := .type "list", data := .seq its.toArray k } → H' s2.heap.objs.size = none →
      Inv (blk X scope cl fp N s2 H2) (pins ++ [(s2.heap.objs.size, { cls := .type "list", data := .seq its.toArray k })]) σ' H' s' := fun {σ' H' s' its k} I' e n => I'.pins_of fun p hp => by
    rcases List.mem_append.mp hp with z | z
    · exact I'.pin p (List.mem_append_right _ z)
    · have e' : p = (s2.heap.objs.size, { cls := .type "list", data := .seq its.toArray k }) := by simpa using z
      subst e'
      refine ⟨e, n, ?_, fun z => ?_, fun v q => ?_⟩
      · show s2.heap.objs.size ≠ s2.heap.objs.size + 1
        exact Nat.ne_of_lt (Nat.lt_succ_self _)
      · rcases List.mem_cons.mp (I.stkSub _ z) with q | q
        · exact absurd I.lt (by rw [← q]; exact Nat.lt_irrefl _)
        · exact I.nofs (Nat.le_refl _) q
      · have q' : Data.seq its.toArray k = Data.cell v := q
        cases q'
  have pd : ∀ {σ' : L2.St} {H' : Hp} {s' : Shared} {its : List Value} {k : Nat} {pl : List (Addr × Obj)}, Inv (blk X scope cl fp N s2 H2) ((pins ++ [(s2.heap.objs.size, { cls := .type "list", data := .seq its.toArray k })]) ++ pl) σ' H' s' →
      s'.heap.get? s2.heap.objs.size = some { cls := .type "list", data := .seq its.toArray k } ∧ H' s2.heap.objs.size = none := fun {σ' H' s' its k pl} I' => by
    have q := I'.pin (s2.heap.objs.size, { cls := .type "list", data := .seq its.toArray k }) (List.mem_append_right _ (List.mem_append_left _ (List.mem_append_right _ (by simp))))
    exact ⟨q.1, q.2.1⟩
  have pd0 : ∀ {σ' : L2.St} {H' : Hp} {s' : Shared} {its : List Value} {k : Nat}, Inv (blk X scope cl fp N s2 H2) (pins ++ [(s2.heap.objs.size, { cls := .type "list", data := .seq its.toArray k })]) σ' H' s' →
      s'.heap.get? s2.heap.objs.size = some { cls := .type "list", data := .seq its.toArray k } ∧ H' s2.heap.objs.size = none := fun {σ' H' s' its k} I' => by
    have q := I'.pin (s2.heap.objs.size, { cls := .type "list", data := .seq its.toArray k }) (List.mem_append_right _ (List.mem_append_right _ (by simp)))
    exact ⟨q.1, q.2.1⟩
  have loop : codeAny (model X.prog X.w) X.A (.compLoop (.ListComp elt [⟨.Name x px, iter, ifs, 0⟩] scope pos) 0 (.ref it) (.ref s2.heap.objs.size) (bEnv scope cl s2.heap.objs.size X.env)) (RR (.ref s2.heap.objs.size) (s2.heap.objs.size + 1)) { s2 with heap := bHeap s2.heap scope } := by
    refine compLoop_own (fun n s' => ∃ i ys its k o H', Inv (blk X scope cl fp N s2 H2) (pins ++ [(s2.heap.objs.size, { cls := .type "list", data := .seq its.toArray k })]) (bSt ix σ o) H' s' ∧ Vals ys its ∧ tn i s'.heap ∧ (∀ b ∈ fp, H' b = none) ∧ W i n ys H') ?_ m0
      ⟨0, [], [], 0, none, H2, pinD I4 (bHeap_acc s2.heap scope) hD, .nil, T.keep 0 _ _ st0 (fun b hb o e => bHeap_keep e), fun b hb => (hf b hb).1, w0⟩
    rintro n s3 ⟨i, ys, its, k, o, H3, I3, v3, st3, fr3, w3⟩
    rcases turn i n ys H3 w3 with ⟨stop, hz, q⟩ | ⟨go, step⟩
    · refine thn (T.done (blk X scope cl fp N s2 H2) rfl rfl rfl hc i _ s3 _ H3 _ I3 (fpY fr3) st3 stop) fun r s4 ⟨hr, I4⟩ => ?_
      subst hr
      obtain ⟨d1, d2⟩ := pd0 I4
      show RR _ _ _ _
      have un : Un (frs X.stack) fp H2 (upd H3 s2.heap.objs.size (.lst ys)) s2.heap s4.heap := by
        have B : Un (frs X.stack) fp H2 H3 s2.heap s4.heap := I4.base
        refine ⟨B.keep, B.slot, fun b ob e n' hx => ?_, B.there, fun b xs e => ?_, fun b ob u e => ?_, fun b ps e => ?_⟩
        · rw [upd_ne (Nat.ne_of_lt (Heap.lt_size e))]; exact B.free b ob e n' hx
        · rw [upd_ne (ne_of_none e hD)]; exact B.tups b xs e
        · rw [upd_ne (ne_of_none e hD)]; exact B.frzs b ob u e
        · obtain ⟨more, z⟩ := B.tbls b ps e
          exact ⟨more, by rw [upd_ne (ne_of_none e hD)]; exact z⟩
      have hok4 : HOk X.prog X.w (upd H3 s2.heap.objs.size (.lst ys)) s4.heap := HOk.track I4.hok d2 ⟨hz, its, k, v3, d1⟩
      have IX : Inv X pins σ (upd H3 s2.heap.objs.size (.lst ys)) s4 := I.call' (ch := fp) I4.os un hok4 I4.bare fun b hb => ⟨(hf b hb).2.2.2.1, (hf b hb).2.1, (hf b hb).2.2.2.2.1, (hf b hb).2.2.2.2.2⟩
      obtain ⟨m, hn, _⟩ := I4.loc
      refine hR _ _ s4 H3 ys m d2 q IX ?_ hn
      have hne : s2.heap.objs.size + 1 ≠ s2.heap.objs.size := Nat.ne_of_gt (Nat.lt_succ_self _)
      exact I.fpOk (Nat.le_succ _) (by rw [upd_ne hne]; exact I4.free)
    · refine thn (T.item (blk X scope cl fp N s2 H2) rfl rfl rfl hc i _ s3 _ H3 _ I3 (fpY fr3) st3 go) fun r s4 ⟨u, hr, h4⟩ => ?_
      subst hr
      refine thn h4 fun _ s5 ⟨xv, H5, I5, r5, y5, st5, fr5⟩ => ?_
      have I5' := I5.pinned (fpY fr5) (T.obj _ _ st5)
      have hG : PG (blk X scope cl fp N s2 H2) (.Name x px) (gName 0) := by
        refine pg_name C.nd C.hx ?_ ?_
        · show (relabel scope X.env).names.lookup x = some .local ∨ (relabel scope X.env).names.lookup x = some .cell
          rw [relabel_lookup]
          rcases C.nx with z | z
          · rw [z]; exact .inl rfl
          · rw [z]; exact .inr rfl
        · rcases C.nx with z | z
          · refine .inr ?_
            show (relabel scope X.env).names.lookup x = some .local
            rw [relabel_lookup, z]; rfl
          · refine .inl ?_
            show (scope.names.lookup x == some .cell) = true
            rw [z]; rfl
      refine thn (hG _ s5 _ H5 xv u (fun σ' H' => σ' = bSt ix σ (some xv) ∧ H' = H5) I5' r5 ⟨rfl, rfl⟩) fun _ s6 ⟨σ6, H6, I6, e6, e6'⟩ => ?_
      subst e6 e6'
      refine thn (ht _ s6 _ _ _ I6 (step xv _ y5)) fun ok s7 ⟨H7, I7, q7⟩ => ?_
      have stay : ∀ {s' : Shared} {H' : Hp}, Inv (blk X scope cl fp N s2 H2) ((pins ++ [(s2.heap.objs.size, { cls := .type "list", data := .seq its.toArray k })]) ++ pinsAt fp s5.heap) (bSt ix σ (some xv)) H' s' →
          (∀ b ∈ fp, ∀ o, s5.heap.get? b = some o → s'.heap.get? b = some o) ∧ ∀ b ∈ fp, H' b = none := fun {s' H'} I' => by
        refine ⟨fun b hb o e => (I'.pin (b, o) (List.mem_append_right _ (List.mem_append_right _ (mem_pinsAt hb e)))).1, fun b hb => ?_⟩
        obtain ⟨o, e, d⟩ := T.obj _ _ st5 b hb
        exact (I'.pin (b, o) (List.mem_append_right _ (List.mem_append_right _ (mem_pinsAt hb e)))).2.1
      cases ok with
      | false =>
        rw [if_neg Bool.false_ne_true] at q7 ⊢
        obtain ⟨m', hm, w7⟩ := q7
        exact ⟨m', hm, i + 1, ys, its, k, some xv, H7, I7.unpinned, v3, T.keep _ _ _ st5 (stay I7).1, (stay I7).2, w7⟩
      | true =>
        rw [if_pos rfl] at q7 ⊢
        refine thn (he _ s7 _ H7 _ I7 q7) fun y s8 ⟨v8, H8, I8, r8, z8, m', hm, w8⟩ => ?_
        obtain ⟨d1, d2⟩ := pd I8
        have hlen := v3.length
        refine wpAny_list_append_plain (hsz := by simp only [List.size_toArray]; omega) ⟨k, d1⟩ fun h9 ⟨k9, e9⟩ sb => ?_
        have I8' : Inv (blk X scope cl fp N s2 H2) pins (bSt ix σ (some xv)) H8 s8 := I8.unpinned.unpinned
        have I9 : Inv (blk X scope cl fp N s2 H2) pins (bSt ix σ (some xv)) H8 { s8 with heap := h9 } := I8'.turned (t' := s8.toks) (fun b ob hb e => (sb.2 b hb).trans e) d2 (by
            show s2.heap.objs.size ≠ s2.heap.objs.size + 1
            exact Nat.ne_of_lt (Nat.lt_succ_self _)) (.inr (Nat.le_refl _)) (fun y' c' e => by
            rcases cell_split C L I e with ⟨_, _, a3, _⟩ | ⟨_, _, b3⟩
            · exact Nat.ne_of_gt (by omega)
            · exact Nat.ne_of_lt b3) fun p hp => Nat.ne_of_lt (Heap.lt_size (I.pin p hp).1)
        have e9' : h9.get? s2.heap.objs.size = some { cls := .type "list", data := .seq (its ++ [y]).toArray k9 } := by rw [e9]; simp
        refine ⟨m', hm, i + 1, ys ++ [v8], its ++ [y], k9, some xv, H8, pinD I9 e9' d2, v3.append (.cons r8 .nil), ?_, (stay I8).2, w8⟩
        refine T.keep _ _ _ st5 fun b hb ob e => ?_
        have hne : b ≠ s2.heap.objs.size := Nat.ne_of_lt (hl b hb)
        exact (sb.2 b hne).trans ((stay I8).1 b hb ob e)
  exact codeAny_compStart_list loop (T.self X.A 0 _ _ _ (T.keep 0 _ _ st0 (fun b hb o e => bHeap_keep e)) loop)

theorem cl_ok (C : COk X scope x N ix) (ok : X.Ok) : ∃ cl, closureFor scope X.env = pure cl ∧ ClOk X scope cl := by
  obtain ⟨cl, e, h1, h2⟩ := closure_ok (scope := scope) (env := X.env) fun p hp hk => ok.has p.1 (C.fr p hp hk)
  exact ⟨cl, e, h1, h2⟩

/-- [elt for x in iter if ..] -/
theorem pe_comp {elt iter : Expr} {px : Pos} {ifs : List Expr} {pos : Pos} {wi : TI} {tt : TT} {te : TE} {N : List Str} {ix : List Nat} (hi : PI X (.Name x px) iter wi)
    (ht : ∀ cl fp s2 H2, PIfs (blk X scope cl fp N s2 H2) ifs tt) (he : ∀ cl fp s2 H2, PE (blk X scope cl fp N s2 H2) elt te)
    (hc : X.calm = true := by rfl) (hk : scope.kind = .function := by rfl) (hok : cOk X.N X.env.kindOf scope x N ix = true := by rfl)
    (hs : ∀ x, foldedSetIterable iter X.env x = pure x := by intro _; rfl) :
    PE X (.ListComp elt [⟨.Name x px, iter, ifs, 0⟩] scope pos) (tComp ix wi tt te) := by
  intro pins s σ H Q I h
  have C := COk.of hk hok
  obtain ⟨cl, hcl, L⟩ := cl_ok C I.ok
  rw [eval_ListComp]
  refine wpAny_comprehension_free (use := none) rfl hs hcl C.kind C.nm (thn (hi pins s σ H _ I h) fun v s1 h1 => thn h1 fun itv s2 h2 => ?_)
  obtain ⟨it, fp, tn, J, H2, e, I2, T, st2, f2, hw⟩ := h2
  subst e
  refine block (RR := fun acc C => compPost (model X.prog X.w) X.A X.xe none (EP X pins σ Q) acc C) hc C L I2 T st2 f2 (ht cl fp s2 H2) (he cl fp s2 H2) hw fun D Ca s' H' ys m hD q IX fC hn => ?_
  refine ⟨m, hn, fun h' sb => ?_⟩
  obtain ⟨c0, c1, c2, c3, c4, c5⟩ := fC
  exact ⟨.ref D, _, IX.turned (t' := s'.toks) (fun b ob hb e => (sb.2 b hb).trans e) c0 c1 c3 c4 c5, rfl, q D hD⟩
end
end L3

set_option Elab.async false
set_option linter.all false
set_option maxRecDepth 100000
set_option maxHeartbeats 4000000
/-! more rules over the hand layer: sets of ints, lists compared, isinstance -/
namespace L3
open PySem PySem.Spec PyProof.Rows L2

theorem small4 {n : Nat} (h : n ≤ 4000) : n ≤ sizeLine := by rw [sizeLine_eq]; omega

/-! ### lists of ints, compared -/
theorem ints_of {ns : List Int} {us : List Value} (h : Vals (ns.map V.int) us) : IntsAre us ns := intsAre_of h
theorem ints_at {us : List Value} {ns : List Int} (h : IntsAre us ns) : ∀ (j : Nat) (h1 : j < us.length), ∃ t, us[j] = .int (ns.getD j 0) t := by
  intro j h1
  exact IntsAre.int_at h j us[j] (by simp [h1])
theorem all_eq {ns ms : List Int} (h : ns.length = ms.length) : ((List.range ns.length).all fun j => ns.getD j 0 == ms.getD j 0) = decide (ns = ms) := by
  rw [Bool.eq_iff_iff]
  simp only [List.all_eq_true, List.mem_range, beq_iff_eq, decide_eq_true_eq]
  constructor
  · intro q
    apply List.ext_getElem h
    intro i h1 h2
    have := q i h1
    simpa [h1, h2] using this
  · rintro rfl i _; rfl
section
variable {X : Cx}
def rEqL (K : PySem.W.Frag) (neg : Bool) : R2 := fun x y H Q => ∃ (p q : Addr) (ns ms : List Int), x = .ref p ∧ y = .ref q ∧ SqL K H p (ns.map V.int) ∧ SqL K H q (ms.map V.int) ∧ Q (.bl (if neg then !decide (ns = ms) else decide (ns = ms))) H
theorem op_eqL (hu : X.A.units < cLine) : OpR X (compareOp .Eq) (rEqL X.K false) := by
  intro pins s σ H x y v u Q I rx ry h
  obtain ⟨p, q, ns, ms, rfl, rfl, hp, hq, h⟩ := h
  cases rx
  cases ry
  obtain ⟨its, r1, p1, z1⟩ := I.list hp
  obtain ⟨jts, r2, p2, z2⟩ := I.list hq
  have i1 := ints_of r1
  have i2 := ints_of r2
  have l1 := ints_len i1
  have l2 := ints_len i2
  by_cases hl : ns.length = ms.length
  · refine SeqAt.eq_listAt (e := fun j => ns.getD j 0 == ms.getD j 0) p1.isList p2.isList (by simp; omega) hu (fun j h1 h2 => ?_) ⟨.bl _, H, I, ?_, h⟩
    · obtain ⟨t, e⟩ := ints_at i1 j (by simpa using h1)
      obtain ⟨t', e'⟩ := ints_at i2 j (by simpa using h2)
      simp only [List.getElem_toArray]
      rw [e, e']
      exact SeqAt.EqAt.int_int _ _ _ _
    · show Value.bool _ = Value.bool _
      rw [List.size_toArray, l1, all_eq hl]
      rfl
  · refine SeqAt.eq_list_lengthsAt p1.isList p2.isList (by simp; omega) hu ⟨.bl _, H, I, ?_, h⟩
    have : ¬ ns = ms := fun e => hl (by rw [e])
    simp [this, L2.RelV]
theorem op_neL (hu : X.A.units < cLine) : OpR X (compareOp .NotEq) (rEqL X.K true) := by
  intro pins s σ H x y v u Q I rx ry h
  obtain ⟨p, q, ns, ms, rfl, rfl, hp, hq, h⟩ := h
  cases rx
  cases ry
  obtain ⟨its, r1, p1, z1⟩ := I.list hp
  obtain ⟨jts, r2, p2, z2⟩ := I.list hq
  have i1 := ints_of r1
  have i2 := ints_of r2
  have l1 := ints_len i1
  have l2 := ints_len i2
  by_cases hl : ns.length = ms.length
  · refine SeqAt.RcNeAt.lists (e := fun j => ns.getD j 0 == ms.getD j 0) p1.isList p2.isList (by simp; omega) hu (fun j h1 h2 => ?_) _ _ _ _ ⟨.bl _, H, I, ?_, h⟩
    · obtain ⟨t, e⟩ := ints_at i1 j (by simpa using h1)
      obtain ⟨t', e'⟩ := ints_at i2 j (by simpa using h2)
      simp only [List.getElem_toArray]
      rw [e, e']
      exact SeqAt.EqAt.int_int _ _ _ _
    · show Value.bool _ = Value.bool _
      rw [List.size_toArray, l1, all_eq hl]
      rfl
  · refine SeqAt.RcNeAt.lists_lengths p1.isList p2.isList (by simp; omega) hu _ _ _ _ ⟨.bl _, H, I, ?_, h⟩
    have : ¬ ns = ms := fun e => hl (by rw [e])
    simp [this, L2.RelV]

/-! ### isinstance(x, a built-in type) -/
theorem call_isi : CallR X (.builtin "isinstance") (fun xs H Q => ∃ x c t b, xs = [x, .ty c] ∧ TyOf X.K H x t ∧ PySem.W.kitOne X.K t (.type c) = some b ∧ Q (.bl b) H) := by
  intro pins s σ H xs us Q I r h
  obtain ⟨x, c, t, b, rfl, ty, e, q⟩ := h
  obtain ⟨u, v, rfl, r1, r2⟩ := vals2 r
  cases r2
  exact isinst_ok I r1 ty e fun tk => ⟨.bl b, H, I.tok tk, rfl, q⟩

/-! ### set(xs), sorted(set(xs)), len(set(xs)) -/
def SetO (P : Program) (w : World) (a : Addr) (ms : List Int) : HO := .ext fun h => SetI P w h a (!w.params.followText "set-order") ms
theorem SetI.at {P : Program} {w : World} {h1 h2 : Heap} {a : Addr} {L : Bool} {ms : List Int} (x : SetI P w h1 a L ms) (k : ∀ o, h1.get? a = some o → h2.get? a = some o) : SetI P w h2 a L ms := by
  obtain ⟨es, ep, t, ho, r⟩ := x
  exact ⟨es, ep, t, k _ ho, r⟩
theorem call_set_of (hc : X.calm = true) : CallR X (.type "set") (fun xs H Q => ∃ (p : Addr) (ns : List Int), xs = [.ref p] ∧ SqL X.K H p (ns.map V.int) ∧ ns.length ≤ 4000 ∧
    ∀ (a : Addr) (ms : List Int), H a = none → ms.Nodup → (∀ j, j ∈ ms ↔ j ∈ ns) → Q (.ref a) (upd H a (SetO X.prog X.w a ms))) := by
  intro pins s σ H xs us Q I r h
  obtain ⟨p, ns, rfl, hp, hn, q⟩ := h
  obtain ⟨u, rfl, rx⟩ := vals1 r
  cases rx
  obtain ⟨its, r1, p1, z1⟩ := I.list hp
  have i1 := ints_of r1
  have l1 := ints_len i1
  refine set_list (I.ok.hd hc) p1.isList (by simpa using i1) (by rw [List.size_toArray, l1]; show ns.length + 1 < 4096; omega) fun h' tk ms hS hm hk => ?_
  have hf : H s.heap.objs.size = none := I.hok.fresh (Nat.le_refl _)
  refine ⟨.ref s.heap.objs.size, _, I.laid (t' := tk) hk (Nat.le_refl _) ?_, rfl, q _ ms hf ?_ hm⟩
  · obtain ⟨es, ep, t, ho, _⟩ := id hS
    exact ⟨hS, ⟨_, ho⟩, fun h1 h2 x k => x.at k⟩
  · obtain ⟨_, _, _, _, _, _, nd, _⟩ := hS
    exact nd
theorem call_sorted_set (hc : X.calm = true) : CallR X (.builtin "sorted") (fun xs H Q => ∃ (a : Addr) (ms : List Int), xs = [.ref a] ∧ H a = some (SetO X.prog X.w a ms) ∧ ms.length < 64 ∧
    ∀ (l : Addr) (zs : List Int), H l = none → zs.Perm ms → zs.Pairwise (· ≤ ·) → Q (.ref l) (upd H l (.lst (zs.map V.int)))) := by
  intro pins s σ H xs us Q I r h
  obtain ⟨a, ms, rfl, ha, hn, q⟩ := h
  obtain ⟨u, rfl, rx⟩ := vals1 r
  cases rx
  obtain ⟨hS, _, _⟩ := I.hok a _ ha
  obtain ⟨es, ep, t, ho, tb, hI, hsz⟩ := SetI.size hS
  refine sorted_set (I.ok.hd hc) tb rfl ho hI (by omega) fun l h' d tk out zs n hk hl hol hz hp hs => ?_
  have hf : H l = none := I.hok.fresh hl
  have ol : out.toList.length = zs.length := ints_len hz
  have hnew : ObjOk X.prog X.w (upd H l (.lst (zs.map V.int))) h' l (.lst (zs.map V.int)) := by
    refine ⟨?_, out.toList, n, vals_ints hz, by simpa using hol⟩
    rw [List.length_map, hp.length_eq]
    exact small4 (by omega)
  have un : Un (frs X.stack) [] H (upd H l (.lst (zs.map V.int))) s.heap h' := Un.laid hk hl hf
  refine ⟨.ref l, upd H l (.lst (zs.map V.int)), ?_, rfl, q l zs hf hp hs⟩
  exact I.call (g' := s.gens) (d' := d) (t' := tk) (ch := []) un (I.hok.laid hk hl hnew) I.bare fun b z => nomatch z
theorem call_len_set' : CallR X (.builtin "len") (fun xs H Q => ∃ (a : Addr) (ms : List Int), xs = [.ref a] ∧ H a = some (SetO X.prog X.w a ms) ∧ ms.length ≤ 4000 ∧ Q (.int ms.length) H) := by
  intro pins s σ H xs us Q I r h
  obtain ⟨a, ms, rfl, ha, hn, q⟩ := h
  obtain ⟨u, rfl, rx⟩ := vals1 r
  cases rx
  obtain ⟨hS, _, _⟩ := I.hok a _ ha
  obtain ⟨es, ep, t, ho, tb, hI, hsz⟩ := SetI.size hS
  refine PySem.call_len_set ho ⟨rfl, rfl, rfl⟩ rfl tb.fits (by omega) ⟨.int ms.length, H, I.tok _, ⟨_, by rw [hsz]⟩, q⟩

/-- sorted(set(e)): the members, rising -/
def tSS (K : PySem.W.Frag) (te : TE) : TE := fun σ H Q => te σ H fun x H1 => ∃ (p : Addr) (ns : List Int), x = .ref p ∧ SqL K H1 p (ns.map V.int) ∧ ns.length ≤ 4000 ∧ (∀ ms : List Int, ms.Nodup → (∀ j, j ∈ ms ↔ j ∈ ns) → ms.length < 64) ∧
  ∀ (l : Addr) (zs : List Int) (H2 : Hp), Same H1 H2 → H1 l = none → H2 l = some (.lst (zs.map V.int)) → zs.Pairwise (· < ·) → (∀ j, j ∈ zs ↔ j ∈ ns) → Q (.ref l) H2
theorem lt_of_le_nodup : ∀ {zs : List Int}, zs.Pairwise (· ≤ ·) → zs.Nodup → zs.Pairwise (· < ·)
  | [], _, _ => .nil
  | x :: r, h, d => by
    rw [List.pairwise_cons] at h ⊢
    rw [List.nodup_cons] at d
    refine ⟨fun y hy => ?_, lt_of_le_nodup h.2 d.2⟩
    have h1 := h.1 y hy
    have h2 : x ≠ y := fun e => d.1 (e ▸ hy)
    omega
theorem same_new {H : Hp} {p : Addr} (h : H p = none) (o : HO) : Same H (upd H p o) := fun b u q => by rw [upd_ne (ne_of_none q h)]; exact q
def tM (te : TE) : TE := fun σ H Q => ∃ F : VK, te σ H F ∧ ∀ x H1, F x H1 → Q x H1
theorem pe_mono {e : Expr} {te : TE} (h : PE X e te) : PE X e (tM te) := fun pins s σ H Q I ⟨F, q, m⟩ => thn (h pins s σ H F I q) fun u s' ⟨v, H', I', r, f⟩ => ⟨v, H', I', r, m v H' f⟩
theorem bt_len : bootBuiltins "len" = some (.builtin "len") := by decide +kernel
theorem bt_min : bootBuiltins "min" = some (.builtin "min") := by decide +kernel
theorem bt_max : bootBuiltins "max" = some (.builtin "max") := by decide +kernel
theorem bt_isinstance : bootBuiltins "isinstance" = some (.builtin "isinstance") := by decide +kernel
theorem bt_sorted : bootBuiltins "sorted" = some (.builtin "sorted") := by decide +kernel
theorem bt_list : bootBuiltins "list" = some (.type "list") := by decide +kernel
theorem bt_set : bootBuiltins "set" = some (.type "set") := by decide +kernel
theorem bt_int : bootBuiltins "int" = some (.type "int") := by decide +kernel
theorem bt_bool : bootBuiltins "bool" = some (.type "bool") := by decide +kernel
theorem bt_tuple : bootBuiltins "tuple" = some (.type "tuple") := by decide +kernel
theorem bt_str : bootBuiltins "str" = some (.type "str") := by decide +kernel
theorem pe_sorted_set {e : Expr} {te : TE} {p1 p2 pos pos' : Pos} (hc : X.calm = true) (hs : Gl X "sorted") (ms : X.mg "sorted" = none) (ht : Gl X "set") (mt : X.mg "set" = none) (he : PE X e te)
    (h1 : starEach [e] X.env = [(false, eval e X.env)] := by rfl)
    (h2 : starEach [.Call (.Name "set" p2) [e] [] pos'] X.env = [(false, eval (.Call (.Name "set" p2) [e] [] pos') X.env)] := by rfl) :
    PE X (.Call (.Name "sorted" p1) [.Call (.Name "set" p2) [e] [] pos'] [] pos) (tSS X.K te) := by
  have hset : PE X (.Call (.Name "set" p2) [e] [] pos') _ := pe_callTy (call_set_of hc) ht mt bt_set (pa_cons (pe_mono he) pa_nil (by rw [h1]; rfl)) (by decide) (by decide) (by rw [h1]; rfl) rfl
  have hso : PE X (.Call (.Name "sorted" p1) [.Call (.Name "set" p2) [e] [] pos'] [] pos) _ := pe_callB (call_sorted_set hc) hs ms bt_sorted (pa_cons hset pa_nil (by rw [h2]; rfl)) (by decide) (by decide) (by rw [h2]; rfl) rfl
  intro pins s σ H Q I h
  refine hso pins s σ H Q I ⟨_, h, fun x H1 hx => ?_⟩
  obtain ⟨p, ns, rfl, hp, hn, h64, q⟩ := hx
  refine ⟨p, ns, rfl, hp, hn, fun a ks ha nd hm => ?_⟩
  refine ⟨a, ks, rfl, upd_same, h64 ks nd hm, fun l zs hl hpm hsrt => ?_⟩
  have g1 := same_new ha (SetO X.prog X.w a ks)
  refine q l zs _ (g1.trans (same_new hl _)) (g1.free hl) upd_same (lt_of_le_nodup hsrt (hpm.nodup_iff.mpr nd)) fun j => ?_
  rw [hpm.mem_iff, hm j]
/-- len(set(e)) -/
def tLS (K : PySem.W.Frag) (te : TE) : TE := fun σ H Q => te σ H fun x H1 => ∃ (p : Addr) (ns : List Int), x = .ref p ∧ SqL K H1 p (ns.map V.int) ∧ ns.length ≤ 4000 ∧
  ∀ (ms : List Int) H2, Same H1 H2 → ms.Nodup → (∀ j, j ∈ ms ↔ j ∈ ns) → Q (.int ms.length) H2
theorem nodup_le {ms ns : List Int} (nd : ms.Nodup) (h : ∀ j, j ∈ ms → j ∈ ns) : ms.length ≤ ns.length := by
  induction ms generalizing ns with
  | nil => exact Nat.zero_le _
  | cons x r ih =>
    rw [List.nodup_cons] at nd
    have hx : x ∈ ns := h x List.mem_cons_self
    have := ih (ns := ns.erase x) nd.2 fun j hj => by
      have hne : j ≠ x := fun e => nd.1 (e ▸ hj)
      exact (List.mem_erase_of_ne hne).mpr (h j (List.mem_cons_of_mem _ hj))
    rw [List.length_erase_of_mem hx] at this
    have : 0 < ns.length := List.length_pos_of_mem hx
    simp only [List.length_cons]
    omega
theorem pe_len_set {e : Expr} {te : TE} {p1 p2 pos pos' : Pos} (hc : X.calm = true) (hs : Gl X "len") (ms : X.mg "len" = none) (ht : Gl X "set") (mt : X.mg "set" = none) (he : PE X e te)
    (h1 : starEach [e] X.env = [(false, eval e X.env)] := by rfl)
    (h2 : starEach [.Call (.Name "set" p2) [e] [] pos'] X.env = [(false, eval (.Call (.Name "set" p2) [e] [] pos') X.env)] := by rfl) :
    PE X (.Call (.Name "len" p1) [.Call (.Name "set" p2) [e] [] pos'] [] pos) (tLS X.K te) := by
  have hset : PE X (.Call (.Name "set" p2) [e] [] pos') _ := pe_callTy (call_set_of hc) ht mt bt_set (pa_cons (pe_mono he) pa_nil (by rw [h1]; rfl)) (by decide) (by decide) (by rw [h1]; rfl) rfl
  have hso : PE X (.Call (.Name "len" p1) [.Call (.Name "set" p2) [e] [] pos'] [] pos) _ := pe_callB call_len_set' hs ms bt_len (pa_cons hset pa_nil (by rw [h2]; rfl)) (by decide) (by decide) (by rw [h2]; rfl) rfl
  intro pins s σ H Q I h
  refine hso pins s σ H Q I ⟨_, h, fun x H1 hx => ?_⟩
  obtain ⟨p, ns, rfl, hp, hn, q⟩ := hx
  refine ⟨p, ns, rfl, hp, hn, fun a ks ha nd hm => ?_⟩
  exact ⟨a, ks, rfl, upd_same, Nat.le_trans (nodup_le nd fun j => (hm j).mp) hn, q ks _ (same_new ha _) nd hm⟩

/-! ### the forms one uses, of comprehensions -/
/-- over a list that stays: tested by b, told by f -/
theorem turns_list {K : PySem.W.Frag} {ix : List Nat} {tt : TT} {te : TE} {σ : L2.St} {a : Addr} {xs : List V} {H : Hp} {Q : List V → Hp → Prop} (b : V → Bool) (f : V → V) (hz : xs.length ≤ 4000) (hl : SqL K H a xs)
    (ht : ∀ x H' R, x ∈ xs → Same H H' → (∀ H'', Same H H'' → R (b x) H'') → tt (bSt ix σ (some x)) H' R)
    (he : ∀ x H' R, x ∈ xs → b x = true → Same H H' → (∀ H'', Same H H'' → R (f x) H'') → te (bSt ix σ (some x)) H' R)
    (hQ : ∀ H', Same H H' → Q ((xs.filter b).map f) H') : tTurns ix tt te σ (Itl K a) H Q := by
  have hk : ∀ (k : Nat), (((xs.take k).filter b).map f).length ≤ k := fun k => by
    rw [List.length_map]
    exact Nat.le_trans (List.length_filter_le _ _) (List.length_take_le _ _)
  refine ⟨fun i m ys H' => m = xs.length - i ∧ i ≤ xs.length ∧ Same H H' ∧ ys = ((xs.take i).filter b).map f, ⟨xs.length, by simp, Nat.zero_le _, Same.refl H, by simp⟩, ?_⟩
  rintro i m ys H' ⟨rfl, hi, hS, rfl⟩
  by_cases hlt : i < xs.length
  · refine .inr ⟨⟨xs, xs[i], hS.seq hl, by simp [hlt]⟩, fun x H1 y => ?_⟩
    obtain ⟨e, y⟩ := y
    subst e
    have hx : xs[i]? = some x := y xs (hS.seq hl)
    have hmem : x ∈ xs := List.mem_of_getElem? hx
    refine ht x _ _ hmem hS fun H2 hS2 => ?_
    have hstep : ((xs.take (i + 1)).filter b).map f = ((xs.take i).filter b).map f ++ (if b x = true then [f x] else []) := by
      rw [List.take_add_one, hx, List.filter_append, List.map_append]
      cases hb : b x <;> simp [hb]
    by_cases hb : b x = true
    · rw [if_pos hb]
      refine he x _ _ hmem hb hS2 fun H3 hS3 => ⟨Nat.lt_of_le_of_lt (hk i) (Nat.lt_of_lt_of_le hlt (small4 hz)), xs.length - (i + 1), by omega, rfl, hlt, hS3, ?_⟩
      rw [hstep, if_pos hb]
    · rw [if_neg hb]
      refine ⟨xs.length - (i + 1), by omega, rfl, hlt, hS2, ?_⟩
      rw [hstep, if_neg hb, List.append_nil]
  · have e : i = xs.length := by omega
    subst e
    refine .inl ⟨⟨xs, hS.seq hl, Nat.le_refl _⟩, ?_, ?_⟩
    · exact Nat.le_trans (hk _) (small4 hz)
    · rw [List.take_length]
      exact hQ _ hS
/-- over a range -/
theorem turns_range {ix : List Nat} {tt : TT} {te : TE} {σ : L2.St} {lo : Int} {n : Nat} {H : Hp} {Q : List V → Hp → Prop} (b : Int → Bool) (f : Int → V) (hz : n ≤ 4000)
    (ht : ∀ (i : Nat) H' R, i < n → Same H H' → (∀ H'', Same H H'' → R (b (lo + i)) H'') → tt (bSt ix σ (some (.int (lo + i)))) H' R)
    (he : ∀ (i : Nat) H' R, i < n → b (lo + i) = true → Same H H' → (∀ H'', Same H H'' → R (f (lo + i)) H'') → te (bSt ix σ (some (.int (lo + i)))) H' R)
    (hQ : ∀ H', Same H H' → Q ((((List.range n).map fun (i : Nat) => lo + (i : Int)).filter b).map f) H') : tTurns ix tt te σ (Itr lo n) H Q := by
  have hk : ∀ (k : Nat), ((((List.range k).map fun (i : Nat) => lo + (i : Int)).filter b).map f).length ≤ k := fun k => by
    rw [List.length_map]
    exact Nat.le_trans (List.length_filter_le _ _) (by simp)
  refine ⟨fun i m ys H' => m = n - i ∧ i ≤ n ∧ Same H H' ∧ ys = (((List.range i).map fun (i : Nat) => lo + (i : Int)).filter b).map f, ⟨n, by simp, Nat.zero_le _, Same.refl H, by simp⟩, ?_⟩
  rintro i m ys H' ⟨rfl, hi, hS, rfl⟩
  by_cases hlt : i < n
  · refine .inr ⟨hlt, fun x H1 y => ?_⟩
    obtain ⟨e, y⟩ := y
    subst e y
    refine ht i _ _ hlt hS fun H2 hS2 => ?_
    have hstep : (((List.range (i + 1)).map fun (i : Nat) => lo + (i : Int)).filter b).map f = (((List.range i).map fun (i : Nat) => lo + (i : Int)).filter b).map f ++ (if b (lo + i) = true then [f (lo + i)] else []) := by
      rw [List.range_succ, List.map_append, List.filter_append, List.map_append]
      cases hb : b (lo + i) <;> simp [hb]
    by_cases hb : b (lo + i) = true
    · rw [if_pos hb]
      refine he i _ _ hlt hb hS2 fun H3 hS3 => ⟨Nat.lt_of_le_of_lt (hk i) (Nat.lt_of_lt_of_le hlt (small4 hz)), n - (i + 1), by omega, rfl, hlt, hS3, ?_⟩
      rw [hstep, if_pos hb]
    · rw [if_neg hb]
      refine ⟨n - (i + 1), by omega, rfl, hlt, hS2, ?_⟩
      rw [hstep, if_neg hb, List.append_nil]
  · have e : i = n := by omega
    subst e
    exact .inl ⟨Nat.le_refl _, Nat.le_trans (hk _) (small4 hz), hQ _ hS⟩
end
end L3
namespace L3
open PySem PySem.Spec PyProof.Rows L2
/-- over a list of ints that stays -/
theorem turns_ints {K : PySem.W.Frag} {ix : List Nat} {tt : TT} {te : TE} {σ : L2.St} {a : Addr} {ns : List Int} {H : Hp} {Q : List V → Hp → Prop} (b : Int → Bool) (f : Int → Int) (hz : ns.length ≤ 4000) (hl : SqL K H a (ns.map V.int))
    (ht : ∀ x H' R, x ∈ ns → Same H H' → (∀ H'', Same H H'' → R (b x) H'') → tt (bSt ix σ (some (.int x))) H' R)
    (he : ∀ x H' R, x ∈ ns → b x = true → Same H H' → (∀ H'', Same H H'' → R (.int (f x)) H'') → te (bSt ix σ (some (.int x))) H' R)
    (hQ : ∀ H', Same H H' → Q (((ns.filter b).map f).map V.int) H') : tTurns ix tt te σ (Itl K a) H Q := by
  refine turns_list (b := fun v => match v with | .int x => b x | _ => false) (f := fun v => match v with | .int x => .int (f x) | v => v) (by simpa using hz) hl (fun v H' R hv hS hR => ?_) (fun v H' R hv hb hS hR => ?_) fun H' hS => ?_
  · obtain ⟨x, hx, rfl⟩ := List.mem_map.mp hv
    exact ht x H' R hx hS hR
  · obtain ⟨x, hx, rfl⟩ := List.mem_map.mp hv
    exact he x H' R hx hb hS hR
  · have e : ((ns.map V.int).filter fun v => match v with | .int x => b x | _ => false) = (ns.filter b).map V.int := by
      rw [List.filter_map]; rfl
    rw [e, List.map_map]
    have := hQ H' hS
    rw [List.map_map] at this
    exact this
/-- a new list of ints, all else as it was -/
def NewI (H : Hp) (zs : List Int) (Q : VK) : Prop := ∀ (r : Addr) (H' : Hp), Same H H' → H r = none → H' r = some (.lst (zs.map V.int)) → Q (.ref r) H'
theorem ite_dec {c A B : Prop} [Decidable c] (h1 : c → A) (h2 : ¬ c → B) : if decide c = true then A else B := by
  by_cases h : c
  · rw [decide_eq_true h, if_pos rfl]; exact h1 h
  · rw [decide_eq_false h, if_neg Bool.false_ne_true]; exact h2 h
end L3
namespace L3
open PySem PySem.Spec PyProof.Rows L2
/-! ### defs, as they are called -/
structure Cal (P : Program) (w : World) (K : PySem.W.Frag) (mg : Str → Option Value) (base : Heap) (x : Str) (ps : List Str) (k : Nat) (sp : Sp) : Prop where
  ex : ∃ f fd, FnOk P w K mg base CX0 k f fd ps sp ∧ Binds K fd ps [] ∧ PySem.W.keepIn K (.ref f) = true ∧ mg x = some (.ref f)
structure Dfn (K : PySem.W.Frag) (mg : Str → Option Value) (x : Str) (st : Stmt) (ps : List Str) (f : Addr) (fd : FuncData) : Prop where
  F : Fun K x x st f fd
  b : Binds K fd ps []
  m : mg x = some (.ref f)
section
variable {P : Program} {w : World} {K : PySem.W.Frag} {mg : Str → Option Value} {base : Heap} {x : Str} {ps : List Str} {k j : Nat} {sp sp' : Sp} {st : Stmt} {f : Addr} {fd : FuncData}
theorem Cal.up (c : Cal P w K mg base x ps j sp) (h : j ≤ k) : Cal P w K mg base x ps k sp := by
  obtain ⟨f, fd, a, r⟩ := c.ex
  exact ⟨f, fd, a.mono h, r⟩
theorem Cal.imp (c : Cal P w K mg base x ps k sp) (h : ∀ vs H Q E, sp' vs H Q E → sp vs H Q E) : Cal P w K mg base x ps k sp' := by
  obtain ⟨f, fd, a, r⟩ := c.ex
  exact ⟨f, fd, a.imp h, r⟩
theorem Dfn.cal (d : Dfn K mg x st ps f fd) (h : FnOk P w K mg base CX0 k f fd ps sp) : Cal P w K mg base x ps k sp := ⟨f, fd, h, d.b, d.F.kp, d.m⟩
end
end L3
namespace L3
open PySem PySem.Spec PyProof.Rows L2
/-- a whole number of the module -/
theorem pe_globI {X : Cx} {x : Str} {i : Int} {t : Tok} {pos : Pos} (hg : Gl X x) (hm : X.mg x = some (.int i t)) (hd : (x == ("__debug__" : Str)) = false := by decide) : PE X (.Name x pos) (tC (.int i)) := pe_glob hg hm ⟨t, rfl⟩ hd
end L3
namespace L3
open PySem PySem.Spec PyProof.Rows L2
/-- a built-in type, as a value -/
theorem pe_ty {X : Cx} {x : Str} {n : String} {pos : Pos} (hg : Gl X x) (hm : X.mg x = none) (hv : bootBuiltins x = some (.type n)) (hn : x ≠ "__name__" := by decide) (hd : (x == ("__debug__" : Str)) = false := by decide) : PE X (.Name x pos) (tC (.ty n)) := pe_bltn hg hm hv rfl hn hd
end L3
namespace L3
open PySem PySem.Spec PyProof.Rows L2
/-! ### the same rules, the written part named (a comprehension's block has its own context, with the same part) -/
section
variable {X : Cx} (K : PySem.W.Frag)
theorem call_lenK (hK : X.K = K := by rfl) : CallR X (.builtin "len") (fun xs H Q => ∃ p ys, xs = [.ref p] ∧ (SqL K H p ys ∨ SqT K H p ys) ∧ Q (.int ys.length) H) := by subst hK; exact call_len_seq
theorem call_isiK (hK : X.K = K := by rfl) : CallR X (.builtin "isinstance") (fun xs H Q => ∃ x c t b, xs = [x, .ty c] ∧ TyOf K H x t ∧ PySem.W.kitOne K t (.type c) = some b ∧ Q (.bl b) H) := by subst hK; exact call_isi
theorem call_listK (hK : X.K = K := by rfl) : CallR X (.type "list") (fun xs H Q => ∃ p ys, xs = [.ref p] ∧ (SqL K H p ys ∨ SqT K H p ys) ∧ ∀ l, H l = none → Q (.ref l) (upd H l (.lst ys))) := by subst hK; exact call_list_of
theorem ix_listK (hK : X.K = K := by rfl) : IxR X (rIxL K) := by subst hK; exact ix_list
theorem sl_listK (hK : X.K = K := by rfl) : SlR X (rSlL K) := by subst hK; exact sl_list
theorem op_inK (hK : X.K = K := by rfl) : OpR X (compareOp .In) (rIn K false) := by subst hK; exact op_in_seq
theorem op_notInK (hK : X.K = K := by rfl) : OpR X (compareOp .NotIn) (rIn K true) := by subst hK; exact op_notIn_seq
theorem op_eqLK (hu : X.A.units < cLine) (hK : X.K = K := by rfl) : OpR X (compareOp .Eq) (rEqL K false) := by subst hK; exact op_eqL hu
theorem op_neLK (hu : X.A.units < cLine) (hK : X.K = K := by rfl) : OpR X (compareOp .NotEq) (rEqL K true) := by subst hK; exact op_neL hu
theorem pi_listK {tg l : Expr} {tl : TE} (hl : PE X l tl) (hK : X.K = K := by rfl) : PI X tg l (iList K tl) := by subst hK; exact pi_list hl
theorem pe_sorted_setK {e : Expr} {te : TE} {p1 p2 pos pos' : Pos} (hc : X.calm = true) (hs : Gl X "sorted") (ms : X.mg "sorted" = none) (ht : Gl X "set") (mt : X.mg "set" = none) (he : PE X e te) (hK : X.K = K := by rfl)
    (h1 : starEach [e] X.env = [(false, eval e X.env)] := by rfl)
    (h2 : starEach [.Call (.Name "set" p2) [e] [] pos'] X.env = [(false, eval (.Call (.Name "set" p2) [e] [] pos') X.env)] := by rfl) :
    PE X (.Call (.Name "sorted" p1) [.Call (.Name "set" p2) [e] [] pos'] [] pos) (tSS K te) := by subst hK; exact pe_sorted_set hc hs ms ht mt he h1 h2
theorem pe_len_setK {e : Expr} {te : TE} {p1 p2 pos pos' : Pos} (hc : X.calm = true) (hs : Gl X "len") (ms : X.mg "len" = none) (ht : Gl X "set") (mt : X.mg "set" = none) (he : PE X e te) (hK : X.K = K := by rfl)
    (h1 : starEach [e] X.env = [(false, eval e X.env)] := by rfl)
    (h2 : starEach [.Call (.Name "set" p2) [e] [] pos'] X.env = [(false, eval (.Call (.Name "set" p2) [e] [] pos') X.env)] := by rfl) :
    PE X (.Call (.Name "len" p1) [.Call (.Name "set" p2) [e] [] pos'] [] pos) (tLS K te) := by subst hK; exact pe_len_set hc hs ms ht mt he h1 h2
end
end L3
namespace L3
open PySem PySem.Spec PyProof.Rows L2
/-- where ways meet: J is what holds there -/
def tJoin (t : TS) : TS := fun D σ H => ∃ J : L2.St → Hp → Prop, (∀ σ' H', J σ' H' → D.nx σ' H') ∧ t { D with nx := J } σ H
theorem ps_join {X : Cx} {st : Stmt} {t : TS} (h : PS X st t) : PS X st (tJoin t) := fun pins s σ H D I ⟨J, hJ, q⟩ => thn (h pins s σ H _ I q) fun f s' hs => by
  cases f with
  | next => obtain ⟨σ', H', I', j⟩ := hs; exact ⟨σ', H', I', hJ σ' H' j⟩
  | brk => exact hs
  | cont => exact hs
  | ret u => exact hs
theorem same_upd {H H' : Hp} {p : Addr} {o : HO} (g : Same H H') (h : H p = none) : Same H (upd H' p o) := fun b u e => by
  rw [upd_ne (ne_of_none e h)]; exact g b u e
end L3
namespace L3
open PySem PySem.Spec PyProof.Rows L2
theorem iteB {A B : Prop} {b : Bool} (h : b = false) (q : B) : if b = true then A else B := by subst h; exact iteF q
theorem iteA {A B : Prop} {b : Bool} (h : b = true) (q : A) : if b = true then A else B := by subst h; exact iteT q
end L3
namespace L3
open PySem PySem.Spec PyProof.Rows L2
/-! ### lists of lists of ints, compared; a list from behind -/
section
variable {X : Cx}
theorem eqAt_ints {A : Around} {pins : List (Addr × Obj)} {σ : L2.St} {H : Hp} {s : Shared} {a b : Addr} {ns ms : List Int} (I : L2.Inv X pins σ H s) (ha : SqL X.K H a (ns.map V.int)) (hb : SqL X.K H b (ms.map V.int)) (hu : A.units < cLine) :
    SeqAt.EqAt A s (.ref a) (.ref b) (decide (ns = ms)) := by
  by_cases e : a = b
  · subst e
    have h := I.list_inj ha hb
    have h' : ns = ms := by
      have := congrArg (List.map fun v => match v with | V.int i => i | _ => 0) h
      simpa [List.map_map, Function.comp_def] using this
    subst h'
    rw [decide_eq_true rfl]
    exact SeqAt.EqAt.same _
  · refine SeqAt.EqAt.of_refs e ?_
    obtain ⟨its, r1, p1, z1⟩ := I.list ha
    obtain ⟨jts, r2, p2, z2⟩ := I.list hb
    have i1 := ints_of r1
    have i2 := ints_of r2
    have l1 := ints_len i1
    have l2 := ints_len i2
    by_cases hl : ns.length = ms.length
    · have := SeqAt.RcAt.lists (A := A) (e := fun j => ns.getD j 0 == ms.getD j 0) p1.isList p2.isList (by simp; omega) hu (fun j h1 h2 => by
        obtain ⟨t, e⟩ := ints_at i1 j (by simpa using h1)
        obtain ⟨t', e'⟩ := ints_at i2 j (by simpa using h2)
        simp only [List.getElem_toArray]
        rw [e, e']
        exact SeqAt.EqAt.int_int _ _ _ _)
      rw [List.size_toArray, l1, all_eq hl] at this
      exact this
    · have := SeqAt.RcAt.lists_lengths (A := A) p1.isList p2.isList (by simp; omega) hu
      have h' : ¬ ns = ms := fun e => hl (by rw [e])
      rw [decide_eq_false h']
      exact this
def LL (K : PySem.W.Frag) (H : Hp) : List V → List (List Int) → Prop := Paired fun v ns => ∃ a, v = .ref a ∧ SqL K H a (ns.map V.int)
theorem LL.len {K : PySem.W.Frag} {H : Hp} {xs : List V} {ls : List (List Int)} (h : LL K H xs ls) : xs.length = ls.length := Paired.length h
theorem LL.at {K : PySem.W.Frag} {H : Hp} : ∀ {xs : List V} {ls : List (List Int)}, LL K H xs ls → ∀ (j : Nat), j < ls.length → ∃ a, xs[j]? = some (.ref a) ∧ SqL K H a ((ls.getD j []).map V.int)
  | _, _, .nil, j, h => absurd h (by simp)
  | _, _, .cons ⟨a, e, q⟩ t, 0, h => ⟨a, by simp [e], q⟩
  | _, _, .cons _ t, j + 1, h => by
    obtain ⟨a, e, q⟩ := LL.at t j (by simpa using h)
    exact ⟨a, by simpa using e, by simpa using q⟩
theorem all_eqL {ls ms : List (List Int)} (h : ls.length = ms.length) : ((List.range ls.length).all fun j => decide (ls.getD j [] = ms.getD j [])) = decide (ls = ms) := by
  rw [Bool.eq_iff_iff]
  simp only [List.all_eq_true, List.mem_range, decide_eq_true_eq]
  constructor
  · intro q
    apply List.ext_getElem h
    intro i h1 h2
    have := q i h1
    simpa [h1, h2] using this
  · rintro rfl i _; rfl
def rEqLL (K : PySem.W.Frag) (neg : Bool) : R2 := fun x y H Q => ∃ (p q : Addr) (xs ys : List V) (ls ms : List (List Int)), x = .ref p ∧ y = .ref q ∧ SqL K H p xs ∧ SqL K H q ys ∧ LL K H xs ls ∧ LL K H ys ms ∧ Q (.bl (if neg then !decide (ls = ms) else decide (ls = ms))) H
theorem item_at {pins : List (Addr × Obj)} {σ : L2.St} {H : Hp} {s : Shared} {its jts : List Value} {xs ys : List V} {ls ms : List (List Int)} (I : L2.Inv X pins σ H s) (r1 : Vals xs its) (r2 : Vals ys jts) (q1 : LL X.K H xs ls) (q2 : LL X.K H ys ms) (hl : ls.length = ms.length) (hu : X.A.units + 1 < cLine)
    (j : Nat) (h1 : j < its.toArray.size) (h2 : j < jts.toArray.size) : SeqAt.EqAt X.A.in1 s its.toArray[j] jts.toArray[j] (decide (ls.getD j [] = ms.getD j [])) := by
  have e1 := r1.length
  have e2 := q1.len
  have hj : j < ls.length := by simp at h1; omega
  obtain ⟨a, ea, ha⟩ := q1.at j hj
  obtain ⟨b, eb, hb⟩ := q2.at j (by omega)
  obtain ⟨u, hu1, ru⟩ := r1.get ea
  obtain ⟨v, hv1, rv⟩ := r2.get eb
  have hu2 : its.toArray[j] = .ref a := by
    have : its[j]? = some (.ref a) := by rw [hu1]; exact congrArg some ru
    simp at h1
    simpa [h1] using this
  have hv2 : jts.toArray[j] = .ref b := by
    have : jts[j]? = some (.ref b) := by rw [hv1]; exact congrArg some rv
    simp at h2
    simpa [h2] using this
  rw [hu2, hv2]
  exact eqAt_ints I ha hb (by show X.A.units + 1 < cLine; exact hu)
theorem op_eqLLK (K : PySem.W.Frag) (hu : X.A.units + 1 < cLine) (hK : X.K = K := by rfl) : OpR X (compareOp .Eq) (rEqLL K false) := by
  subst hK
  intro pins s σ H x y v u Q I rx ry h
  obtain ⟨p, q, xs, ys, ls, ms, rfl, rfl, hp, hq, q1, q2, h⟩ := h
  cases rx
  cases ry
  obtain ⟨its, r1, p1, z1⟩ := I.list hp
  obtain ⟨jts, r2, p2, z2⟩ := I.list hq
  have e1 := r1.length
  have e2 := r2.length
  have e3 := q1.len
  have e4 := q2.len
  by_cases hl : ls.length = ms.length
  · refine SeqAt.eq_listAt (e := fun j => decide (ls.getD j [] = ms.getD j [])) p1.isList p2.isList (by simp; omega) (by omega) (fun j h1 h2 => item_at I r1 r2 q1 q2 hl hu j h1 h2) ⟨.bl _, H, I, ?_, h⟩
    show Value.bool _ = Value.bool _
    rw [List.size_toArray, show its.length = ls.length by omega, all_eqL hl]
    rfl
  · refine SeqAt.eq_list_lengthsAt p1.isList p2.isList (by simp; omega) (by omega) ⟨.bl _, H, I, ?_, h⟩
    have : ¬ ls = ms := fun e => hl (by rw [e])
    simp [this, L2.RelV]
theorem op_neLLK (K : PySem.W.Frag) (hu : X.A.units + 1 < cLine) (hK : X.K = K := by rfl) : OpR X (compareOp .NotEq) (rEqLL K true) := by
  subst hK
  intro pins s σ H x y v u Q I rx ry h
  obtain ⟨p, q, xs, ys, ls, ms, rfl, rfl, hp, hq, q1, q2, h⟩ := h
  cases rx
  cases ry
  obtain ⟨its, r1, p1, z1⟩ := I.list hp
  obtain ⟨jts, r2, p2, z2⟩ := I.list hq
  have e1 := r1.length
  have e2 := r2.length
  have e3 := q1.len
  have e4 := q2.len
  by_cases hl : ls.length = ms.length
  · refine SeqAt.RcNeAt.lists (e := fun j => decide (ls.getD j [] = ms.getD j [])) p1.isList p2.isList (by simp; omega) (by omega) (fun j h1 h2 => item_at I r1 r2 q1 q2 hl hu j h1 h2) _ _ _ _ ⟨.bl _, H, I, ?_, h⟩
    show Value.bool _ = Value.bool _
    rw [List.size_toArray, show its.length = ls.length by omega, all_eqL hl]
    rfl
  · refine SeqAt.RcNeAt.lists_lengths p1.isList p2.isList (by simp; omega) (by omega) _ _ _ _ ⟨.bl _, H, I, ?_, h⟩
    have : ¬ ls = ms := fun e => hl (by rw [e])
    simp [this, L2.RelV]

/-- xs[::-1] of a list of ints: ints again, no more of them (in which order is not told) -/
def tRev (K : PySem.W.Frag) (te : TE) : TE := fun σ H Q => te σ H fun x H1 => ∃ (a : Addr) (ns : List Int), x = .ref a ∧ SqL K H1 a (ns.map V.int) ∧ ∀ (p : Addr) (zs : List Int), H1 p = none → zs.length ≤ ns.length → Q (.ref p) (upd H1 p (.lst (zs.map V.int)))
theorem pe_revK (K : PySem.W.Frag) {e : Expr} {te : TE} {pos p2 p3 p4 : Pos} {j : Nat} (he : PE X e te) (hK : X.K = K := by rfl) : PE X (.Subscript e (.Slice none none (some (.UnaryOp .USub (.Constant (.int 1) j p4) p3)) p2) pos) (tRev K te) := by
  subst hK
  intro pins s σ H Q I h
  refine Subscript_ (thn (he pins s σ H _ I h) fun v s1 ⟨x, H1, I1, r1, q1⟩ => ?_)
  obtain ⟨a, ns, rfl, hx, q⟩ := q1
  cases r1
  have hl : PO X none tNoPart := po_none
  have hs : PO X (some (.UnaryOp .USub (.Constant (.int 1) j p4) p3)) _ := po_some (pe_un un_neg pe_int)
  refine wpAny_Slice (thn (hl pins s1 σ H1 (fun o H' => o = none ∧ H' = H1) I1 ⟨rfl, rfl⟩) fun vl s2 ⟨l, H2, I2, pl, e2, e2'⟩ => thn (hl pins s2 σ H2 (fun o H' => o = none ∧ H' = H2) I2 ⟨rfl, rfl⟩) fun vu s3 ⟨u, H3, I3, pu, e3, e3'⟩ => ?_)
  subst e2 e2' e3 e3'
  refine thn (hs pins s3 σ H3 (fun o H' => o = some (-1) ∧ H' = H3) I3 ⟨_, rfl, _, rfl, rfl, rfl⟩) fun vs s4 ⟨st, H4, I4, ps, e4, e4'⟩ => ?_
  subst e4 e4'
  have I5 : L2.Inv X pins σ H4 { s4 with heap := s4.heap.push { cls := .type "slice", data := .fields #[vl, vu, vs] } } := I4.kept (t' := s4.toks) fun b ob q => Heap.get?_push_of_some _ q
  obtain ⟨its, r, ht, hz⟩ := I5.list hx
  have hi := ints_of r
  have hlen := ints_len hi
  show wpAny (model X.prog X.w) X.A (subscriptTail e (.Slice none none (some (.UnaryOp .USub (.Constant (.int 1) j p4) p3)) p2) (.ref a) (.ref s4.heap.objs.size)) (EP X pins σ Q) X.xe { s4 with heap := s4.heap.push { cls := .type "slice", data := .fields #[vl, vu, vs] } }
  refine tail_any (ops := [.ref a, .ref s4.heap.objs.size]) ht.isList.typeIs slot_list_getitem.lookup ?_ (by with_unfolding_all rfl)
  rw [List.length_map] at hz
  refine wpAny_getItem_list_slice ht.isList (Heap.IsSliceOf.new ..) pl pu ps (by simp) ?_ (by rw [List.size_toArray]; omega)
  have hpk := hi.pick none none (some (-1))
  have hle := slicePick_size_le its.toArray none none (some (-1))
  have hpl := ints_len hpk
  have hfin : (pickNums ns none none (some (-1))).length ≤ ns.length := by
    have z1 : (slicePick its.toArray none none (some (-1))).toList.length ≤ its.length := by
      rw [Array.length_toList]
      exact Nat.le_trans hle (Nat.le_of_eq List.size_toArray)
    omega
  refine ⟨.ref _, _, I5.laid (t' := s4.toks) (o := .lst ((pickNums ns none none (some (-1))).map V.int)) (fun b ob q => Heap.get?_push_of_some _ q) (Nat.le_refl _) ?_, rfl, q _ _ (I5.hok.fresh (Nat.le_refl _)) hfin⟩
  exact ⟨by rw [List.length_map]; omega, _, 0, vals_ints hpk, by rw [Array.toArray_toList]; exact Heap.get?_push_size _ rfl⟩
end
end L3
namespace L3
open PySem PySem.Spec PyProof.Rows L2
/-! ### min(a list of ints) -/
theorem min_ints {prog : Program} {w : World} {A : Around} {E : Value → Shared → Prop} {s : Shared} {l : Addr} {vs : List Value} {ns : List Int} {Q : Value → Shared → Prop} (hh : A.handled = none) (hl : s.heap.IsList l vs.toArray) (hi : IntsAre vs ns) (hne : 0 < ns.length)
    (h : ∀ h' M (t : Tok) tk, (∀ b o, s.heap.get? b = some o → h'.get? b = some o) → M ∈ ns → (∀ a, a ∈ ns → M ≤ a) → Q (.int M t) { s with heap := h', toks := tk }) :
    wpAny (model prog w) A (call (.builtin "min") [.ref l]) Q E s := by
  obtain ⟨xs, e⟩ := hi.allInts.items
  have hns : ns = xs.toList.map (·.1) := by rw [← hi.numsOf, ← nums_intItems, ← e]
  have hsz : 0 < xs.size := by
    have h3 := hne
    rw [hns, List.length_map, Array.length_toList] at h3
    exact h3
  rw [e] at hl
  refine min_intList hh hl hsz fun v h' tk hv hk => ?_
  obtain ⟨t, rfl⟩ := intItems_at hv
  obtain ⟨h1, h2⟩ := argBest_lt (numAt xs) (xs.size - 1)
  refine h _ _ t tk hk ?_ fun a ha => ?_
  · rw [hns, numAt_eq]; exact getD_mem (by rw [List.length_map, Array.length_toList]; omega)
  · rw [hns] at ha
    obtain ⟨j, hj, rfl⟩ := mem_getD ha
    rw [List.length_map, Array.length_toList] at hj
    rw [← numAt_eq]; exact h2 j (by omega)
section
variable {X : Cx} (K : PySem.W.Frag)
theorem call_minLK (hc : X.calm = true) (hK : X.K = K := by rfl) : CallR X (.builtin "min") (fun xs H Q => ∃ (p : Addr) (ns : List Int), xs = [.ref p] ∧ SqL K H p (ns.map V.int) ∧ 0 < ns.length ∧ ∀ M : Int, M ∈ ns → (∀ a, a ∈ ns → M ≤ a) → Q (.int M) H) := by
  subst hK
  intro pins s σ H xs us Q I r h
  obtain ⟨p, ns, rfl, hp, hn, q⟩ := h
  obtain ⟨u, rfl, rx⟩ := vals1 r
  cases rx
  obtain ⟨its, r1, p1, z1⟩ := I.list hp
  exact min_ints (I.ok.hd hc) p1.isList (ints_of r1) hn fun h' M t tk hk hm hle => ⟨.int M, H, I.kept (t' := tk) hk, ⟨t, rfl⟩, q M hm hle⟩
end
/-! ### name = [a comprehension], the stores exchanged -/
section
variable {X : Cx} {x : Str} {scope : Scope}
/-- what a comprehension asks, put together -/
structure CP (X : Cx) (x : Str) (px : Pos) (iter : Expr) (ifs : List Expr) (elt : Expr) (scope : Scope) (ix : List Nat) (wi : TI) (tt : TT) (te : TE) : Prop where
  ex : ∃ N : List Str, PI X (.Name x px) iter wi ∧ (∀ cl fp s2 H2, PIfs (blk X scope cl fp N s2 H2) ifs tt) ∧ (∀ cl fp s2 H2, PE (blk X scope cl fp N s2 H2) elt te) ∧ X.calm = true ∧ COk X scope x N ix ∧ ∀ v, foldedSetIterable iter X.env v = pure v
theorem cp_mk {elt iter : Expr} {px : Pos} {ifs : List Expr} {wi : TI} {tt : TT} {te : TE} {N : List Str} {ix : List Nat} (hi : PI X (.Name x px) iter wi)
    (ht : ∀ cl fp s2 H2, PIfs (blk X scope cl fp N s2 H2) ifs tt) (he : ∀ cl fp s2 H2, PE (blk X scope cl fp N s2 H2) elt te)
    (hc : X.calm = true := by rfl) (hk : scope.kind = .function := by rfl) (hok : cOk X.N X.env.kindOf scope x N ix = true := by rfl)
    (hs : ∀ x, foldedSetIterable iter X.env x = pure x := by intro _; rfl) : CP X x px iter ifs elt scope ix wi tt te := ⟨N, hi, ht, he, hc, COk.of hk hok, hs⟩
def tSetC (i : Nat) (t : TE) : TS := fun D σ H => t σ H fun v H1 => D.nx (σ.set i (some v)) H1
theorem ps_setC {i : Nat} {y : Str} {elt iter : Expr} {px py pos spos : Pos} {ifs : List Expr} {wi : TI} {tt : TT} {te : TE} {ix : List Nat} (hN : X.N.Nodup) (hi : X.N[i]? = some y) (hy : X.env.scope.names.lookup y = some .local) (C : CP X x px iter ifs elt scope ix wi tt te)
    (hsw : swapsWith (.ListComp elt [⟨.Name x px, iter, ifs, 0⟩] scope pos) (some (.Name y py)) spos.line X.env = pure true := by rfl) :
    PS X (.Assign [.Name y py] (.ListComp elt [⟨.Name x px, iter, ifs, 0⟩] scope pos) spos) (tSetC i (tComp ix wi tt te)) := by
  intro pins s σ H D I h
  obtain ⟨N, hI, ht, he, hc, C, hs⟩ := C.ex
  obtain ⟨cl, hcl, L⟩ := cl_ok C I.ok
  rw [exec_Assign_Name_used _ _ _ _ hsw]
  refine wpAny_bind (wpAny_standAt (wpAny_bind ?_))
  show wpAny _ X.A (do let _ ← comprehension (.ListComp elt [⟨.Name x px, iter, ifs, 0⟩] scope pos) scope X.env _ (newList []) false (eval iter X.env) (some (assign (.Name y py) X.env))) _ _ s
  refine wpAny_bind (wpAny_mono (wpAny_comprehension_free (use := some (assign (.Name y py) X.env)) (Q := fun _ s' => SP X pins D .next s') rfl hs hcl C.kind C.nm (thn (hI pins s σ H _ I h) fun v s1 h1 => thn h1 fun itv s2 h2 => ?_)) (fun _ s' hq => wpAny_pure (wpAny_pure hq)) fun _ _ e => e)
  obtain ⟨it, fp, tn, J, H2, e, I2, T, st2, f2, hw⟩ := h2
  subst e
  refine block (RR := fun acc C => compPost (model X.prog X.w) X.A X.xe (some (assign (.Name y py) X.env)) (fun _ s' => SP X pins D .next s') acc C) hc C L I2 T st2 f2 (ht cl fp s2 H2) (he cl fp s2 H2) hw fun Da Ca s' H' ys m hD q IX fC hn => ?_
  show wpAny _ X.A (assign (.Name y py) X.env (.ref Da)) _ _ s'
  refine wpAny_assign_Name (store_ok2 IX hN hi (.inl hy) (show L2.RelV (.ref Da) (.ref Da) from rfl) (fun s'' I'' ⟨a, sb, ha⟩ => ?_) (.inr hy))
  obtain ⟨c0, c1, c2, c3, c4, c5⟩ := fC
  have hne : Ca ≠ a := by
    rcases ha with z | z
    · rw [z]; exact c1
    · exact (c4 y a z).symm
  refine ⟨m, hn.sameBut sb hne, fun h' sb' => ?_⟩
  exact ⟨_, _, I''.turned (t' := s''.toks) (fun b ob hb e => (sb'.2 b hb).trans e) c0 c1 c3 c4 c5, q Da hD⟩
end
end L3

set_option Elab.async false
set_option linter.all false
set_option maxRecDepth 100000
set_option maxHeartbeats 4000000
/-! more rules: sum, sorted of a list, range with a step of -1, insert -/
namespace L3
open PySem PySem.Spec PyProof.Rows L2
section
variable {X : Cx} (K : PySem.W.Frag)
theorem bt_sum : bootBuiltins "sum" = some (.builtin "sum") := by decide +kernel
theorem bt_abs : bootBuiltins "abs" = some (.builtin "abs") := by decide +kernel
theorem bt_dict : bootBuiltins "dict" = some (.type "dict") := by decide +kernel
theorem call_sumLK (hc : X.calm = true) (hK : X.K = K := by rfl) : CallR X (.builtin "sum") (fun xs H Q => ∃ (p : Addr) (ns : List Int), xs = [.ref p] ∧ SqL K H p (ns.map V.int) ∧ Q (.int ns.sum) H) := by
  subst hK
  intro pins s σ H xs us Q I r h
  obtain ⟨p, ns, rfl, hp, q⟩ := h
  obtain ⟨u, rfl, rx⟩ := vals1 r
  cases rx
  obtain ⟨its, r1, p1, z1⟩ := I.list hp
  have hi : IntsAre its ns := ints_of r1
  obtain ⟨ys, e⟩ := hi.allInts.items
  have hns : ns = ys.toList.map (·.1) := by rw [← hi.numsOf, ← nums_intItems, ← e]
  have hl := p1.isList
  rw [e] at hl
  refine sum_intListG (I.ok.hd hc) hl fun h' tk t' hk => ⟨.int ns.sum, H, I.kept (t' := tk) hk, ⟨t', ?_⟩, q⟩
  rw [preSum_eq, List.take_of_length_le (by simp), ← hns]
/-- sorted(xs) of ints -/
theorem call_sortedLK (hK : X.K = K := by rfl) : CallR X (.builtin "sorted") (fun xs H Q => ∃ (p : Addr) (ns : List Int), xs = [.ref p] ∧ SqL K H p (ns.map V.int) ∧ ns.length < 64 ∧
    ∀ (l : Addr) (zs : List Int), H l = none → zs.Perm ns → zs.Pairwise (· ≤ ·) → Q (.ref l) (upd H l (.lst (zs.map V.int)))) := by
  subst hK
  intro pins s σ H xs us Q I r h
  obtain ⟨p, ns, rfl, hp, hn, q⟩ := h
  obtain ⟨u, rfl, rx⟩ := vals1 r
  cases rx
  obtain ⟨its, r1, p1, z1⟩ := I.list hp
  have hi : IntsAre its ns := ints_of r1
  have l1 := ints_len hi
  refine sorted_ints p1.isList hi (by omega) fun out zs a1 a2 a3 => ?_
  obtain ⟨e, he⟩ := sortedAll_at s.heap its out
  have hf : H (s.heap.objs.size + 1) = none := I.hok.fresh (Nat.le_succ _)
  refine ⟨.ref _, _, I.laid (t' := s.toks) (o := .lst (zs.map V.int)) (fun b ob q => sortedAll_old q) (Nat.le_succ _) ?_, rfl, q _ zs hf a2 a3⟩
  refine ⟨by rw [List.length_map, a2.length_eq]; exact small4 (by omega), out.toList, e, vals_ints a1, by simpa using he⟩
def rInsert : V → List V → Hp → VK → Prop := fun x vs H Q => ∃ (l : Addr) (xs : List V) (i : Int) (y : V), x = .ref l ∧ vs = [.int i, y] ∧ H l = some (.lst xs) ∧ 0 ≤ i ∧ i ≤ xs.length ∧ xs.length < 4000 ∧ Q .non (upd H l (.lst (xs.take i.toNat ++ y :: xs.drop i.toNat)))
theorem mt_insert : MtM X "list.insert" rInsert := by
  intro pins s σ H x vs v us Q I rx rv h
  obtain ⟨l, xs, i, y, rfl, rfl, hH, h0, h1, hz, q⟩ := h
  cases rx
  cases rv with
  | cons ri rr =>
    cases rr with
    | cons ry rr =>
      cases rr
      obtain ⟨t, rfl⟩ := ri
      obtain ⟨z, its, n, r, hl, e⟩ := I.lstM hH
      have ll := r.length
      refine call_meets F.slot_list_insert ⟨_, e, rfl⟩ F.entry_list_insert (F.args_list_insert_3 _ _ _) (PySem.AutoListH.list_insert_list_int_val_1 l its.toArray n i t _ (by
        unfold Builtin.List.listFitsIndex
        simp
        omega) (by rw [List.size_toArray]; exact small4 (by omega))) ⟨e, ?_⟩
      refine ⟨.non, _, I.lset (its' := its.take i.toNat ++ _ :: its.drop i.toNat) hH e ?_ ((r.take _).append (.cons ry (r.drop _))) ?_, rfl, q⟩
      · have hi : min i.toNat its.length = i.toNat := by omega
        rw [if_neg (by omega)]
        simp only [List.size_toArray, hi]
        simp
        exact List.take_of_length_le (by rw [List.length_drop]; omega)
      · rw [List.length_append, List.length_cons, List.length_take, List.length_drop]
        exact small4 (by omega)
end
/-! ### range(a, b, -1) -/
section
variable {X : Cx} {tg : Expr}
/-- lo, lo - 1, .. (n of them) -/
def Itd (lo : Int) (n : Nat) : It := ⟨fun i _ => i < n, fun i H x H' => H' = H ∧ x = .int (lo - i), fun i _ => n ≤ i⟩
theorem turn_down {P : Program} {w : World} {K : PySem.W.Frag} {tg : Expr} (it : Addr) (lo : Int) (n : Nat) : Turn P w K tg (Itd lo n) [it] it (fun i h => IsRangeIter h it (lo + (i : Nat) * (-1)) ((n : Int) - (i : Nat)) (-1)) where
  mem := by simp
  obj := fun i h st b hb => by
    have e : b = it := by simpa using hb
    subst e
    exact ⟨_, st, fun v z => by
      have z' : Data.fields _ = Data.cell v := z
      cases z'⟩
  keep := fun i h h' st k => k it (by simp) _ st
  item := by
    intro X hP hw hK hc i pins s σ H E I hf st hg
    subst hP hw hK
    obtain ⟨f0, f1, f2, f3, f4, f5⟩ := hf it (by simp)
    have W := Walks.range (prog := X.prog) (w := X.w) (I.ok.hd hc) it lo (-1) n
    refine W.item i s _ _ hg st fun v h' tk hv st' kk => ?_
    obtain ⟨t, rfl⟩ := hv
    have I1 : L2.Inv X pins σ H { s with heap := h', toks := tk } := I.turned (fun b o hb e => kk b o (by simpa using hb) e) f0 f1 f3 f4 f5
    refine ⟨_, rfl, go_of (s := { s with heap := h', toks := tk }) (n := "range_iterator") st' rfl rfl (by decide) ⟨.int (lo - i), H, I1, ⟨t, ?_⟩, ⟨rfl, rfl⟩, st', fun b hb => (hf b hb).1⟩⟩
    rw [show lo - (i : Int) = lo + (i : Int) * -1 by omega]
  done := by
    intro X hP hw hK hc i pins s σ H E I hf st hg
    subst hP hw hK
    obtain ⟨f0, f1, f2, f3, f4, f5⟩ := hf it (by simp)
    exact wpAny_pyNext_range_end (I.ok.hd hc) st (by have : n ≤ i := hg; omega) fun h' eb => ⟨rfl, I.turned (t' := s.toks) (fun b o hb e => eb b o hb e) f0 f1 f3 f4 f5⟩
  self := fun _ _ _ _ _ st h => wpAny_pyIter_rangeiter st h
theorem size_down (a b : Int) : Builtin.Range.rangeSize a b (-1) = if b < a then a - b else 0 := by
  unfold Builtin.Range.rangeSize
  simp only [show ¬ (-1 : Int) > 0 by decide, if_false, show -(-1 : Int) = 1 by decide, Int.ediv_one]
  split <;> omega
theorem small_down {a b : Int} (ha : -(2 ^ 62) ≤ a) (ha' : a < 2 ^ 62) (hb : -(2 ^ 62) ≤ b) (hb' : b < 2 ^ 62) : Builtin.Range.small a b (-1) = true := by
  unfold Builtin.Range.small
  rw [size_down]
  simp only [Builtin.Range.rangeFitsLong, Bool.and_eq_true, Bool.or_eq_true, decide_eq_true_eq, beq_iff_eq, show ¬ (-1 : Int) > 0 by decide, if_false]
  split <;> omega
theorem down_it {pins : List (Addr × Obj)} {σ : L2.St} {H : Hp} {s : Shared} {R : It → Hp → Prop} {E : Value → Shared → Prop} {lo hi : Int} {t u v : Tok} {tk : Nat} (I : L2.Inv X pins σ H s) (h1 : -(2 ^ 62) ≤ lo) (h2 : lo < 2 ^ 62) (h3 : -(2 ^ 62) ≤ hi) (h4 : hi < 2 ^ 62)
    (q : R (Itd lo (lo - hi).toNat) H) : wpAny (model X.prog X.w) X.A (pyIter (.ref s.heap.objs.size)) (PIE X pins σ tg R) E { s with heap := s.heap.push { cls := .type "range", data := .fields #[.int lo t, .int hi u, .int (-1) v] }, toks := tk } := by
  refine wpAny_pyIter_range (IsRange.new ..) (small_down h1 h2 h3 h4) ?_
  have I1 : L2.Inv X pins σ H { s with heap := s.heap.push { cls := .type "range", data := .fields #[.int lo t, .int hi u, .int (-1) v] }, toks := tk } := I.kept fun b o e => Heap.get?_push_of_some _ e
  refine ⟨(s.heap.push { cls := .type "range", data := .fields #[.int lo t, .int hi u, .int (-1) v] }).objs.size, [(s.heap.push { cls := .type "range", data := .fields #[.int lo t, .int hi u, .int (-1) v] }).objs.size], _, _, H, rfl,
    I1.kept (t' := tk) fun b o e => Heap.get?_push_of_some _ e, turn_down _ lo (lo - hi).toNat, ?_, fun b hb => ?_, q⟩
  · have e1 : lo + ((0 : Nat) : Int) * (-1) = lo := by simp
    have e2 : (((lo - hi).toNat : Nat) : Int) - ((0 : Nat) : Int) = Builtin.Range.rangeSize lo hi (-1) := by rw [size_down]; split <;> omega
    show IsRangeIter _ _ (lo + ((0 : Nat) : Int) * (-1)) ((((lo - hi).toNat : Nat) : Int) - ((0 : Nat) : Int)) (-1)
    rw [e1, e2]
    exact Heap.get?_push_size _ rfl
  · have e : b = (s.heap.push { cls := .type "range", data := .fields #[.int lo t, .int hi u, .int (-1) v] }).objs.size := by simpa using hb
    subst e
    exact I1.fpOk (Nat.le_refl _) (I1.hok.fresh (Nat.le_refl _))
def iRng3 (ta : TA) : TI := fun σ H R => ta σ H fun vs H1 => ∃ i j : Int, vs = [.int i, .int j, .int (-1)] ∧ (-(2 ^ 31) ≤ i ∧ i < 2 ^ 31 ∧ -(2 ^ 31) ≤ j ∧ j < 2 ^ 31) ∧ R (Itd i (i - j).toNat) H1
theorem pi_range3 {a b c : Expr} {ta : TA} {p pos : Pos} (hg : Gl X "range") (hm : X.mg "range" = none) (ha : PA X [a, b, c] ta) (hs : starEach [a, b, c] X.env = [(false, eval a X.env), (false, eval b X.env), (false, eval c X.env)] := by rfl)
    (hs2 : starEach [b, c] X.env = [(false, eval b X.env), (false, eval c X.env)] := by rfl) (hs3 : starEach [c] X.env = [(false, eval c X.env)] := by rfl) :
    PI X tg (.Call (.Name "range" p) [a, b, c] [] pos) (iRng3 ta) := by
  intro pins s σ H R I h
  refine Call_ (ld_blt I hg hm boot_range (PyProof.Rows.callWith_type1 (thn (ha pos pins s σ H _ I h) fun us s1 ⟨vs, H1, I1, r1, q1⟩ => ?_) (by rw [hs, hs2]) (by rw [hs2]; rfl)))
  obtain ⟨i, j, e, ⟨q1, q2, q3, q4⟩, q⟩ := q1
  subst e
  cases r1 with
  | cons r rr =>
    cases rr with
    | cons r' rr =>
      cases rr with
      | cons r'' rr =>
        cases rr
        obtain ⟨t, rfl⟩ := r
        obtain ⟨t', rfl⟩ := r'
        obtain ⟨t'', rfl⟩ := r''
        exact call_range_3 (by decide) (down_it I1 (by omega) (by omega) (by omega) (by omega) q) (.inl (PyProof.noPylong_small (by omega)))
theorem for_down {lo : Int} {n : Nat} {g : TG} {tb : TS} {D : Ends} {σ : L2.St} {H : Hp} (Pv : Nat → L2.St → Hp → Prop) (h0 : Pv 0 σ H)
    (hs : ∀ i σ H, i < n → Pv i σ H → g (.int (lo - i)) σ H fun σ2 H2 => tb { D with nx := Pv (i + 1), ct := Pv (i + 1), bk := D.nx } σ2 H2) (hd : ∀ σ H, Pv n σ H → D.nx σ H) :
    ∃ W : Nat → Nat → L2.St → Hp → Prop, (∃ m, W 0 m σ H) ∧ ∀ i m σ H, W i m σ H →
      ((Itd lo n).stop i H ∧ D.nx σ H) ∨ ((Itd lo n).go i H ∧ ∃ N : L2.St → Hp → Prop, (∀ σ' H', N σ' H' → ∃ m', m' < m ∧ W (i + 1) m' σ' H') ∧ ∀ x H', (Itd lo n).yld i H x H' → g x σ H' fun σ2 H2 => tb { D with nx := N, ct := N, bk := D.nx } σ2 H2) := by
  refine ⟨fun i m σ H => m = n - i ∧ i ≤ n ∧ Pv i σ H, ⟨n, by simp, Nat.zero_le _, h0⟩, ?_⟩
  rintro i m σ H ⟨rfl, hi, p⟩
  by_cases hlt : i < n
  · refine .inr ⟨hlt, Pv (i + 1), fun σ' H' p' => ⟨n - (i + 1), by omega, rfl, hlt, p'⟩, fun x H' y => ?_⟩
    obtain ⟨e, y⟩ := y
    subst e y
    exact hs i σ _ hlt p
  · have e : i = n := by omega
    subst e
    exact .inl ⟨Nat.le_refl _, hd σ H p⟩
end
end L3

set_option Elab.async false
set_option linter.all false
set_option maxRecDepth 100000
set_option maxHeartbeats 4000000
/-! list(a dict): its keys -/
namespace L3
open PySem PySem.Spec PyProof.Rows
section
variable {prog : Program} {w : World} {A : Around} {E : Value → Shared → Prop} {s : Shared} {κ : Type} [DecidableEq κ] {knd : KeyKind prog w κ}
theorem hint_dict {d : Addr} {Q : Bool → Shared → Prop} (hT : s.TypeIs (.ref d) "dict") (h : Q false s) : wpAny (model prog w) A (Builtin.List.listLengthHint (.ref d)) Q E s := by
  unfold Builtin.List.listLengthHint
  refine wpAny_bind (wpAny_specialOf hT F.slot_dict_len.lookup ?_)
  generalize hid : ("dict.__len__" : String) = id0
  wp_delta
  rw [show splitId id0 = some ("dict", "__len__") from by subst hid; decide +kernel]
  subst hid
  refine wpAny_bind (wpAny_isInstance (T := "dict") (b := true) hT (by rw [isSubtype_type]; kernel_rfl) ?_)
  refine wpAny_ite_split (fun hab => absurd hab (by decide)) (fun _ => ?_)
  refine wpAny_ite_split (fun _ => ?_) (fun hab => absurd (by decide +kernel) hab)
  refine wpAny_bind (wpAny_typeOf (T := "dict") hT ?_)
  exact wpAny_pure h
theorem extend_dict {R : Result → Shared → Prop} {d : Addr} {kvs : List (κ × Value)} (hh : A.handled = none) (hd : (d == sysModules) = false) (hD : s.heap.DictOf knd d kvs) (hlen : kvs.length ≤ 4000)
    (S : Addr) (res : Value) (c₀ : Nat) (hS : s.heap.get? S = some { cls := .type "list", data := .seq #[] c₀ })
    (hR : ∀ h' tk acc' c', (∀ b o, b ≠ S → s.heap.get? b = some o → h'.get? b = some o) → h'.get? S = some { cls := .type "list", dict := none, data := .seq acc' c', slots := #[] } →
      ItemsOf (fun i v => ∃ k x, kvs[i]? = some (k, x) ∧ knd.is k v = true) acc' kvs.length → R (.ok (.ret res)) { s with heap := h', toks := tk }) :
    wpAny (model prog w) A.in1 (Builtin.List.listExtendWith (.ref S) (.ref d) res)
      (fun fin s' => match fin with | .done f => R (.ok f) s' | .again c' => c'.quiet = true ∧ codeAny (model prog w) A c' R s') (fun e s' => R (.error e) s') s := by
  obtain ⟨ep, hA⟩ := hD.dictAt
  have hT : s.TypeIs (.ref d) "dict" := hD.typeIs
  have hSd : S ≠ d := fun e => by
    obtain ⟨o, es, ho, hc, hdat, _⟩ := id hA
    rw [← e, hS] at ho
    cases ho
    exact absurd hdat (by simp)
  have hSlt : S < s.heap.objs.size := Heap.lt_size hS
  have hSI : S ≠ s.heap.objs.size := Nat.ne_of_lt hSlt
  have hdI : d ≠ s.heap.objs.size := Nat.ne_of_lt hA.lt_size
  have hSf : S ∉ [s.heap.objs.size, d] := fun hm => by
    rcases List.mem_cons.mp hm with e | hm
    · exact hSI e
    · exact hSd (List.mem_singleton.mp hm)
  have W := (Walks.dictKeys (prog := prog) (w := w) (knd := knd) (A := A.in1) hh s.heap.objs.size d hdI kvs ep).toS
  have key : ∀ (h : Heap) (c₁ tk : Nat), h.IsKeyIter s.heap.objs.size d 0 kvs.length ep → h.DictAt knd d kvs ep → (∀ b o, b ≠ S → s.heap.get? b = some o → h.get? b = some o) →
      h.get? S = some { cls := .type "list", data := .seq #[] c₁ } → codeAny (model prog w) A (.builtin "list.extend.loop" ⟨[.ref S, .ref s.heap.objs.size, res], []⟩) R { s with heap := h, toks := tk } := by
    intro h c₁ tk hit hda hk hS₁
    refine codeAny_extend_loopS W (by rw [sizeLine_eq]; omega) S hSf res kvs.length 0 _ #[] c₁ rfl (Nat.zero_le _) ⟨hit, hda⟩ hS₁ (ItemsOf.nil _) fun s' acc' c' hm hS' hacc => ?_
    rw [Moved.eq_with hm]
    refine hR s'.heap s'.toks acc' c' (fun b o hb e => hm.heap b o (fun hmem => ?_) (hk b o hb e)) hS' hacc
    rcases List.mem_cons.mp hmem with e' | hmem
    · exact hb e'
    · exact absurd (Heap.lt_size e) (by rw [List.mem_singleton.mp hmem]; exact Nat.lt_irrefl _)
  unfold Builtin.List.listExtendWith
  refine wpAny_bind (wpAny_typeOf (T := "dict") hT ?_)
  have h1 : Builtin.List.listSameRef (.ref S) (.ref d) = false := by simp [Builtin.List.listSameRef, hSd]
  have h2 : (Value.type "dict" == Value.type "list") = false := by decide
  have h3 : (Value.type "dict" == Value.type "tuple") = false := by decide
  simp only [h1, h2, h3, Bool.or_false, Bool.false_eq_true, if_false]
  refine wpAny_bind (wpAny_pyIter_dict hd hA ?_)
  have hit₁ : (s.heap.push { cls := .type "dict_keyiterator", data := .fields #[.ref d, .int 0 0, .int kvs.length 0, .int ep 0] }).IsKeyIter s.heap.objs.size d 0 kvs.length ep := ⟨_, Heap.get?_push_size _ rfl, rfl, rfl⟩
  have hda₁ := hA.push { cls := .type "dict_keyiterator", data := .fields #[.ref d, .int 0 0, .int kvs.length 0, .int ep 0] }
  have hS₁ := Heap.get?_push_of_some { cls := .type "dict_keyiterator", data := .fields #[.ref d, .int 0 0, .int kvs.length 0, .int ep 0] } hS
  refine wpAny_bind (wpAny_holding (hint_dict (show Shared.TypeIs _ (.ref d) "dict" from hda₁.dictOf.typeIs) ?_))
  refine wpAny_ite_split (fun _ => ?_) (fun hab => absurd (by decide +kernel) hab)
  refine wpAny_bind (wpAny_rule ?_)
  refine wpAny_bind ?_
  show wpAny _ _ (updateSeq S (·.push .none) >>= fun _ => updateSeq S (·.pop)) _ _ _
  refine wpAny_bind (wpAny_updateSeq hS₁ rfl ?_)
  have hS₂ := Heap.get?_update_self (Obj.mapSeq (·.push Value.none)) hS₁ rfl
  refine wpAny_updateSeq (hz := by seq_fits) hS₂ rfl ?_
  have hS₃ := Heap.get?_update_self (Obj.mapSeq (·.pop)) hS₂ rfl
  refine wpAny_pure ⟨plainId_quiet F.plain_extend_loop _, key _ _ _ ?_ ?_ (fun b o hb e => ?_) hS₃⟩
  · exact hit₁.at fun o e => (Heap.get?_update_other _ _ hSI).trans ((Heap.get?_update_other _ _ hSI).trans e)
  · exact hda₁.at' fun o e => (Heap.get?_update_other _ _ hSd).trans ((Heap.get?_update_other _ _ hSd).trans e)
  · exact (Heap.get?_update_other _ _ (Ne.symm hb)).trans ((Heap.get?_update_other _ _ (Ne.symm hb)).trans (Heap.get?_push_of_some _ e))
theorem list_dict {Q : Value → Shared → Prop} {d : Addr} {kvs : List (κ × Value)} (hh : A.handled = none) (hd : (d == sysModules) = false) (hD : s.heap.DictOf knd d kvs) (hlen : kvs.length ≤ 4000)
    (hQ : ∀ h' tk acc' c', (∀ b o, s.heap.get? b = some o → h'.get? b = some o) →
      h'.get? s.heap.objs.size = some { cls := .type "list", dict := none, data := .seq acc' c', slots := #[] } → ItemsOf (fun i v => ∃ k x, kvs[i]? = some (k, x) ∧ knd.is k v = true) acc' kvs.length → Q (.ref s.heap.objs.size) { s with heap := h', toks := tk }) :
    wpAny (model prog w) A (call (.type "list") [.ref d]) Q E s := by
  refine callType_codes (Q₁ := fun obj s₁ => obj = .ref s.heap.objs.size ∧ s₁ = { s with heap := s.heap.push { cls := .type "list", data := .seq #[] } }) F.called_list (F.typeCall_list_1 _) F.entry_list_init
    (code_list_new _ ⟨rfl, rfl⟩) fun obj s₁ h₁ => ?_
  obtain ⟨rfl, rfl⟩ := h₁
  have hS : (s.heap.push { cls := .type "list", data := .seq #[] }).get? s.heap.objs.size = some { cls := .type "list", data := .seq #[] } := Heap.get?_push_size _ rfl
  have hD' : (s.heap.push { cls := .type "list", data := .seq #[] }).DictOf knd d kvs := by
    obtain ⟨ep, hA⟩ := hD.dictAt
    exact (hA.push _).dictOf
  refine ⟨⟨_, hS, rfl⟩, F.args_list_init_2 _ _, ?_⟩
  show wpAny _ _ (do let old ← Builtin.List.listItems (.ref s.heap.objs.size); Builtin.List.listUpdate (.ref s.heap.objs.size) (fun _ => #[]); letGo old.toList.reverse; Builtin.List.listExtendWith (.ref s.heap.objs.size) (.ref d) .none) _ _ _
  refine wpAny_bind ?_
  unfold Builtin.List.listItems
  refine wpAny_bind (wpAny_seqItems hS rfl (wpAny_pure ?_))
  show wpAny _ _ (updateSeq s.heap.objs.size (fun _ => #[]) >>= fun _ => letGo (#[] : Array Value).toList.reverse >>= fun _ => Builtin.List.listExtendWith (.ref s.heap.objs.size) (.ref d) .none) _ _ _
  refine wpAny_bind (wpAny_updateSeq hS rfl ?_)
  have hS₂ := Heap.get?_update_self (Obj.mapSeq (fun _ => (#[] : Array Value))) hS rfl
  have oth : ∀ b o, b ≠ s.heap.objs.size → (s.heap.push { cls := .type "list", data := .seq #[] }).get? b = some o → ((s.heap.push { cls := .type "list", data := .seq #[] }).update s.heap.objs.size (Obj.mapSeq (fun _ => (#[] : Array Value)))).get? b = some o :=
    fun b o hb e => (Heap.get?_update_other _ _ (Ne.symm hb)).trans e
  have hne : d ≠ s.heap.objs.size := by
    obtain ⟨ep, hA⟩ := hD.dictAt
    exact Nat.ne_of_lt hA.lt_size
  refine wpAny_bind (wpAny_letGo ?_)
  refine extend_dict (A := A.in1) (knd := knd) hh hd ?_ hlen _ .none _ hS₂ fun h' tk acc' c' hk hS' hacc => ?_
  · obtain ⟨ep, hA⟩ := hD'.dictAt
    exact (hA.at' fun o e => oth d o hne e).dictOf
  · exact ⟨rfl, hQ h' tk acc' c' (fun b o e => hk b o (Nat.ne_of_lt (Heap.lt_size e)) (oth b o (Nat.ne_of_lt (Heap.lt_size e)) (Heap.get?_push_of_some _ e))) hS' hacc⟩
end
open L2
section
variable {X : Cx}
theorem vals_keys {P : Program} {w : World} {kvs : List (Key × V)} {vs : List (Key × Value)} (r : KV kvs vs) {acc : List Value} (hl : acc.length = vs.length)
    (ha : ∀ (j : Nat) v, acc[j]? = some v → ∃ k x, vs[j]? = some (k, x) ∧ (mixKind P w).is k v = true) : Vals (kvs.map fun kv => kV kv.1) acc := by
  induction r generalizing acc with
  | nil =>
    cases acc with
    | nil => exact .nil
    | cons _ _ => simp at hl
  | @cons a b xs ys h1 h2 ih =>
    cases acc with
    | nil => simp at hl
    | cons v acc =>
      refine .cons ?_ (ih (by simpa using hl) fun j u hu => ha (j + 1) u (by simpa using hu))
      obtain ⟨k, x, e, hk⟩ := ha 0 v rfl
      have e : b = (k, x) := by simpa using e
      subst e
      have hk1 : a.1 = k := h1.1
      show L2.RelV (kV a.1) v
      rw [hk1]
      rcases keyIs_shape hk with ⟨i, t, rfl, rfl⟩ | ⟨y, t, rfl, rfl⟩
      · exact ⟨t, rfl⟩
      · exact ⟨t, rfl⟩
theorem call_listD (hc : X.calm = true) : CallR X (.type "list") (fun xs H Q => ∃ (a : Addr) (kvs : List (Key × V)), xs = [.ref a] ∧ H a = some (.dK kvs) ∧ kvs.length ≤ 4000 ∧
    ∀ l, H l = none → Q (.ref l) (upd H l (.lst (kvs.map fun kv => kV kv.1)))) := by
  intro pins s σ H xs us Q I r h
  obtain ⟨a, kvs, rfl, ha, hz, q⟩ := h
  obtain ⟨u, rfl, rx⟩ := vals1 r
  cases rx
  obtain ⟨z, hd, vs, rel, dd⟩ := dk_of I.hok ha
  have hl := rel.length
  refine list_dict (I.ok.hd hc) hd dd (by omega) fun h' tk acc c hk hS hacc => ?_
  have hf : H s.heap.objs.size = none := I.hok.fresh (Nat.le_refl _)
  refine ⟨.ref _, _, I.laid (t' := tk) (o := .lst (kvs.map fun kv => kV kv.1)) hk (Nat.le_refl _) ?_, rfl, q _ hf⟩
  refine ⟨by rw [List.length_map]; exact z, acc.toList, c, vals_keys rel (by rw [Array.length_toList]; exact hacc.1) fun j v hj => hacc.2 j v (by simpa using hj), by simpa using hS⟩
end
end L3

set_option Elab.async false
set_option linter.all false
set_option maxRecDepth 100000
set_option maxHeartbeats 4000000
/-! comprehensions by an invariant -/
namespace L3
open PySem PySem.Spec PyProof.Rows L2
theorem turns_rangeI {ix : List Nat} {tt : TT} {te : TE} {σ : L2.St} {lo : Int} {n : Nat} {H : Hp} {Q : List V → Hp → Prop} (Pv : Nat → List V → Hp → Prop) (h0 : Pv 0 [] H)
    (hz : ∀ i ys H', i ≤ n → Pv i ys H' → ys.length ≤ 4000)
    (hs : ∀ (i : Nat) ys H' (R1 : V → Hp → Prop) (R2 : Hp → Prop), i < n → Pv i ys H' → (∀ v H3, Pv (i + 1) (ys ++ [v]) H3 → R1 v H3) → (∀ H2, Pv (i + 1) ys H2 → R2 H2) →
      tt (bSt ix σ (some (.int (lo + i)))) H' fun b H2 => if b = true then te (bSt ix σ (some (.int (lo + i)))) H2 R1 else R2 H2)
    (hQ : ∀ ys H', Pv n ys H' → Q ys H') : tTurns ix tt te σ (Itr lo n) H Q := by
  refine ⟨fun i m ys H' => m = n - i ∧ i ≤ n ∧ Pv i ys H', ⟨n, by simp, Nat.zero_le _, h0⟩, ?_⟩
  rintro i m ys H' ⟨rfl, hi, hp⟩
  by_cases hlt : i < n
  · refine .inr ⟨hlt, fun x H1 y => ?_⟩
    obtain ⟨e, y⟩ := y
    subst e y
    refine hs i ys _ _ _ hlt hp (fun v H3 p3 => ?_) fun H2 p2 => ?_
    · exact ⟨Nat.lt_of_le_of_lt (hz i ys _ hi hp) (by decide), n - (i + 1), by omega, rfl, hlt, p3⟩
    · exact ⟨n - (i + 1), by omega, rfl, hlt, p2⟩
  · have e : i = n := by omega
    subst e
    exact .inl ⟨Nat.le_refl _, small4 (hz i ys _ hi hp), hQ _ _ hp⟩
theorem turns_listI {K : PySem.W.Frag} {ix : List Nat} {tt : TT} {te : TE} {σ : L2.St} {a : Addr} {xs : List V} {H : Hp} {Q : List V → Hp → Prop} (Pv : Nat → List V → Hp → Prop) (h0 : Pv 0 [] H)
    (hl : ∀ i ys H', i ≤ xs.length → Pv i ys H' → SqL K H' a xs) (hz : ∀ i ys H', i ≤ xs.length → Pv i ys H' → ys.length ≤ 4000)
    (hs : ∀ (i : Nat) x ys H' (R1 : V → Hp → Prop) (R2 : Hp → Prop), xs[i]? = some x → Pv i ys H' → (∀ v H3, Pv (i + 1) (ys ++ [v]) H3 → R1 v H3) → (∀ H2, Pv (i + 1) ys H2 → R2 H2) →
      tt (bSt ix σ (some x)) H' fun b H2 => if b = true then te (bSt ix σ (some x)) H2 R1 else R2 H2)
    (hQ : ∀ ys H', Pv xs.length ys H' → Q ys H') : tTurns ix tt te σ (Itl K a) H Q := by
  refine ⟨fun i m ys H' => m = xs.length - i ∧ i ≤ xs.length ∧ Pv i ys H', ⟨xs.length, by simp, Nat.zero_le _, h0⟩, ?_⟩
  rintro i m ys H' ⟨rfl, hi, hp⟩
  have hq := hl i ys H' hi hp
  by_cases hlt : i < xs.length
  · refine .inr ⟨⟨xs, xs[i], hq, by simp [hlt]⟩, fun x H1 y => ?_⟩
    obtain ⟨e, y⟩ := y
    subst e
    have hx : xs[i]? = some x := y xs hq
    refine hs i x ys _ _ _ hx hp (fun v H3 p3 => ?_) fun H2 p2 => ?_
    · exact ⟨Nat.lt_of_le_of_lt (hz i ys _ hi hp) (by decide), xs.length - (i + 1), by omega, rfl, hlt, p3⟩
    · exact ⟨xs.length - (i + 1), by omega, rfl, hlt, p2⟩
  · have e : i = xs.length := by omega
    subst e
    exact .inl ⟨⟨xs, hq, Nat.le_refl _⟩, small4 (hz _ ys _ hi hp), hQ _ _ hp⟩
end L3

set_option Elab.async false
set_option linter.all false
set_option maxRecDepth 100000
set_option maxHeartbeats 4000000
/-! more rules: walking a dict, enumerate, sorted(a dict), list(range(n)) -/
namespace L3
open PySem PySem.Spec PyProof.Rows L2
section
variable {X : Cx} {pins : List (Addr × Obj)} {σ : L2.St} {H : Hp} {s : Shared} {a : Addr}
/-- a tracked thing told otherwise (its object stays) -/
theorem retrack {u u0 : HO} (I : L2.Inv X pins σ H s) (ha : H a = some u0) (h1 : ∀ xs, u0 ≠ .tup xs) (h2 : ∀ ps, u0 ≠ .tbl ps) (h3 : ∀ y, u0 ≠ .own y) (h4 : ∀ o v, X.H₀ a ≠ some (.frz o v)) (new : ObjOk X.prog X.w (upd H a u) s.heap a u) : L2.Inv X pins σ (upd H a u) s := by
  have ne : ∀ b, H b = none → b ≠ a := fun b e z => by rw [z, ha] at e; cases e
  have none_ : ∀ b, H b = none → upd H a u b = none := fun b e => by rw [upd_ne (ne b e)]; exact e
  have tup_ : ∀ b xs, H b = some (.tup xs) → upd H a u b = some (.tup xs) := fun b xs e => by
    rw [upd_ne]; exact e
    rintro rfl; rw [ha] at e; exact h1 xs (Option.some.inj e)
  refine ⟨I.ok, I.os, I.bare, ⟨I.base.keep, I.base.slot, fun b o e n hx => none_ b (I.base.free b o e n hx), I.base.there, fun b xs e => tup_ b xs (I.base.tups b xs e), fun b o v e => ?_, fun b ps e => ?_⟩, I.loc, I.cell, none_ _ I.free, fun x c e => none_ c (I.freeC x c e), fun p hp => ?_, fun b v e => ?_, I.len⟩
  · have : b ≠ a := by rintro rfl; exact h4 o v e
    rw [upd_ne this]
    exact I.base.frzs b o v e
  · obtain ⟨m, e1⟩ := I.base.tbls b ps e
    refine ⟨m, ?_⟩
    rw [upd_ne]; exact e1
    rintro rfl; rw [ha] at e1; exact h2 _ (Option.some.inj e1)
  · obtain ⟨e, n, r⟩ := I.pin p hp
    exact ⟨e, none_ _ n, r⟩
  · by_cases hb : b = a
    · subst hb; rw [upd_same] at e; cases e; exact new
    · rw [upd_ne hb] at e
      refine (I.hok b v e).stay (fun c w _ q => q) (fun c q => ?_) tup_
      rw [upd_ne]; exact q
      rintro rfl; rw [ha] at q; exact h3 _ (Option.some.inj q)
/-! ### walking a dict -/
def Itk (a : Addr) (o : Obj) (kvs : List (Key × V)) : It := ⟨fun i H => H a = some (.frz o (.dK kvs)) ∧ i < kvs.length, fun i H x H' => H' = H ∧ ∃ kv, kvs[i]? = some kv ∧ x = kV kv.1, fun i H => H a = some (.frz o (.dK kvs)) ∧ kvs.length ≤ i⟩
theorem dAt {P : Program} {w : World} {h : Heap} {o : Obj} {ep : Nat} {vs : List (Key × Value)} (hd : h.DictOf (mixKind P w) a vs) (ho : h.get? a = some o) (he : ∃ es, o.data = .dict es ep) : h.DictAt (mixKind P w) a vs ep := by
  obtain ⟨o', es, ep', e, x, d, r⟩ := hd
  rw [ho] at e; cases e
  obtain ⟨es', d'⟩ := he
  rw [d] at d'; cases d'
  exact ⟨o, es, ho, x, d, r⟩
theorem turn_dict {P : Program} {w : World} {K : PySem.W.Frag} {tg : Expr} (a it : Addr) (o : Obj) (kvs : List (Key × V)) (ep : Nat) (he : ∃ es, o.data = .dict es ep) : Turn P w K tg (Itk a o kvs) [it] it (fun i h => h.IsKeyIter it a i kvs.length ep) where
  mem := by simp
  obj := fun i h st b hb => by
    have e : b = it := by simpa using hb
    subst e
    obtain ⟨o, e, c, d⟩ := st
    exact ⟨o, e, fun v z => by rw [d] at z; cases z⟩
  keep := fun i h h' st k => st.at fun o e => k it (by simp) o e
  item := by
    intro X hP hw hK hc i pins s σ H E I hf st hg
    subst hP hw hK
    obtain ⟨hq, hi⟩ := hg
    obtain ⟨ho, _, hs, vs, rel, dd⟩ := I.hok a _ hq
    have hl := rel.length
    obtain ⟨f0, f1, f2, f3, f4, f5⟩ := hf it (by simp)
    obtain ⟨kv, hkv⟩ : ∃ kv, kvs[i]? = some kv := ⟨kvs[i], by simp [hi]⟩
    obtain ⟨⟨k, x⟩, hx⟩ : ∃ p, vs[i]? = some p := ⟨vs[i]'(by omega), by simp⟩
    have hk1 : kv.1 = k := by
      have h1 := congrArg (fun l => l[i]?) rel.keys
      simp only [List.getElem?_map, hkv, hx, Option.map_some] at h1
      exact Option.some.inj h1
    rw [hl] at st
    refine wpAny_pyNext_dict_item st (dAt dd ho he) hx fun key h' hkey hit' hs' => ?_
    have I1 : L2.Inv X pins σ H { s with heap := h' } := I.turned (t' := s.toks) (fun b o hb e => hs'.extBut b o hb e) f0 f1 f3 f4 f5
    obtain ⟨oi, e, c, d⟩ := id hit'
    refine ⟨key, rfl, go_of (s := { s with heap := h' }) e c d (by decide) ⟨kV kv.1, H, I1, ?_, ⟨rfl, kv, hkv, rfl⟩, by rw [hl]; exact hit', fun b hb => (hf b hb).1⟩⟩
    rw [hk1]
    rcases keyIs_shape hkey with ⟨j, t, rfl, rfl⟩ | ⟨y, t, rfl, rfl⟩
    · exact ⟨t, rfl⟩
    · exact ⟨t, rfl⟩
  done := by
    intro X hP hw hK hc i pins s σ H E I hf st hg
    subst hP hw hK
    obtain ⟨hq, hi⟩ := hg
    obtain ⟨ho, _, hs, vs, rel, dd⟩ := I.hok a _ hq
    have hl := rel.length
    obtain ⟨f0, f1, f2, f3, f4, f5⟩ := hf it (by simp)
    rw [hl] at st
    exact wpAny_pyNext_dict_end (I.ok.hd hc) st (dAt dd ho he) (by simp; omega) fun h' eb => ⟨rfl, I.turned (t' := s.toks) (fun b o hb e => eb b o hb e) f0 f1 f3 f4 f5⟩
  self := fun _ _ _ _ _ st h => wpAny_pyIter_keyiter st h
/-- for k in d: the dict is held as it stands while the loop walks it -/
def iDict (Z : Addr → Prop) (td : TE) : TI := fun σ H R => td σ H fun x H1 => ∃ a kvs, x = .ref a ∧ H1 a = some (.dK kvs) ∧ ∀ o, Z a → R (Itk a o kvs) (upd H1 a (.frz o (.dK kvs)))
theorem pi_dict {tg : Expr} {l : Expr} {tl : TE} (hl : PE X l tl) : PI X tg l (iDict (fun a => ∀ o v, X.H₀ a ≠ some (.frz o v)) tl) := by
  intro pins s σ H R I h
  refine thn (hl pins s σ H _ I h) fun v s1 ⟨x, H1, I1, r1, q1⟩ => ?_
  obtain ⟨a, kvs, e, hq, q⟩ := q1
  subst e
  cases r1
  obtain ⟨z, hd, vs, rel, dd⟩ := dk_of I1.hok hq
  have hl := rel.length
  obtain ⟨ep, hA⟩ := dd.dictAt
  obtain ⟨o, es, ho, hx, hdat, hr⟩ := id hA
  refine wpAny_pyIter_dict hd hA ?_
  have nf : ∀ o v, X.H₀ a ≠ some (.frz o v) := fun o v e => by
    have := I1.base.frzs a o v e
    rw [hq] at this; cases this
  have hold : ObjOk X.prog X.w (upd H1 a (.frz o (.dK kvs))) s1.heap a (.frz o (.dK kvs)) := ⟨ho, z, hd, vs, rel, dd⟩
  have I2 := retrack I1 hq (by intro _ z; cases z) (by intro _ z; cases z) (by intro _ z; cases z) nf hold
  refine ⟨s1.heap.objs.size, [s1.heap.objs.size], _, _, _, rfl, I2.kept (t' := s1.toks) fun b o e => Heap.get?_push_of_some _ e, turn_dict a _ o kvs ep ⟨es, hdat⟩, ?_, fun b hb => ?_, q o nf⟩
  · rw [hl]
    exact ⟨_, Heap.get?_push_size _ rfl, rfl, rfl⟩
  · have e : b = s1.heap.objs.size := by simpa using hb
    subst e
    exact I2.fpOk (Nat.le_refl _) (I2.hok.fresh (Nat.le_refl _))
/-- for k in d (without return or break) -/
def tForD (td : TE) (g : TG) (tb : TS) : TS := fun D σ H => td σ H fun x H1 => ∃ a kvs, x = .ref a ∧ H1 a = some (.dK kvs) ∧ ∀ o, ∃ Pv : Nat → L2.St → Hp → Prop, Pv 0 σ (upd H1 a (.frz o (.dK kvs))) ∧
  (∀ i σ H, i ≤ kvs.length → Pv i σ H → H a = some (.frz o (.dK kvs))) ∧
  (∀ bk i kv σ H, kvs[i]? = some kv → Pv i σ H → g (kV kv.1) σ H fun σ2 H2 => tb { nx := Pv (i + 1), ct := Pv (i + 1), bk := bk, rt := fun _ _ => False } σ2 H2) ∧
  ∀ σ H, Pv kvs.length σ H → D.nx σ (upd H a (.dK kvs))
theorem ps_forD {tg iter : Expr} {body : List Stmt} {td : TE} {g : TG} {tb : TS} {pos : Pos} (hp : PassesOwn (model X.prog X.w) X.A X.env X.xe) (hc : X.calm = true) (hd : PE X iter td) (hg : PG X tg g) (hb : PSs X body tb)
    (hs : ∀ x, foldedSetIterable iter X.env x = pure x := by intro _; rfl) : PS X (.For tg iter body [] pos) (tForD td g tb) := by
  intro pins s σ H D I h
  refine thn (ps_for hp hc (pi_dict (pe_mono hd)) hg hb hs pins s σ H { nx := fun σ' H' => ∃ a o kvs, (∀ o v, X.H₀ a ≠ some (.frz o v)) ∧ H' a = some (.frz o (.dK kvs)) ∧ D.nx σ' (upd H' a (.dK kvs)), ct := fun _ _ => False, bk := fun _ _ => False, rt := fun _ _ => False } I ⟨_, h, fun x H1 hx => ?_⟩) fun f s' hs => ?_
  · obtain ⟨a, kvs, rfl, hq, hw⟩ := hx
    refine ⟨a, kvs, rfl, hq, fun o nf => ?_⟩
    obtain ⟨Pv, h0, hl, hst, hend⟩ := hw o
    refine ⟨fun i m σ H => m = kvs.length - i ∧ i ≤ kvs.length ∧ Pv i σ H, ⟨kvs.length, by simp, Nat.zero_le _, h0⟩, ?_⟩
    rintro i m σ H ⟨rfl, hi, p⟩
    have q := hl i σ H hi p
    by_cases hlt : i < kvs.length
    · refine .inr ⟨⟨q, hlt⟩, Pv (i + 1), fun σ' H' p' => ⟨kvs.length - (i + 1), by omega, rfl, hlt, p'⟩, fun x H' y => ?_⟩
      obtain ⟨e, kv, hkv, rfl⟩ := y
      subst e
      exact hst _ i kv σ _ hkv p
    · have e : i = kvs.length := by omega
      subst e
      exact .inl ⟨⟨q, Nat.le_refl _⟩, a, o, kvs, nf, q, hend σ H p⟩
  · cases f with
    | next =>
      obtain ⟨σ', H', I', a, o, kvs, nf, hq, q⟩ := hs
      refine ⟨σ', _, retrack I' hq (by intro _ z; cases z) (by intro _ z; cases z) (by intro _ z; cases z) nf ?_, q⟩
      obtain ⟨ho, z, hs, vs, rel, dd⟩ := I'.hok a _ hq
      exact ⟨z, hs, vs, rel, dd⟩
    | brk => obtain ⟨_, _, _, q⟩ := hs; exact q.elim
    | cont => obtain ⟨_, _, _, q⟩ := hs; exact q.elim
    | ret u => obtain ⟨_, _, _, _, _, q⟩ := hs; exact q.elim
end
end L3

namespace L3
open PySem PySem.Spec PyProof.Rows L2
section
variable {X : Cx} {pins : List (Addr × Obj)} {σ : L2.St} {H : Hp} {s : Shared}
/-- untracked records of ours have turned, and a new object is laid and tracked -/
theorem laid_turned {h' : Heap} {a : Addr} {o : HO} {t' : Nat} {ch : List Addr} (I : L2.Inv X pins σ H s) (hch : ∀ b ∈ ch, FpOk X pins H b) (hac : a ∉ ch) (k : ∀ b ob, b ∉ ch → s.heap.get? b = some ob → h'.get? b = some ob) (ht : ∀ b ob, s.heap.get? b = some ob → ∃ ob', h'.get? b = some ob') (hp : s.heap.objs.size ≤ a) (new : ObjOk X.prog X.w (upd H a o) h' a o) :
    L2.Inv X pins σ (upd H a o) { s with heap := h', toks := t' } := by
  have hn : H a = none := I.hok.fresh hp
  have kp : ∀ b u, H b = some u → upd H a o b = some u := fun b u e => by rw [upd_ne (ne_of_none e hn)]; exact e
  have nch : ∀ b u, H b = some u → b ∉ ch := fun b u e z => by have := (hch b z).1; rw [e] at this; cases this
  refine I.step (g' := s.gens) (d' := s.drawn) (ch := ch) (fun b hb => ?_) (fun b o _ _ hc e _ => k b o hc e) (fun b o _ _ hc e _ => ⟨o.slots, k b o hc e⟩) (fun b ob _ e n => ?_)
    (fun b o hc e => ⟨o, k b o hc e⟩) (fun b xs e => kp b _ e) (fun b _ _ e => kp b _ e) (fun b ps e => ⟨#[], by rw [kp b _ e]; simp⟩) (fun m hm => ?_) (fun b u e => ?_) I.bare
  · obtain ⟨f0, f1, f2, f3, f4, f5⟩ := hch b hb
    exact ⟨f3, f1, f4, f5⟩
  · rw [upd_ne]; exact n
    rintro rfl; exact absurd (Heap.lt_size e) (Nat.not_lt.mpr hp)
  · obtain ⟨o, es, ep, ho, r⟩ := hm
    exact ⟨o, es, ep, k _ o (fun z => (hch _ z).2.1 rfl) ho, r⟩
  · by_cases hb : b = a
    · subst hb; rw [upd_same] at e; cases e; exact new
    · rw [upd_ne hb] at e
      refine (I.hok b u e).stay (fun c v hc q => k c v ?_ q) (fun c q => kp c _ q) fun c xs q => kp c _ q
      rcases hc with z | z
      · rw [z]; exact nch b u e
      · exact nch c _ z
/-! ### enumerate(xs), from st on -/
def Ite (K : PySem.W.Frag) (l : Addr) (st : Nat) : It :=
  ⟨fun i H => ∃ xs x, SqL K H l xs ∧ xs[i]? = some x, fun i H x H' => ∀ xs, SqL K H l xs → ∃ T y, xs[i]? = some y ∧ x = .ref T ∧ H T = none ∧ H' = upd H T (.tup [.int ((st : Int) + i), y]), fun i H => ∃ xs, SqL K H l xs ∧ xs.length = i⟩
/-- the list's items, counted from st on -/
theorem draws_from {P : Program} {w : World} {A : Around} (hh : A.handled = none) (it l : Addr) (hne : l ≠ it) (items : Array Value) (st : Nat) :
    Draws P w A it [it, l] (st + items.size) (fun i v => items[i - st]? = some v) (fun i h => st ≤ i ∧ h.IsListIter it l (i - st) ∧ h.IsList l items) where
  live := fun _ _ h => let ⟨o, ho, _⟩ := h.2.1; ⟨o, ho⟩
  frame := fun _ _ _ h hk => ⟨h.1, h.2.1.at fun o e => hk it (by simp) o e, h.2.2.at fun o e => hk l (by simp) o e⟩
  item := fun i s Q E hi h hQ => by
    refine wpAny_nextOf_list_item h.2.1 h.2.2 (x := items[i - st]'(by have := h.1; omega)) (by simp) fun h' hit' hs' => ?_
    refine hQ _ h' s.toks (by simp) ⟨Nat.le_succ_of_le h.1, ?_, h.2.2.extBut hs'.extBut hne⟩ hs'
    rw [show i + 1 - st = i - st + 1 by have := h.1; omega]
    exact hit'
  done := fun s Q E h hE => wpAny_nextOf_list_end hh h.2.1 h.2.2 (by simp) hE
theorem turn_enum {P : Program} {w : World} {K : PySem.W.Frag} {elts : List Expr} {k : Nat} {pos : Pos} (l e it : Addr) (st : Nat) (hei : e ≠ it) : Turn P w K (.Tuple elts k pos) (Ite K l st) [e, it] e (fun i h => (∃ old, IsEnum h e it ((st + i : Nat) : Int) old) ∧ h.IsListIter it l i) where
  mem := by simp
  obj := fun i h hst b hb => by
    obtain ⟨⟨old, he⟩, o, ho, c, d⟩ := hst
    simp only [List.mem_cons, List.not_mem_nil, or_false] at hb
    rcases hb with rfl | rfl
    · exact ⟨_, he, fun v z => by
        have z' : Data.fields _ = Data.cell v := z
        cases z'⟩
    · exact ⟨o, ho, fun v z => by rw [d] at z; cases z⟩
  keep := fun i h h' hst k => ⟨hst.1.imp fun old he => k e (by simp) _ he, hst.2.at fun o x => k it (by simp) o x⟩
  item := by
    intro X hP hw hK hc i pins s σ H E I hf hst hg
    subst hP hw hK
    obtain ⟨xs, x, hq, hx⟩ := hg
    obtain ⟨its, rv, p, hz⟩ := I.list hq
    obtain ⟨u, hu, ru⟩ := rv.get hx
    obtain ⟨⟨old, he⟩, hit⟩ := hst
    have hle : l ≠ e := fun z => by
      obtain ⟨o, ho, c, _⟩ := p.isList
      rw [z, he] at ho; cases ho
      exact absurd (show Value.type "enumerate" = Value.type "list" from c) (by decide)
    have hli : l ≠ it := fun z => by
      obtain ⟨o, ho, c, _⟩ := p.isList
      obtain ⟨o', ho', c', _⟩ := hit
      rw [z, ho'] at ho; cases ho
      rw [c] at c'
      exact absurd c' (by decide)
    have hlt : i < its.toArray.size := by
      have : i < its.length := by
        have := (List.getElem?_eq_some_iff.mp hu).1; exact this
      simpa using this
    have D := draws_from (P := X.prog) (w := X.w) (A := X.A.in1) (by simpa using I.ok.hd hc) it l hli its.toArray st
    have hef : e ∉ [it, l] := by simp only [List.mem_cons, List.not_mem_nil, or_false]; rintro (z | z); exact hei z; exact hle z.symm
    refine wpAny_pyNext_enum_itemD D he ⟨by omega, by rw [show st + i - st = i by omega]; exact hit, p.isList⟩ (by omega) hei hef fun y h' tk hy ho hs' hT hsz hk => ?_
    have hy' : y = u := by
      rw [show st + i - st = i by omega] at hy
      have hu' : its.toArray[i]? = some u := by simpa using hu
      rw [hu'] at hy; exact (Option.some.inj hy).symm
    subst hy'
    refine ⟨_, rfl, wpAny_letOwnedTupleGo_enum ho fun h2 he2 hs2 => ?_⟩
    have hTe : s.heap.objs.size ≠ e := Nat.ne_of_gt (Heap.lt_size he)
    have hTi : s.heap.objs.size ≠ it := by
      obtain ⟨o, ho, _⟩ := hit
      exact Nat.ne_of_gt (Heap.lt_size ho)
    have hT2 : h2.get? s.heap.objs.size = some { cls := .type "tuple", data := .seq #[.int ((st + i : Nat) : Int) tk, y] } := (hs2.2 _ hTe).trans hT
    have hk2 : ∀ b o, b ∉ [e, it] → s.heap.get? b = some o → h2.get? b = some o := fun b o hb q => by
      have hbe : b ≠ e := fun z => hb (by simp [z])
      have hbi : b ≠ it := fun z => hb (by simp [z])
      exact (hs2.2 b hbe).trans (hk b o hbe hbi q)
    have hfr : H s.heap.objs.size = none := I.hok.fresh (Nat.le_refl _)
    refine ⟨.ref s.heap.objs.size, upd H s.heap.objs.size (.tup [.int ((st : Int) + i), x]), laid_turned (s := s) I hf (by simp [hTe, hTi]) hk2 (fun b ob q => ?_) (Nat.le_refl _) ?_, rfl, fun ys hy => ?_, ⟨⟨y, ?_⟩, ?_⟩, fun b hb => ?_⟩
    · by_cases hb : b ∈ [e, it]
      · simp only [List.mem_cons, List.not_mem_nil, or_false] at hb
        rcases hb with rfl | rfl
        · exact ⟨_, he2⟩
        · have := hs'.2.1
          obtain ⟨o, ho, _⟩ := this
          exact ⟨o, (hs2.2 _ (Ne.symm hei)).trans ho⟩
      · exact ⟨ob, hk2 b ob hb q⟩
    · refine ⟨by show 2 ≤ sizeLine; decide, [.int ((st + i : Nat) : Int) tk, y], .cons ⟨tk, ?_⟩ (.cons ru .nil), _, hT2, rfl, _, rfl⟩
      rw [Int.natCast_add]
    · rw [I.list_inj hy hq]
      exact ⟨_, x, hx, rfl, hfr, rfl⟩
    · have : (((st + i : Nat) : Int) + 1) = ((st + (i + 1) : Nat) : Int) := by omega
      rw [← this]; exact he2
    · obtain ⟨o, ho, r⟩ := hs'.2.1
      rw [show st + i + 1 - st = i + 1 by omega] at r
      exact ⟨o, (hs2.2 _ (Ne.symm hei)).trans ho, r⟩
    · have := (hf b hb).1
      rw [upd_ne]; exact this
      simp only [List.mem_cons, List.not_mem_nil, or_false] at hb
      rcases hb with rfl | rfl
      · exact Ne.symm hTe
      · exact Ne.symm hTi
  done := by
    intro X hP hw hK hc i pins s σ H E I hf hst hg
    subst hP hw hK
    obtain ⟨xs, hq, hx⟩ := hg
    obtain ⟨its, rv, p, hz⟩ := I.list hq
    obtain ⟨⟨old, he⟩, hit⟩ := hst
    obtain ⟨f0, f1, f2, f3, f4, f5⟩ := hf it (by simp)
    have hl := rv.length
    have hli : l ≠ it := fun z => by
      obtain ⟨o, ho, c, _⟩ := p.isList
      obtain ⟨o', ho', c', _⟩ := hit
      rw [z, ho'] at ho; cases ho
      rw [c] at c'
      exact absurd c' (by decide)
    have D := draws_from (P := X.prog) (w := X.w) (A := X.A.in1) (by simpa using I.ok.hd hc) it l hli its.toArray st
    have ei : st + its.toArray.size - st = i := by simp; omega
    exact wpAny_pyNext_enum_endD D he ⟨Nat.le_add_right _ _, by rw [ei]; exact hit, p.isList⟩ fun h' eb => ⟨rfl, I.turned (t' := s.toks) (fun b o hb e => eb b o hb e) f0 f1 f3 f4 f5⟩
  self := fun _ _ _ _ _ hst h => by
    obtain ⟨⟨old, he⟩, _⟩ := hst
    exact wpAny_pyIter_enum he h
def iEnum (K : PySem.W.Frag) (st : Nat) (ta : TA) : TI := fun σ H R => ta σ H fun vs H1 => ∃ a, vs = [.ref a] ∧ (∃ xs, SqL K H1 a xs) ∧ R (Ite K a st) H1
theorem enum_it {elts : List Expr} {k : Nat} {ps : Pos} {R : It → Hp → Prop} {E : Value → Shared → Prop} {l : Addr} {h' : Heap} {st : Nat} (I : L2.Inv X pins σ H s) (he : IsEnum h' (s.heap.objs.size + 1) s.heap.objs.size ((st : Nat) : Int) .none) (hit : h'.IsListIter s.heap.objs.size l 0) (hk : ∀ b o, s.heap.get? b = some o → h'.get? b = some o)
    (q : R (Ite X.K l st) H) : wpAny (model X.prog X.w) X.A (pyIter (.ref (s.heap.objs.size + 1))) (PIE X pins σ (.Tuple elts k ps) R) E { s with heap := h' } := by
  refine wpAny_pyIter_enum he ?_
  refine ⟨s.heap.objs.size + 1, [s.heap.objs.size + 1, s.heap.objs.size], _, _, H, rfl, I.kept (t' := s.toks) hk, turn_enum l _ _ st (Nat.succ_ne_self _), ⟨⟨_, he⟩, hit⟩, fun b hb => ?_, q⟩
  simp only [List.mem_cons, List.not_mem_nil, or_false] at hb
  rcases hb with rfl | rfl
  · exact I.fpOk (Nat.le_succ _) (I.hok.fresh (Nat.le_succ _))
  · exact I.fpOk (Nat.le_refl _) (I.hok.fresh (Nat.le_refl _))
theorem pi_enum (K : PySem.W.Frag) {elts : List Expr} {k : Nat} {ps : Pos} {a : Expr} {ta : TA} {p pos : Pos} (hg : Gl X "enumerate") (hm : X.mg "enumerate" = none) (ha : PA X [a] ta) (hK : X.K = K := by rfl) (hs : starEach [a] X.env = [(false, eval a X.env)] := by rfl) : PI X (.Tuple elts k ps) (.Call (.Name "enumerate" p) [a] [] pos) (iEnum K 0 ta) := by
  subst hK
  intro pins s σ H R I h
  refine Call_ (ld_blt I hg hm boot_enumerate (PyProof.Rows.callWith_type1 (thn (ha pos pins s σ H _ I h) fun us s1 ⟨vs, H1, I1, r1, q1⟩ => ?_) hs rfl))
  obtain ⟨l, e, ⟨xs, hq⟩, q⟩ := q1
  subst e
  obtain ⟨u, rfl, rx⟩ := vals1 r1
  cases rx
  obtain ⟨its, rv, pl, hz⟩ := I1.list hq
  exact call_enumerate_list pl.isList fun h' he hit hsz hk => enum_it I1 (st := 0) he hit hk q
/-- over the list's items, counted, the list stays -/
theorem for_enum {K : PySem.W.Frag} {a : Addr} {st : Nat} {xs : List V} {g : TG} {tb : TS} {D : Ends} {σ : L2.St} {H : Hp} (Pv : Nat → L2.St → Hp → Prop) (h0 : Pv 0 σ H) (hl : ∀ i σ H, i ≤ xs.length → Pv i σ H → SqL K H a xs)
    (hs : ∀ i x σ H T, xs[i]? = some x → Pv i σ H → H T = none → g (.ref T) σ (upd H T (.tup [.int ((st : Int) + i), x])) fun σ2 H2 => tb { D with nx := Pv (i + 1), ct := Pv (i + 1), bk := D.nx } σ2 H2) (hd : ∀ σ H, Pv xs.length σ H → D.nx σ H) :
    ∃ W : Nat → Nat → L2.St → Hp → Prop, (∃ m, W 0 m σ H) ∧ ∀ i m σ H, W i m σ H →
      ((Ite K a st).stop i H ∧ D.nx σ H) ∨ ((Ite K a st).go i H ∧ ∃ N : L2.St → Hp → Prop, (∀ σ' H', N σ' H' → ∃ m', m' < m ∧ W (i + 1) m' σ' H') ∧ ∀ x H', (Ite K a st).yld i H x H' → g x σ H' fun σ2 H2 => tb { D with nx := N, ct := N, bk := D.nx } σ2 H2) := by
  refine ⟨fun i m σ H => m = xs.length - i ∧ i ≤ xs.length ∧ Pv i σ H, ⟨xs.length, by simp, Nat.zero_le _, h0⟩, ?_⟩
  rintro i m σ H ⟨rfl, hi, p⟩
  have q := hl i σ H hi p
  by_cases hlt : i < xs.length
  · refine .inr ⟨⟨xs, xs[i], q, by simp [hlt]⟩, Pv (i + 1), fun σ' H' p' => ⟨xs.length - (i + 1), by omega, rfl, hlt, p'⟩, fun x H' y => ?_⟩
    obtain ⟨T, z, hz, rfl, hT, rfl⟩ := y xs q
    exact hs i z σ H T hz p hT
  · have e : i = xs.length := by omega
    subst e
    exact .inl ⟨⟨xs, q, rfl⟩, hd σ H p⟩
end
end L3

namespace L3
open PySem PySem.Spec PyProof.Rows L2
section
variable {X : Cx} (K : PySem.W.Frag)
theorem ix_tupK (hK : X.K = K := by rfl) : IxR X (rIxT K) := by subst hK; exact ix_tup
theorem pg_tupK {pos : Pos} {es : List Expr} {k : Nat} {t : TGs} {n : Nat} (hc : X.calm = true) (h : PGs X es t) (hK : X.K = K := by rfl)
    (hn : (assignEach es X.env).length = n := by rfl) (hst : (assignEach es X.env).findIdx? (·.1) = none := by rfl) : PG X (.Tuple es k pos) (gTup K n t) := by subst hK; exact pg_tup hc h hn hst
end
/-! ### a op1 b op2 c op3 d -/
section
variable {X : Cx} {a b c d : Expr} {ta tb tc td : TE} {pos : Pos}
def tChain3 (r r' r'' : R2) (ta tb tc td : TE) : TE := fun σ H Q => ta σ H fun x H1 => tb σ H1 fun y H2 => r x y H2 fun z H3 => ∃ k, z = .bl k ∧
  (if k = true then tc σ H3 fun w' H4 => r' y w' H4 fun z' H5 => ∃ k', z' = .bl k' ∧ (if k' = true then td σ H5 fun w2 H6 => r'' w' w2 H6 Q else Q (.bl false) H5) else Q (.bl false) H3)
theorem pt_chain3 {op op' op'' : CmpOp} {r r' r'' : R2} (ho : OpR X (compareOp op) r) (ho' : OpR X (compareOp op') r') (ho'' : OpR X (compareOp op'') r'') (ha : PE X a ta) (hb : PE X b tb) (hc : PE X c tc) (hd : PE X d td)
    (hm : lastMarks [op, op', op''] [b, c, d] = false := by with_unfolding_all rfl) : PT X (.Compare a [op, op', op''] [b, c, d] pos) (tTest (tChain3 r r' r'' ta tb tc td)) := by
  intro pins s σ H Q I h
  refine isTrue_chain (thn (ha pins s σ H _ I h) fun v s1 ⟨x, H1, I1, r1, q1⟩ => test_link (thn (hb pins s1 σ H1 _ I1 q1) fun u s2 ⟨y, H2, I2, r2, q2⟩ =>
    thn (ho pins s2 σ H2 x y v u _ I2 r1 r2 q2) fun d s3 ⟨z, H3, I3, r3, k, e, q3⟩ => ?_)) hm
  subst e
  cases r3
  refine wpAny_truthy_bool ?_
  cases k with
  | false =>
    obtain ⟨k', e', q'⟩ := q3
    cases e'
    exact ite_ff ⟨H3, I3, q'⟩
  | true =>
    refine ite_tt (test_link (thn (hc pins s3 σ H3 _ I3 q3) fun w' s4 ⟨z', H4, I4, r4, q4⟩ => thn (ho' pins s4 σ H4 y z' u w' _ I4 r2 r4 q4) fun d' s5 ⟨z2, H5, I5, r5, k2, e2, q5⟩ => ?_))
    subst e2
    cases r5
    refine wpAny_truthy_bool ?_
    cases k2 with
    | false =>
      obtain ⟨k', e', q'⟩ := q5
      cases e'
      exact ite_ff ⟨H5, I5, q'⟩
    | true =>
      refine ite_tt (test_last (thn (hd pins s5 σ H5 _ I5 q5) fun w2 s6 ⟨z3, H6, I6, r6, q6⟩ => thn (ho'' pins s6 σ H6 z' z3 w' w2 _ I6 r4 r6 q6) fun d2 s7 ⟨z4, H7, I7, r7, k3, e3, q7⟩ => ?_))
      subst e3
      cases r7
      exact wpAny_truthy_bool ⟨H7, I7, q7⟩
end
/-! ### range(n) as a value, list(range(n)) -/
section
variable {X : Cx}
theorem bt_range : bootBuiltins "range" = some (.type "range") := by decide +kernel
theorem call_rangeV : CallR X (.type "range") (fun xs H Q => ∃ j : Int, xs = [.int j] ∧ ∀ p, H p = none → Q (.ref p) (upd H p (.rng 0 j))) := by
  intro pins s σ H xs us Q I r h
  obtain ⟨j, rfl, q⟩ := h
  obtain ⟨u, rfl, t, rfl⟩ := vals1 r
  refine call_range_1 ⟨.ref _, _, I.laid (o := .rng 0 j) (fun b o e => Heap.get?_push_of_some _ e) (Nat.le_refl _) ⟨_, _, _, Heap.get?_push_size _ rfl⟩, rfl, q _ (I.hok.fresh (Nat.le_refl _))⟩
theorem vals_from {lo : Int} : ∀ {n : Nat} {acc : List Value}, acc.length = n → (∀ (i : Nat) v, acc[i]? = some v → ∃ t, v = .int (lo + i * 1) t) → Vals ((List.range n).map fun (i : Nat) => V.int (lo + i)) acc := by
  intro n
  induction n generalizing lo with
  | zero =>
    intro acc hl _
    have : acc = [] := List.length_eq_zero_iff.mp hl
    subst this
    exact .nil
  | succ n ih =>
    intro acc hl ha
    cases acc with
    | nil => simp at hl
    | cons v acc =>
      rw [List.range_succ_eq_map, List.map_cons, List.map_map]
      refine .cons ?_ ?_
      · obtain ⟨t, e⟩ := ha 0 v rfl
        exact ⟨t, by rw [e]; simp⟩
      · have := ih (lo := lo + 1) (acc := acc) (by simpa using hl) fun i u hu => by
          obtain ⟨t, e⟩ := ha (i + 1) u (by simpa using hu)
          exact ⟨t, by rw [e]; congr 1; omega⟩
        have e : (fun (i : Nat) => V.int (lo + 1 + i)) = (fun (i : Nat) => V.int (lo + i)) ∘ Nat.succ := by
          funext i
          simp only [Function.comp]
          congr 1; omega
        rw [← e]; exact this
theorem call_listR (hc : X.calm = true) : CallR X (.type "list") (fun xs H Q => ∃ (a : Addr) (n : Nat), xs = [.ref a] ∧ H a = some (.rng 0 n) ∧ n ≤ 4000 ∧ ∀ l, H l = none → Q (.ref l) (upd H l (.lst ((List.range n).map fun (i : Nat) => V.int (0 + (i : Int)))))) := by
  intro pins s σ H xs us Q I r h
  obtain ⟨a, n, rfl, ha, hn, q⟩ := h
  obtain ⟨u, rfl, rx⟩ := vals1 r
  cases rx
  obtain ⟨t, u, v, ho⟩ := I.hok a _ ha
  have hsz : Builtin.Range.rangeSize 0 (n : Int) 1 = n := by rw [rangeSize_one]; split <;> omega
  refine call_list_range (I.ok.hd hc) (show IsRange s.heap a 0 n 1 t u v from ho) (small_one (by omega) (by omega) (by omega) (by omega)) hsz (by omega) fun h' tk acc c hk hS hacc => ?_
  refine ⟨.ref _, _, I.laid (t' := tk) (o := .lst ((List.range n).map fun (i : Nat) => V.int (0 + (i : Int)))) hk (Nat.le_refl _) ?_, rfl, q _ (I.hok.fresh (Nat.le_refl _))⟩
  refine ⟨by rw [List.length_map, List.length_range]; exact small4 hn, acc.toList, c, vals_from (by rw [Array.length_toList]; exact hacc.1) fun i v hv => hacc.2 i v (by simpa using hv), by simpa using hS⟩
end
/-! ### sorted(a dict) -/
section
variable {prog : Program} {w : World} {A : Around} {E : Value → Shared → Prop} {s : Shared} {κ : Type} [DecidableEq κ] {knd : KeyKind prog w κ}
theorem collect_dict {Q : List Value → Shared → Prop} {d : Addr} {kvs : List (κ × Value)} (hh : A.handled = none) (hd : (d == sysModules) = false) (hD : s.heap.DictOf knd d kvs) (hlen : kvs.length ≤ 4000)
    (hQ : ∀ h' tk (acc : Array Value), (∀ b o, s.heap.get? b = some o → h'.get? b = some o) → s.heap.objs.size < h'.objs.size → ItemsOf (fun i v => ∃ k x, kvs[i]? = some (k, x) ∧ knd.is k v = true) acc kvs.length → Q acc.toList { s with heap := h', toks := tk }) :
    wpAny (model prog w) A (collect (.ref d)) Q E s := by
  unfold collect
  refine wpAny_bind (wpAny_runValue (codeAny_builtin PySem.F.entry_proto_collect ?_))
  rw [Around.under_plainId PySem.F.plain_proto_collect _]
  show wpAny _ A.in1 (newList [] >>= fun l => again (.builtin "list.__iadd__" ⟨[l, .ref d], []⟩)) _ _ s
  refine wpAny_bind (wpAny_newObj_type ?_)
  refine wpAny_pure ⟨plainId_quiet PySem.F.plain_list_iadd _, codeAny_builtin PySem.F.entry_list_iadd ?_⟩
  rw [Around.under_plainId PySem.F.plain_list_iadd _]
  show wpAny _ A.in1 (Builtin.List.listExtendWith (.ref s.heap.objs.size) (.ref d) (.ref s.heap.objs.size)) _ _ { s with heap := s.heap.push (seqObj "list" #[] 0) }
  have hD1 : (s.heap.push (seqObj "list" #[] 0)).DictOf knd d kvs := by
    obtain ⟨ep, hA⟩ := hD.dictAt
    exact (hA.push _).dictOf
  have hS : (s.heap.push (seqObj "list" #[] 0)).get? s.heap.objs.size = some { cls := .type "list", data := .seq #[] 0 } := Heap.get?_push_size _ rfl
  refine extend_dict (R := fun r s' => match r with
      | .ok (.ret v) => wpAny (model prog w) A (match v with
        | .ref a => do
          match (← load a).data with
          | .seq xs _ => pure xs.toList
          | _ => unsupported "internal:collect"
        | _ => unsupported "internal:collect") Q E s'
      | .ok _ => False
      | .error e => E e s') (s := { s with heap := s.heap.push (seqObj "list" #[] 0) }) (knd := knd) hh hd hD1 hlen _ _ 0 hS fun h' tk acc c hk hS' hacc => ?_
  show wpAny _ A (load s.heap.objs.size >>= _) _ _ _
  refine wpAny_bind (wpAny_load hS' ?_)
  refine wpAny_pure ?_
  refine hQ h' tk acc (fun b o e => hk b o (Nat.ne_of_lt (Heap.lt_size e)) (Heap.get?_push_of_some _ e)) (Heap.lt_size hS') hacc
theorem sorted_dict {Q : Value → Shared → Prop} {d : Addr} {kvs : List (κ × Value)} {ns : List Int} (hh : A.handled = none) (hd : (d == sysModules) = false) (hD : s.heap.DictOf knd d kvs) (hlen : kvs.length < 64)
    (hI : ∀ acc : Array Value, ItemsOf (fun i v => ∃ k x, kvs[i]? = some (k, x) ∧ knd.is k v = true) acc kvs.length → IntsAre acc.toList ns)
    (h : ∀ (l : Addr) (h' : Heap) (tk : Nat) (out : Array Value) (ns' : List Int) (n : Nat), (∀ b o, s.heap.get? b = some o → h'.get? b = some o) → s.heap.objs.size ≤ l → h'.get? l = some (seqObj "list" out n) →
      IntsAre out.toList ns' → ns'.Perm ns → ns'.Pairwise (· ≤ ·) → Q (.ref l) { s with heap := h', toks := tk }) :
    wpAny (model prog w) A (call (.builtin "sorted") [.ref d]) Q E s := by
  refine Calls.call_function_entry kind_sorted plain_sorted entry_sorted (args_sorted1 _) ?_
  unfold Builtin.«sorted»
  refine wpAny_bind (m := checkCount "sorted" 1 1 _) (wpAny_pure ?_)
  refine wpAny_bind (collect_dict (A := A.in1) (knd := knd) (by simpa using hh) hd hD (by omega) fun h1 tk acc hk hsz hacc => ?_)
  have hI1 := hI acc hacc
  have hvl : acc.toList.length = kvs.length := by rw [Array.length_toList]; exact hacc.1
  refine wpAny_bind (wpAny_newList ?_ (by rw [sizeLine_eq]; omega))
  have hoL : (h1.push (seqObj "list" acc.toList.toArray 0)).get? h1.objs.size = some (seqObj "list" acc.toList.toArray 0) := Heap.get?_push_size _ rfl
  refine wpAny_bind (wpAny_holding (wpAny_call_entry slot_list_sort ⟨_, hoL, rfl⟩ entry_list_sort (list_sort_tree hoL hI1 (by omega) fun out ns' a1 a2 a3 => ⟨_, rfl, ?_⟩) (args_list_sort _)))
  refine wpAny_pure ⟨_, rfl, ?_⟩
  obtain ⟨e, he⟩ := sortedHeap_at (out := out) hoL
  refine h h1.objs.size _ tk out ns' e (fun b o eb => ?_) ?_ he a1 a2 a3
  · have hlt : b < h1.objs.size := Heap.lt_size (hk b o eb)
    show (sortedHeap (h1.push (seqObj "list" acc.toList.toArray 0)) h1.objs.size acc.toList out).get? b = some o
    rw [sortedHeap_old (Nat.ne_of_lt hlt) (by rw [size_push']; exact Nat.lt_succ_of_lt hlt)]
    exact Heap.get?_push_of_some _ (hk b o eb)
  · exact Nat.le_of_lt hsz
end
section
variable {X : Cx}
theorem call_sortedD (hc : X.calm = true) : CallR X (.builtin "sorted") (fun xs H Q => ∃ (a : Addr) (kvs : List (Key × V)) (ns : List Int), xs = [.ref a] ∧ H a = some (.dK kvs) ∧ kvs.map (·.1) = ns.map Sum.inl ∧ ns.length < 64 ∧
    ∀ (l : Addr) (zs : List Int), H l = none → zs.Perm ns → zs.Pairwise (· ≤ ·) → Q (.ref l) (upd H l (.lst (zs.map V.int)))) := by
  intro pins s σ H xs us Q I r h
  obtain ⟨a, kvs, ns, rfl, ha, hk, hn, q⟩ := h
  obtain ⟨u, rfl, rx⟩ := vals1 r
  cases rx
  obtain ⟨z, hd, vs, rel, dd⟩ := dk_of I.hok ha
  have hl := rel.length
  have hkl : kvs.length = ns.length := by simpa using congrArg List.length hk
  refine sorted_dict (I.ok.hd hc) hd dd (by omega) (ns := ns) (fun acc hacc => ?_) fun l h' tk out zs n hke hle hol hz hp hs => ?_
  · have := vals_keys rel (acc := acc.toList) (by rw [Array.length_toList]; exact hacc.1) fun j v hj => hacc.2 j v (by simpa using hj)
    have e : (kvs.map fun kv => kV kv.1) = ns.map V.int := by
      have := congrArg (List.map kV) hk
      simpa [List.map_map, Function.comp_def, kV] using this
    rw [e] at this
    exact ints_of this
  · have hf : H l = none := I.hok.fresh hle
    refine ⟨.ref l, _, I.laid (t' := tk) (o := .lst (zs.map V.int)) hke hle ?_, rfl, q l zs hf hp hs⟩
    refine ⟨?_, out.toList, n, vals_ints hz, by simpa using hol⟩
    rw [List.length_map, hp.length_eq]
    exact small4 (by omega)
end
end L3

set_option Elab.async false
set_option linter.all false
set_option maxRecDepth 100000
set_option maxHeartbeats 4000000
/-! rules for texts -/
namespace L3
open PySem PySem.Spec PyProof.Rows L2
section
variable {X : Cx}
/-! ### f-strings -/
def tFmt (te : TE) : TE := fun σ H Q => te σ H fun x H1 => ∃ i : Int, x = .int i ∧ i.natAbs.log2 < 1920 ∧ Q (.str (toString i)) H1
theorem pe_fmt {e : Expr} {te : TE} {pos : Pos} (he : PE X e te) : PE X (.FormattedValue e (-1) none pos) (tFmt te) := by
  intro pins s σ H Q I h
  refine wpAny_FormattedValue_plain (thn (he pins s σ H _ I h) fun v s1 ⟨x, H1, I1, r1, q1⟩ => ?_)
  obtain ⟨i, rfl, hi, q⟩ := q1
  obtain ⟨t, rfl⟩ := r1
  exact wpAny_formatField_int hi ⟨.str (toString i), H1, I1.tok _, ⟨_, rfl⟩, q⟩
/-- the parts, one behind another -/
def tJs : List TE → Str → L2.St → Hp → (Str → Hp → Prop) → Prop
  | [], acc, _, H, Q => Q acc H
  | t :: r, acc, σ, H, Q => t σ H fun x H1 => ∃ y, x = .str y ∧ (acc ++ y).length ≤ sizeLine ∧ tJs r (acc ++ y) σ H1 Q
def tJoined (ts : List TE) : TE := fun σ H Q => tJs ts Str.empty σ H fun out H' => Q (.str out) H'
def PJs (X : Cx) : List Expr → List TE → Prop := Paired (PE X)
theorem pj_nil : PJs X [] [] := .nil
theorem pj_cons {e : Expr} {es : List Expr} {t : TE} {ts : List TE} (h : PE X e t) (r : PJs X es ts) : PJs X (e :: es) (t :: ts) := .cons h r
theorem joins {pins : List (Addr × Obj)} {σ : L2.St} : ∀ {es : List Expr} {ts : List TE}, PJs X es ts → ∀ (acc : Str) (H : Hp) (s : Shared) (Q : Str → Hp → Prop) (R : Str → Shared → Prop), L2.Inv X pins σ H s → tJs ts acc σ H Q → (∀ out H' s', L2.Inv X pins σ H' s' → Q out H' → R out s') →
    Joins (model X.prog X.w) X.A X.xe (evalEach es X.env) acc R s
  | _, _, .nil, acc, H, s, Q, R, I, h, k => k acc H s I h
  | _, _, .cons h1 r, acc, H, s, Q, R, I, h, k => by
    show wpAny _ _ (eval _ X.env) _ _ s
    refine thn (h1 pins s σ H _ I h) fun v s1 ⟨x, H1, I1, r1, q1⟩ => ?_
    obtain ⟨y, rfl, hz, q⟩ := q1
    obtain ⟨t, rfl⟩ := r1
    exact ⟨y, t, rfl, hz, joins r (acc ++ y) H1 s1 Q R I1 q k⟩
theorem pe_joined {e1 e2 : Expr} {es : List Expr} {ts : List TE} {pos : Pos} (h : PJs X (e1 :: e2 :: es) ts) : PE X (.JoinedStr (e1 :: e2 :: es) pos) (fun σ H Q => tJs ts Str.empty σ H fun out H' => out.length ≤ sizeLine ∧ Q (.str out) H') := by
  intro pins s σ H Q I hw
  refine wpAny_JoinedStr (joins h Str.empty H s _ _ I hw fun out H' s' I' ⟨hz, q⟩ => ⟨hz, .str out, H', I'.tok _, ⟨_, rfl⟩, q⟩)
/-! ### methods of texts -/
theorem strs_of : ∀ {xs : List Str} {us : List Value}, Vals (xs.map V.str) us → ∃ l : List (Str × Tok), us = strValues l ∧ l.map (·.1) = xs
  | [], _, .nil => ⟨[], rfl, rfl⟩
  | x :: xs, _, .cons ⟨t, e⟩ r => by
    obtain ⟨l, h1, h2⟩ := strs_of r
    exact ⟨(x, t) :: l, by rw [e, h1]; rfl, by rw [List.map_cons, h2]⟩
theorem vals_strs : ∀ {l : List (Str × Tok)}, Vals ((l.map (·.1)).map V.str) (strValues l)
  | [] => .nil
  | p :: l => .cons ⟨p.2, rfl⟩ vals_strs
def rJoin (K : PySem.W.Frag) : V → List V → Hp → VK → Prop := fun x vs H Q => ∃ (z : Str) (p : Addr) (xs : List Str), x = .str z ∧ vs = [.ref p] ∧ SqL K H p (xs.map V.str) ∧ JoinOk z xs = true ∧ Q (.str (Txt.join z xs)) H
theorem mt_joinK (K : PySem.W.Frag) (hK : X.K = K := by rfl) : MtM X "str.join" (rJoin K) := by
  subst hK
  intro pins s σ H x vs v us Q I rx rv h
  obtain ⟨z, p, xs, rfl, rfl, hp, ok, q⟩ := h
  obtain ⟨t, rfl⟩ := rx
  obtain ⟨u, rfl, ru⟩ := vals1 rv
  cases ru
  obtain ⟨its, r1, p1, z1⟩ := I.list hp
  obtain ⟨l, rfl, hl⟩ := strs_of r1
  exact SC.join p1.isList hl ok fun t' k => ⟨.str _, H, I.tok k, ⟨t', rfl⟩, q⟩
def rStarts : V → List V → Hp → VK → Prop := fun x vs H Q => ∃ z y : Str, x = .str z ∧ vs = [.str y] ∧ Q (.bl (Txt.startswith z y)) H
theorem mt_startswith : MtM X "str.startswith" rStarts := by
  intro pins s σ H x vs v us Q I rx rv h
  obtain ⟨z, y, rfl, rfl, q⟩ := h
  obtain ⟨t, rfl⟩ := rx
  obtain ⟨u, rfl, t', rfl⟩ := vals1 rv
  exact SC.startswith ⟨.bl _, H, I, rfl, q⟩
def rFind : V → List V → Hp → VK → Prop := fun x vs H Q => ∃ z y : Str, x = .str z ∧ vs = [.str y] ∧ Q (.int (Txt.find z y)) H
theorem mt_find : MtM X "str.find" rFind := by
  intro pins s σ H x vs v us Q I rx rv h
  obtain ⟨z, y, rfl, rfl, q⟩ := h
  obtain ⟨t, rfl⟩ := rx
  obtain ⟨u, rfl, t', rfl⟩ := vals1 rv
  exact SC.find ⟨.int _, H, I.tok _, ⟨_, rfl⟩, q⟩
def rSplit : V → List V → Hp → VK → Prop := fun x vs H Q => ∃ z y : Str, x = .str z ∧ vs = [.str y] ∧ (y.length == 0) = false ∧ z.length ≤ 4000 ∧ ∀ p, H p = none → Q (.ref p) (upd H p (.lst ((Txt.split z y).map V.str)))
theorem mt_split : MtM X "str.split" rSplit := by
  intro pins s σ H x vs v us Q I rx rv h
  obtain ⟨z, y, rfl, rfl, hy, hz, q⟩ := h
  obtain ⟨t, rfl⟩ := rx
  obtain ⟨u, rfl, t', rfl⟩ := vals1 rv
  have big : z.length ≤ sizeLine := small4 hz
  have fit : ∀ n : Nat, n ≤ 4100 → n ≤ sizeLine := fun n h => by rw [sizeLine_eq]; omega
  have fin : ∀ (l : List (Str × Tok)) (tk : Nat), l.map (·.1) = Txt.split z y → EP X pins σ Q (.ref s.heap.objs.size) { s with heap := s.heap.push { cls := .type "list", data := .seq (strValues l).toArray }, toks := tk } := fun l tk e => by
    have hl : l.length ≤ 4100 := by
      have h1 := PyProof.Rows.split_le z y
      have h2 := congrArg List.length e
      rw [List.length_map] at h2
      omega
    refine ⟨.ref _, _, I.laid (t' := tk) (o := .lst ((l.map (·.1)).map V.str)) (fun b o e => Heap.get?_push_of_some _ e) (Nat.le_refl _) ⟨?_, strValues l, 0, vals_strs, Heap.get?_push_size _ rfl⟩, rfl, ?_⟩
    · rw [List.length_map, List.length_map]; exact fit _ hl
    · rw [e]; exact q _ (I.hok.fresh (Nat.le_refl _))
  have hsz2 : (Builtin.Str.partsBetween z (Builtin.Str.occurrences z y 0 z.length (z.length + 1)) y.length).length ≤ sizeLine := by
    have h1 := StrLaws.occ_length_le z y 0 z.length (z.length + 1)
    refine fit _ ?_
    unfold Builtin.Str.partsBetween
    simp only [List.length_map, List.length_zip, List.length_cons, List.length_append, List.length_singleton]
    omega
  by_cases h1 : (decide (z.length < y.length) || decide (Builtin.Str.strKind z < Builtin.Str.strKind y)) = true
  · refine call_meets F.slot_str_split (typeIs_str _ _ _) F.entry_str_split (F.args_str_split_2 _ _) (meets_str_split_cannot_occur z y t t' h1) ?_
    exact fin [(z, t)] s.toks (by unfold Txt.split; rw [if_pos h1]; rfl)
  · have h1' := Bool.eq_false_iff.mpr h1
    by_cases h2 : (Builtin.Str.occurrences z y 0 z.length (z.length + 1)).isEmpty = true
    · refine call_meets F.slot_str_split (typeIs_str _ _ _) F.entry_str_split (F.args_str_split_2 _ _) (meets_str_split_not_found z y t t' h1' hy h2) ?_
      exact fin [(z, t)] s.toks (by unfold Txt.split; rw [if_neg h1, if_pos h2]; rfl)
    · have h2' := Bool.eq_false_iff.mpr h2
      refine call_meets F.slot_str_split (typeIs_str _ _ _) F.entry_str_split (F.args_str_split_2 _ _) (meets_str_split_sep z y t t' h1' hy h2' big hsz2) ?_
      rw [strsFrom_eq]
      exact fin (numbered s.toks _) _ (by rw [numbered_texts]; unfold Txt.split; rw [if_neg h1, if_neg h2])
/-! ### a part of a text -/
def rSlS : V → Option Int → Option Int → Hp → VK → Prop := fun x lo hi H Q => ∃ z : Str, x = .str z ∧ z.length ≤ 4000 ∧ Q (.str (StrLaws.sliceText z lo hi)) H
theorem part_of {v : Value} {o : Option Int} (h : IsPart v o) : ∃ p : Option (Int × Tok), v = partValue p ∧ p.map (·.1) = o := by
  cases h with
  | none => exact ⟨none, rfl, rfl⟩
  | int i t => exact ⟨some (i, t), rfl, rfl⟩
theorem sl_str : SlR X rSlS := by
  intro pins s σ H x v vl vu lo hi sl Q I rx hs pl pu h
  obtain ⟨z, rfl, hz, q⟩ := h
  obtain ⟨t, rfl⟩ := rx
  obtain ⟨l, rfl, el⟩ := part_of pl
  obtain ⟨u, rfl, eu⟩ := part_of pu
  refine ⟨"str", _, F.slot_str_getitem.lookup, typeIs_str s z t, wpAny_getItem_str_slice (l := l) (u := u) (st := none) hs rfl ?_⟩
  have e : StrLaws.sliceText z lo hi = if ((1 : Int) == 1 && (slicePicked z l u none).length == z.length) = true then z else ⟨((slicePicked z l u none).filterMap (z.cps[·]?)).toArray⟩ := by
    unfold StrLaws.sliceText slicePicked
    rw [el, eu]; rfl
  rw [e] at q
  unfold sliceMade
  have e1 : ((Option.map (fun x => x.1) (none : Option (Int × Tok))).getD 1 == 1) = ((1 : Int) == 1) := rfl
  by_cases c : ((1 : Int) == 1 && (slicePicked z l u none).length == z.length) = true
  · rw [if_pos c] at q
    rw [if_pos (by rw [e1]; exact c)]
    exact ⟨.str z, H, I, ⟨t, rfl⟩, q⟩
  · rw [if_neg c] at q
    rw [if_neg (by rw [e1]; exact c)]
    have hle : (slicePicked z l u none).length ≤ z.length := PyProof.Rows.indices_len_le _ _ _
    refine ⟨?_, .str _, H, I.tok _, ⟨_, rfl⟩, q⟩
    have h1 := List.length_filterMap_le (z.cps[·]?) (slicePicked z l u none)
    refine Nat.le_trans ?_ (small4 hz)
    show ((slicePicked z l u none).filterMap (z.cps[·]?)).toArray.size ≤ z.length
    rw [List.size_toArray]
    omega
/-! ### a text, sign by sign -/
def Its (z : Str) : It := ⟨fun i _ => i < z.cps.size, fun i H x H' => H' = H ∧ ∃ c, z.cps[i]? = some c ∧ x = .str ⟨#[c]⟩, fun i _ => z.cps.size = i⟩
theorem turn_str {P : Program} {w : World} {K : PySem.W.Frag} {tg : Expr} {nm : String} (it : Addr) (z : Str) (t : Tok)
    (hn : ["enumerate", "zip", "dict_itemiterator", "dict_reverseitemiterator", "odict_iterator", "itertools.zip_longest", "itertools.pairwise"].contains nm = false)
    (W : ∀ A : Around, A.handled = none → Walks P w A it [it] [it] z.cps.size (SignAt z) (fun i h => h.IsStrIter it nm z t i))
    (S : ∀ (A : Around) (i : Nat) (s : Shared) (Q : Value → Shared → Prop) (E : Value → Shared → Prop), s.heap.IsStrIter it nm z t i → Q (.ref it) s → wpAny (model P w) A (pyIter (.ref it)) Q E s) : Turn P w K tg (Its z) [it] it (fun i h => h.IsStrIter it nm z t i) where
  mem := by simp
  obj := fun i h st b hb => by
    have e : b = it := by simpa using hb
    subst e
    obtain ⟨o, e, c, d⟩ := st
    exact ⟨o, e, fun v z => by rw [d] at z; cases z⟩
  keep := fun i h h' st k => by
    obtain ⟨o, e, r⟩ := st
    exact ⟨o, k it (by simp) o e, r⟩
  item := by
    intro X hP hw hK hc i pins s σ H E I hf st hg
    subst hP hw hK
    obtain ⟨f0, f1, f2, f3, f4, f5⟩ := hf it (by simp)
    refine (W X.A (I.ok.hd hc)).item i s _ _ hg st fun v h' tk hv st' kk => ?_
    obtain ⟨c, u, hcc, rfl⟩ := hv
    have I1 : L2.Inv X pins σ H { s with heap := h', toks := tk } := I.turned (fun b o hb e => kk b o (by simpa using hb) e) f0 f1 f3 f4 f5
    obtain ⟨o, e, c1, d⟩ := id st'
    exact ⟨_, rfl, go_of (s := { s with heap := h', toks := tk }) e c1 d hn ⟨.str ⟨#[c]⟩, H, I1, ⟨u, rfl⟩, ⟨rfl, c, hcc, rfl⟩, st', fun b hb => (hf b hb).1⟩⟩
  done := by
    intro X hP hw hK hc i pins s σ H E I hf st hg
    subst hP hw hK
    obtain ⟨f0, f1, f2, f3, f4, f5⟩ := hf it (by simp)
    have e : z.cps.size = i := hg
    subst e
    exact (W X.A (I.ok.hd hc)).done s _ _ st fun h' tk kk => ⟨rfl, I.turned (fun b o hb e => kk b o (by simpa using hb) e) f0 f1 f3 f4 f5⟩
  self := S
def iStr (tl : TE) : TI := fun σ H R => tl σ H fun x H1 => ∃ z, x = .str z ∧ R (Its z) H1
theorem pi_str {tg l : Expr} {tl : TE} (hl : PE X l tl) : PI X tg l (iStr tl) := by
  intro pins s σ H R I h
  refine thn (hl pins s σ H _ I h) fun v s1 ⟨x, H1, I1, r1, q1⟩ => ?_
  obtain ⟨z, rfl, q⟩ := q1
  obtain ⟨t, rfl⟩ := r1
  have fin : ∀ (nm : String), ["enumerate", "zip", "dict_itemiterator", "dict_reverseitemiterator", "odict_iterator", "itertools.zip_longest", "itertools.pairwise"].contains nm = false →
      (∀ A : Around, A.handled = none → Walks X.prog X.w A s1.heap.objs.size [s1.heap.objs.size] [s1.heap.objs.size] z.cps.size (SignAt z) (fun i h => h.IsStrIter s1.heap.objs.size nm z t i)) →
      (∀ (A : Around) (i : Nat) (s : Shared) (Q : Value → Shared → Prop) (E : Value → Shared → Prop), s.heap.IsStrIter s1.heap.objs.size nm z t i → Q (.ref s1.heap.objs.size) s → wpAny (model X.prog X.w) A (pyIter (.ref s1.heap.objs.size)) Q E s) →
      PIE X pins σ tg R (.ref s1.heap.objs.size) { s1 with heap := s1.heap.push { cls := .type nm, data := .fields #[.str z t, .int 0 0] } } := fun nm hn W S => by
    refine ⟨s1.heap.objs.size, [s1.heap.objs.size], _, _, H1, rfl, I1.kept (t' := s1.toks) fun b o e => Heap.get?_push_of_some _ e, turn_str _ z t hn W S, ⟨_, Heap.get?_push_size _ rfl, rfl, rfl⟩, fun b hb => ?_, q⟩
    have e : b = s1.heap.objs.size := by simpa using hb
    subst e
    exact I1.fpOk (Nat.le_refl _) (I1.hok.fresh (Nat.le_refl _))
  cases ha : z.cps.all (· < 128)
  · exact wpAny_pyIter_wide ha (fin _ (by decide) (fun A hA => Walks.strWide hA _ z t) fun _ _ _ _ _ st h => wpAny_pyIter_striter_wide st h)
  · exact wpAny_pyIter_ascii ha (fin _ (by decide) (fun A hA => Walks.strAscii hA _ z t) fun _ _ _ _ _ st h => wpAny_pyIter_striter_ascii st h)
/-! ### all([..]), int(text) -/
theorem bt_all : bootBuiltins "all" = some (.builtin "all") := by decide +kernel
theorem bools_at {bs : List Bool} {us : List Value} (r : Vals (bs.map V.bl) us) : ∀ (i : Nat) v, us[i]? = some v → v = .bool (bs.getD i false) := by
  induction bs generalizing us with
  | nil => cases r; intro i v h; simp at h
  | cons b bs ih =>
    cases r with
    | cons r1 rr =>
      intro i v h
      cases i with
      | zero =>
        have : _ = v := Option.some.inj h
        rw [← this]; exact r1
      | succ i => exact ih rr i v h
theorem all_getD : ∀ bs : List Bool, ((List.range bs.length).all fun i => bs.getD i false) = bs.all id := by
  intro bs
  rw [Bool.eq_iff_iff, List.all_eq_true, List.all_eq_true]
  constructor
  · intro h b hb
    obtain ⟨i, hi⟩ := List.getElem?_of_mem hb
    have hlt := (List.getElem?_eq_some_iff.mp hi).1
    have := h i (List.mem_range.mpr hlt)
    rw [List.getD_eq_getElem?_getD, hi] at this
    exact this
  · intro h i hi
    have hlt := List.mem_range.mp hi
    rw [List.getD_eq_getElem?_getD, List.getElem?_eq_getElem hlt]
    exact h _ (List.getElem_mem hlt)
theorem call_allK (K : PySem.W.Frag) (hc : X.calm = true) (hK : X.K = K := by rfl) : CallR X (.builtin "all") (fun xs H Q => ∃ (p : Addr) (bs : List Bool), xs = [.ref p] ∧ SqL K H p (bs.map V.bl) ∧ Q (.bl (bs.all id)) H) := by
  subst hK
  intro pins s σ H xs us Q I r h
  obtain ⟨p, bs, rfl, hp, q⟩ := h
  obtain ⟨u, rfl, rx⟩ := vals1 r
  cases rx
  obtain ⟨its, r1, p1, z1⟩ := I.list hp
  have hl := r1.length
  rw [List.length_map] at hl
  have hlt : p < s.heap.objs.size := by obtain ⟨o, n, e, _⟩ := p1; exact Heap.lt_size e
  refine call_all_walk (wpAny_pyIter_list p1.isList ?_)
  refine ⟨s.heap.objs.size, _, _, _, _, _, fun i => bs.getD i false, rfl, Walks.list (by simpa using I.ok.hd hc) s.heap.objs.size p (Nat.ne_of_lt hlt) its.toArray, ⟨⟨_, Heap.get?_push_size _ rfl, rfl, rfl⟩, p1.isList.push _⟩, ?_, fun h' tk hk => ?_⟩
  · intro i v s' Q' E' hv hq
    rw [bools_at r1 i v (by simpa using hv)]
    exact wpAny_truthy_bool hq
  · rw [List.size_toArray, ← hl, all_getD]
    refine ⟨.bl _, H, I.kept (t' := tk) fun b o e => hk b o ?_ (Heap.get?_push_of_some _ e), rfl, q⟩
    intro z
    have e' : b = s.heap.objs.size := by simpa using z
    exact absurd (Heap.lt_size e) (by rw [e']; exact Nat.lt_irrefl _)
theorem call_intT : CallR X (.type "int") (fun xs H Q => ∃ (z : Str) (n : Int), xs = [.str z] ∧ PySem.intText? z = some n ∧ z.length ≤ 640 ∧ Q (.int n) H) := by
  intro pins s σ H xs us Q I r h
  obtain ⟨z, n, rfl, hn, hl, q⟩ := h
  obtain ⟨u, rfl, t, rfl⟩ := vals1 r
  exact PySem.W.KIN.call_text hn hl ⟨.int n, H, I.tok _, ⟨_, rfl⟩, q⟩
theorem pe_globS {x : Str} {y : Str} {t : Tok} {pos : Pos} (hg : Gl X x) (hm : X.mg x = some (.str y t)) (hd : (x == ("__debug__" : Str)) = false := by decide) : PE X (.Name x pos) (tC (.str y)) := pe_glob hg hm ⟨t, rfl⟩ hd
end
end L3

/-! the mathematics of sets of rests, over plain lists -/
namespace Sr
theorem mod_iff {x r n : Int} (h0 : 0 ≤ r) (h1 : r < n) : (x - r) % n = 0 ↔ x % n = r := by
  rw [← Int.emod_eq_emod_iff_emod_sub_eq_zero, Int.emod_eq_of_lt h0 h1]
/-- two rising lists with the same members are one -/
theorem rise_ext : ∀ {l m : List Int}, l.Pairwise (· < ·) → m.Pairwise (· < ·) → (∀ j, j ∈ l ↔ j ∈ m) → l = m
  | [], [], _, _, _ => rfl
  | [], y :: m, _, _, h => absurd ((h y).mpr List.mem_cons_self) (by simp)
  | x :: l, [], _, _, h => absurd ((h x).mp List.mem_cons_self) (by simp)
  | x :: l, y :: m, hl, hm, h => by
    rw [List.pairwise_cons] at hl hm
    have hx := (h x).mp List.mem_cons_self
    have hy := (h y).mpr List.mem_cons_self
    have e : x = y := by
      rcases List.mem_cons.mp hx with z | z
      · exact z
      · rcases List.mem_cons.mp hy with q | q
        · exact q.symm
        · have := hl.1 y q
          have := hm.1 x z
          omega
    subst e
    congr 1
    refine rise_ext hl.2 hm.2 fun j => ?_
    constructor
    · intro hj
      rcases List.mem_cons.mp ((h j).mp (List.mem_cons_of_mem _ hj)) with z | z
      · exact absurd (hl.1 j hj) (by omega)
      · exact z
    · intro hj
      rcases List.mem_cons.mp ((h j).mpr (List.mem_cons_of_mem _ hj)) with z | z
      · exact absurd (hm.1 j hj) (by omega)
      · exact z
/-- 0, 1, .. below n -/
def below (n : Int) : List Int := (List.range n.toNat).map fun (i : Nat) => (0 : Int) + (i : Int)
theorem mem_below {n j : Int} : j ∈ below n ↔ 0 ≤ j ∧ j < n := by
  unfold below
  simp only [List.mem_map, List.mem_range]
  constructor
  · rintro ⟨i, h, rfl⟩; omega
  · intro h; exact ⟨j.toNat, by omega, by omega⟩
theorem below_rise (n : Int) : (below n).Pairwise (· < ·) := by
  unfold below
  rw [List.pairwise_map]
  exact List.pairwise_lt_range.imp fun {a b} h => by omega
theorem below_len (n : Int) : (below n).length = n.toNat := by simp [below]
/-- the set of a list, as the law tells it -/
def lset (ns : List Int) (n : Int) : List Int := (below n).filter fun r => decide ((0 : Int) < ((ns.filter fun x => decide ((x - r) % n = 0)).length : Int))
theorem mem_lset {ns : List Int} {n j : Int} : j ∈ lset ns n ↔ 0 ≤ j ∧ j < n ∧ ∃ x ∈ ns, x % n = j := by
  unfold lset
  rw [List.mem_filter, mem_below]
  constructor
  · rintro ⟨⟨h0, h1⟩, h⟩
    refine ⟨h0, h1, ?_⟩
    have hp : 0 < (ns.filter fun x => decide ((x - j) % n = 0)).length := by have := of_decide_eq_true h; omega
    obtain ⟨x, hx⟩ := List.length_pos_iff_exists_mem.mp hp
    rw [List.mem_filter] at hx
    exact ⟨x, hx.1, (mod_iff h0 h1).mp (of_decide_eq_true hx.2)⟩
  · rintro ⟨h0, h1, x, hx, e⟩
    refine ⟨⟨h0, h1⟩, decide_eq_true ?_⟩
    have : x ∈ ns.filter fun x => decide ((x - j) % n = 0) := List.mem_filter.mpr ⟨hx, decide_eq_true ((mod_iff h0 h1).mpr e)⟩
    have := List.length_pos_of_mem this
    omega
theorem lset_rise (ns : List Int) (n : Int) : (lset ns n).Pairwise (· < ·) := (below_rise n).sublist List.filter_sublist
theorem lset_len (ns : List Int) (n : Int) : (lset ns n).length ≤ n.toNat := by
  rw [← below_len n]; exact List.length_filter_le _ _
theorem mod_mem {ns : List Int} {n : Int} (hn : 0 < n) (j : Int) : j ∈ (ns.map fun x => x % n) ↔ j ∈ lset ns n := by
  rw [List.mem_map, mem_lset]
  constructor
  · rintro ⟨x, hx, rfl⟩
    exact ⟨Int.emod_nonneg _ (by omega), Int.emod_lt_of_pos _ hn, x, hx, rfl⟩
  · rintro ⟨_, _, x, hx, e⟩
    exact ⟨x, hx, e⟩
theorem rests_eq {ns zs : List Int} {n : Int} (hn : 0 < n) (h1 : zs.Pairwise (· < ·)) (h2 : ∀ j, j ∈ zs ↔ j ∈ ns.map fun x => x % n) : zs = lset ns n :=
  rise_ext h1 (lset_rise ns n) fun j => (h2 j).trans (mod_mem hn j)
end Sr
namespace Sr
/-- all sums of a rest of the one and a rest of the other -/
def pairs (xs ys : List Int) : List Int := xs.flatMap fun a => ys.map fun b => a + b
theorem pairs_nil (ys : List Int) : pairs [] ys = [] := rfl
theorem pairs_snoc (xs : List Int) (a : Int) (ys : List Int) : pairs (xs ++ [a]) ys = pairs xs ys ++ ys.map fun b => a + b := by simp [pairs]
theorem pairs_len (xs ys : List Int) : (pairs xs ys).length = xs.length * ys.length := by
  induction xs with
  | nil => simp [pairs]
  | cons x xs ih =>
    have : pairs (x :: xs) ys = (ys.map fun b => x + b) ++ pairs xs ys := rfl
    rw [this, List.length_append, List.length_map, ih, List.length_cons, Nat.succ_mul]
    omega
theorem mem_pairs {xs ys : List Int} {j : Int} : j ∈ pairs xs ys ↔ ∃ a ∈ xs, ∃ b ∈ ys, a + b = j := by
  simp [pairs]
/-- the sums of two lists -/
def lsums (one other : List Int) (n : Int) : List Int := lset (pairs (lset one n) (lset other n)) n
theorem lset_ext {xs ys : List Int} {n : Int} (h : ∀ j, (∃ x ∈ xs, x % n = j) ↔ ∃ y ∈ ys, y % n = j) : lset xs n = lset ys n :=
  rise_ext (lset_rise _ _) (lset_rise _ _) fun j => by rw [mem_lset, mem_lset, h j]
theorem lsums_comm (one other : List Int) (n : Int) : lsums one other n = lsums other one n := by
  refine lset_ext fun j => ?_
  constructor
  · rintro ⟨x, hx, e⟩
    obtain ⟨a, ha, b, hb, rfl⟩ := mem_pairs.mp hx
    exact ⟨b + a, mem_pairs.mpr ⟨b, hb, a, ha, rfl⟩, by rw [Int.add_comm]; exact e⟩
  · rintro ⟨x, hx, e⟩
    obtain ⟨a, ha, b, hb, rfl⟩ := mem_pairs.mp hx
    exact ⟨b + a, mem_pairs.mpr ⟨b, hb, a, ha, rfl⟩, by rw [Int.add_comm]; exact e⟩
theorem pairs_le {one other : List Int} {n : Int} (h : n ≤ 24) : (pairs (lset one n) (lset other n)).length ≤ 576 := by
  rw [pairs_len]
  have h1 := lset_len one n
  have h2 := lset_len other n
  exact Nat.mul_le_mul (by omega : _ ≤ 24) (by omega : _ ≤ 24)
theorem rise_nodup : ∀ {l : List Int}, l.Pairwise (· < ·) → l.Nodup := fun h => h.imp fun {a b} h => by omega
end Sr
namespace Sr
theorem in_below {zs : List Int} {n : Int} (h : zs.Pairwise (· < ·)) (hb : ∀ j ∈ zs, 0 ≤ j ∧ j < n) : zs.length ≤ n.toNat := by
  have key : ∀ (ms ns : List Int), ms.Nodup → (∀ j ∈ ms, j ∈ ns) → ms.length ≤ ns.length := by
    intro ms
    induction ms with
    | nil => intro ns _ _; exact Nat.zero_le _
    | cons x r ih =>
      intro ns nd hm
      rw [List.nodup_cons] at nd
      have hx : x ∈ ns := hm x List.mem_cons_self
      have := ih (ns.erase x) nd.2 fun j hj => by
        have hne : j ≠ x := fun e => nd.1 (e ▸ hj)
        exact (List.mem_erase_of_ne hne).mpr (hm j (List.mem_cons_of_mem _ hj))
      rw [List.length_erase_of_mem hx] at this
      have : 0 < ns.length := List.length_pos_of_mem hx
      simp only [List.length_cons]
      omega
  have := key zs (below n) (rise_nodup h) fun j hj => mem_below.mpr (hb j hj)
  rwa [below_len] at this
end Sr

/-! shifts that leave a set as it is -/
namespace Sr
theorem ilt (a b : Int) : a < b ∨ a ≥ b := by omega
/-- j's rest is one of the list's -/
def Has (ns : List Int) (n j : Int) : Prop := ∃ x ∈ ns, x % n = j % n
theorem has_mod {ns : List Int} {n j k : Int} (h : j % n = k % n) : Has ns n j ↔ Has ns n k := by unfold Has; rw [h]
theorem mem_lset_has {ns : List Int} {n j : Int} : j ∈ lset ns n ↔ (0 ≤ j ∧ j < n) ∧ Has ns n j := by
  rw [mem_lset]
  constructor
  · rintro ⟨h0, h1, x, hx, e⟩
    exact ⟨⟨h0, h1⟩, x, hx, by rw [e, Int.emod_eq_of_lt h0 h1]⟩
  · rintro ⟨⟨h0, h1⟩, x, hx, e⟩
    exact ⟨h0, h1, x, hx, by rw [e, Int.emod_eq_of_lt h0 h1]⟩
theorem has_shift {ns : List Int} {n b j : Int} : Has (ns.map fun x => x + b) n j ↔ Has ns n (j - b) := by
  unfold Has
  constructor
  · rintro ⟨y, hy, e⟩
    obtain ⟨x, hx, rfl⟩ := List.mem_map.mp hy
    refine ⟨x, hx, ?_⟩
    have := Int.emod_eq_emod_iff_emod_sub_eq_zero.mp e
    apply Int.emod_eq_emod_iff_emod_sub_eq_zero.mpr
    rw [show x - (j - b) = x + b - j by omega]; exact this
  · rintro ⟨x, hx, e⟩
    refine ⟨x + b, List.mem_map.mpr ⟨x, hx, rfl⟩, ?_⟩
    have := Int.emod_eq_emod_iff_emod_sub_eq_zero.mp e
    apply Int.emod_eq_emod_iff_emod_sub_eq_zero.mpr
    rw [show x + b - j = x - (j - b) by omega]; exact this
/-- shifting by b leaves the set as it is -/
def Stay (ns : List Int) (n b : Int) : Prop := lset (ns.map fun x => x + b) n = lset ns n
instance (ns : List Int) (n b : Int) : Decidable (Stay ns n b) := inferInstanceAs (Decidable (_ = _))
theorem lset_iff {xs ys : List Int} {n : Int} (hn : 0 < n) : lset xs n = lset ys n ↔ ∀ j, Has xs n j ↔ Has ys n j := by
  constructor
  · intro h j
    have hj : 0 ≤ j % n ∧ j % n < n := ⟨Int.emod_nonneg _ (by omega), Int.emod_lt_of_pos _ hn⟩
    have e : (j % n) % n = j % n := Int.emod_emod_of_dvd _ (Int.dvd_refl n)
    have h1 : j % n ∈ lset xs n ↔ j % n ∈ lset ys n := by rw [h]
    rw [mem_lset_has, mem_lset_has] at h1
    rw [has_mod (ns := xs) e.symm, has_mod (ns := ys) e.symm]
    exact ⟨fun z => (h1.mp ⟨hj, z⟩).2, fun z => (h1.mpr ⟨hj, z⟩).2⟩
  · intro h
    refine rise_ext (lset_rise _ _) (lset_rise _ _) fun j => ?_
    rw [mem_lset_has, mem_lset_has, h j]
theorem stay_iff {ns : List Int} {n b : Int} (hn : 0 < n) : Stay ns n b ↔ ∀ j, Has ns n (j - b) ↔ Has ns n j := by
  unfold Stay
  rw [lset_iff hn]
  constructor
  · intro h j; rw [← has_shift]; exact h j
  · intro h j; rw [has_shift]; exact h j
section
variable {ns : List Int} {n : Int} (hn : 0 < n)
include hn
theorem stay_zero : Stay ns n 0 := (stay_iff hn).mpr fun j => by rw [Int.sub_zero]
theorem stay_n : Stay ns n n := (stay_iff hn).mpr fun j => has_mod (by rw [Int.sub_emod, Int.emod_self]; simp)
theorem stay_add {b c : Int} (hb : Stay ns n b) (hc : Stay ns n c) : Stay ns n (b + c) := by
  rw [stay_iff hn] at *
  intro j
  rw [show j - (b + c) = j - b - c by omega, hc, hb]
theorem stay_neg {b : Int} (hb : Stay ns n b) : Stay ns n (-b) := by
  rw [stay_iff hn] at *
  intro j
  have := hb (j + b)
  rw [show j + b - b = j by omega] at this
  rw [show j - -b = j + b by omega]
  exact this.symm
theorem stay_mulN {b : Int} (hb : Stay ns n b) : ∀ k : Nat, Stay ns n ((k : Int) * b)
  | 0 => by rw [show ((0 : Nat) : Int) * b = 0 by simp]; exact stay_zero hn
  | k + 1 => by
    rw [show ((k + 1 : Nat) : Int) * b = (k : Int) * b + b by rw [Int.natCast_add, Int.add_mul]; simp]
    exact stay_add hn (stay_mulN hb k) hb
theorem stay_mul {b : Int} (hb : Stay ns n b) (k : Int) : Stay ns n (k * b) := by
  rcases ilt k 0 with z | z
  · have := stay_neg hn (stay_mulN hn hb (-k).toNat)
    rw [show ((-k).toNat : Int) = -k by omega, Int.neg_mul, Int.neg_neg] at this
    exact this
  · have := stay_mulN hn hb k.toNat
    rwa [show ((k.toNat : Nat) : Int) = k by omega] at this
/-- the least number from 1 on that stays -/
theorem least_stay : ∃ m : Int, 1 ≤ m ∧ m ≤ n ∧ Stay ns n m ∧ ∀ b, Stay ns n b → b % m = 0 := by
  have ex : ∃ k : Nat, 1 ≤ k ∧ Stay ns n (k : Int) := ⟨n.toNat, by omega, by rw [show ((n.toNat : Nat) : Int) = n by omega]; exact stay_n hn⟩
  have least : ∀ (N : Nat), (∃ k : Nat, k ≤ N ∧ 1 ≤ k ∧ Stay ns n (k : Int)) → ∃ k : Nat, 1 ≤ k ∧ Stay ns n (k : Int) ∧ ∀ j : Nat, 1 ≤ j → Stay ns n (j : Int) → k ≤ j := by
    intro N
    induction N with
    | zero => rintro ⟨k, h1, h2, _⟩; omega
    | succ N ih =>
      rintro ⟨k, h1, h2, h3⟩
      by_cases h : ∃ k : Nat, k ≤ N ∧ 1 ≤ k ∧ Stay ns n (k : Int)
      · exact ih h
      · have hk : k = N + 1 := by
          rcases Nat.lt_or_ge N k with z | z
          · omega
          · exact absurd ⟨k, z, h2, h3⟩ h
        refine ⟨k, h2, h3, fun j hj hs => ?_⟩
        rcases Nat.lt_or_ge j k with z | z
        · exact absurd ⟨j, by omega, hj, hs⟩ h
        · exact z
  obtain ⟨k0, h1, h2⟩ := ex
  obtain ⟨m, hm1, hm2, hm3⟩ := least k0 ⟨k0, Nat.le_refl _, h1, h2⟩
  refine ⟨m, by omega, ?_, hm2, fun b hb => ?_⟩
  · have := hm3 n.toNat (by omega) (by rw [show ((n.toNat : Nat) : Int) = n by omega]; exact stay_n hn)
    omega
  · have hm : (0 : Int) < m := by omega
    have hr : Stay ns n (b % m) := by
      have := stay_add hn hb (stay_neg hn (stay_mul hn hm2 (b / m)))
      have e : b + -(b / m * m) = b % m := by
        have := Int.emod_add_mul_ediv b m
        have c := Int.mul_comm (b / m) m
        omega
      rw [e] at this
      exact this
    have h0 := Int.emod_nonneg b (show (m : Int) ≠ 0 by omega)
    have hlt := Int.emod_lt_of_pos b hm
    rcases ilt 0 (b % m) with z | z
    · have := hm3 (b % m).toNat (by omega) (by rw [show (((b % m).toNat : Nat) : Int) = b % m by omega]; exact hr)
      omega
    · omega
/-- the least divisor that stays tells all the stays -/
theorem step_all {M : Int} (h1 : 1 ≤ M) (hd : n % M = 0) (hs : Stay ns n M) (hmin : ∀ k, 1 ≤ k → k ≤ n → n % k = 0 → Stay ns n k → M ≤ k) (b : Int) : Stay ns n b ↔ b % M = 0 := by
  obtain ⟨m, m1, m2, m3, m4⟩ := least_stay (ns := ns) hn
  have e1 := hmin m m1 m2 (m4 n (stay_n hn)) m3
  have e2 := m4 M hs
  have e3 : m ≤ M := by
    rcases ilt M m with z | z
    · rw [Int.emod_eq_of_lt (by omega) z] at e2; omega
    · exact z
  have e : m = M := by omega
  subst e
  constructor
  · exact m4 b
  · intro h
    have := stay_mul hn hs (b / m)
    have e : b / m * m = b := by
      have := Int.emod_add_mul_ediv b m
      have c := Int.mul_comm (b / m) m
      omega
    rwa [e] at this
end
/-- the stays, as told -/
def lstays (ns : List Int) (n : Int) : List Int := (below n).filter fun b => decide (Stay ns n b)
theorem lstays_rise (ns : List Int) (n : Int) : (lstays ns n).Pairwise (· < ·) := (below_rise n).sublist List.filter_sublist
theorem mem_lstays {ns : List Int} {n b : Int} : b ∈ lstays ns n ↔ (0 ≤ b ∧ b < n) ∧ Stay ns n b := by
  unfold lstays; rw [List.mem_filter, mem_below, decide_eq_true_eq]
theorem lstays_len (ns : List Int) (n : Int) : (lstays ns n).length ≤ n.toNat := by
  rw [← below_len n]; exact List.length_filter_le _ _
theorem has_lset {ns : List Int} {n j : Int} (hn : 0 < n) : Has (lset ns n) n j ↔ Has ns n j := by
  unfold Has
  constructor
  · rintro ⟨x, hx, e⟩
    obtain ⟨_, y, hy, e'⟩ := mem_lset_has.mp hx
    exact ⟨y, hy, e'.trans e⟩
  · rintro ⟨x, hx, e⟩
    have h0 := Int.emod_nonneg x (show n ≠ 0 by omega)
    have h1 := Int.emod_lt_of_pos x hn
    refine ⟨x % n, mem_lset.mpr ⟨h0, h1, x, hx, rfl⟩, ?_⟩
    rw [Int.emod_emod_of_dvd _ (Int.dvd_refl n)]; exact e
theorem lset_lset {ns : List Int} {n : Int} (hn : 0 < n) : lset (lset ns n) n = lset ns n := (lset_iff hn).mpr fun j => has_lset hn
theorem stay_lset {ns : List Int} {n b : Int} (hn : 0 < n) : lset ((lset ns n).map fun x => x + b) n = lset ns n ↔ Stay ns n b := by
  unfold Stay
  rw [lset_iff hn, lset_iff hn]
  constructor
  · intro h j; rw [has_shift]; rw [← h j, has_shift, has_lset hn]
  · intro h j; rw [has_shift, has_lset hn, ← h j, has_shift]
theorem due_eq {ns : List Int} {n : Int} (hn : 0 < n) : ((below n).filter fun b => decide (lset ((lset ns n).map fun x => x + b) n = lset ns n)) = lstays ns n := by
  unfold lstays
  apply List.filter_congr
  intro b _
  exact decide_eq_decide.mpr (stay_lset hn)
/-- the step's multiples below the round -/
theorem mults {ns : List Int} {n M : Int} (hn : 0 < n) (h1 : 1 ≤ M) (hd : n % M = 0) (hall : ∀ b, Stay ns n b ↔ b % M = 0) : lstays ns n = (below (n / M)).map fun k => k * M := by
  have hM : (0 : Int) < M := by omega
  have hq : n / M * M = n := by
    have := Int.emod_add_mul_ediv n M
    have c := Int.mul_comm (n / M) M
    omega
  refine rise_ext (lstays_rise ns n) ?_ fun j => ?_
  · rw [List.pairwise_map]
    exact (below_rise _).imp fun {a b} h => Int.mul_lt_mul_of_pos_right h hM
  · rw [mem_lstays, hall, List.mem_map]
    constructor
    · rintro ⟨⟨h0, hl⟩, hm⟩
      have e : j / M * M = j := by
        have := Int.emod_add_mul_ediv j M
        have c := Int.mul_comm (j / M) M
        omega
      refine ⟨j / M, mem_below.mpr ⟨Int.ediv_nonneg h0 (by omega), ?_⟩, e⟩
      rcases ilt (j / M) (n / M) with z | z
      · exact z
      · have := Int.mul_le_mul_of_nonneg_right z (show (0 : Int) ≤ M by omega)
        omega
    · rintro ⟨k, hk, rfl⟩
      obtain ⟨k0, k1⟩ := mem_below.mp hk
      refine ⟨⟨Int.mul_nonneg k0 (by omega), ?_⟩, Int.mul_emod_left k M⟩
      have := Int.mul_lt_mul_of_pos_right k1 hM
      omega
end Sr

set_option Elab.async false
set_option linter.all false
/-! what the defs promise -/
namespace L3
open PySem PySem.Spec PyProof.Rows L2 Sr
def spNumBy : Sp := fun vs H Q _ => ∃ c y : Int, vs = [.int c, .int y] ∧ ∀ (v : Int) H', Same H H' → Q (.int v) H'
def spNumbers (K : PySem.W.Frag) : Sp := fun vs H Q _ => ∃ (a : Addr) (ns : List Int) (first count way : Int), vs = [.ref a, .int first, .int count, .int way] ∧ SqL K H a (ns.map V.int) ∧ 0 ≤ first ∧ 0 ≤ count ∧ count ≤ 1000 ∧ ∀ zs : List Int, zs.length = count.toNat → NewI H zs Q
def spIsSet (K : PySem.W.Frag) : Sp := fun vs H Q _ => ∃ (a b : Addr) (ns ms : List Int), vs = [.ref a, .ref b] ∧ H a = some (.lst (ns.map V.int)) ∧ SqL K H b (ms.map V.int) ∧ Q (.bl (decide (ns = ms))) H
def spIsRound : Sp := fun vs H Q _ => ∃ n : Int, vs = [.int n] ∧ Q (.bl (decide (1 ≤ n ∧ n ≤ 24))) H
def spCheck : Sp := fun vs H Q _ => ∃ n : Int, vs = [.int n] ∧ 1 ≤ n ∧ n ≤ 24 ∧ Q .non H
def spRests (K : PySem.W.Frag) : Sp := fun vs H Q _ => ∃ (a : Addr) (ns : List Int) (n : Int), vs = [.ref a, .int n] ∧ SqL K H a (ns.map V.int) ∧ ns.length ≤ 4000 ∧ 1 ≤ n ∧ n ≤ 24 ∧ NewI H (lset ns n) Q
def spCell (K : PySem.W.Frag) : Sp := fun vs H Q _ => ∃ (a : Addr) (ns : List Int) (k : Int), vs = [.ref a, .int k] ∧ SqL K H a (ns.map V.int) ∧ 0 ≤ k ∧ Q (.int (ns.getD k.toNat 0)) H
def spWhole : Sp := fun vs H Q _ => ∃ i : Int, vs = [.int i] ∧ Q (.bl true) H
def spLaw (K : PySem.W.Frag) : Sp := fun vs H Q _ => ∃ (a : Addr) (ns : List Int), vs = [.ref a] ∧ SqL K H a (ns.map V.int) ∧ ns.length ≤ 63 ∧ ∀ H', Q (.bl true) H'
def spSums (K : PySem.W.Frag) : Sp := fun vs H Q _ => ∃ (a b : Addr) (ns ms : List Int) (n : Int), vs = [.ref a, .ref b, .int n] ∧ SqL K H a (ns.map V.int) ∧ SqL K H b (ms.map V.int) ∧ ns.length ≤ 4000 ∧ ms.length ≤ 4000 ∧ 1 ≤ n ∧ n ≤ 24 ∧ NewI H (lsums ns ms n) Q
def spShifted (K : PySem.W.Frag) : Sp := fun vs H Q _ => ∃ (a : Addr) (ns : List Int) (y n : Int), vs = [.ref a, .int y, .int n] ∧ SqL K H a (ns.map V.int) ∧ ns.length ≤ 4000 ∧ 1 ≤ n ∧ n ≤ 24 ∧ NewI H (lset (ns.map fun x => x + y) n) Q
def spBits : Sp := fun vs H Q _ => ∃ c n : Int, vs = [.int c, .int n] ∧ 1 ≤ n ∧ n ≤ 24 ∧ ∀ zs : List Int, zs.Pairwise (· < ·) → (∀ j ∈ zs, 0 ≤ j ∧ j < n) → NewI H zs Q
def spAlone (K : PySem.W.Frag) : Sp := fun vs H Q _ => ∃ (a : Addr) (ns : List Int) (y n : Int), vs = [.ref a, .int y, .int n] ∧ SqL K H a (ns.map V.int) ∧ ns.length ≤ 4000 ∧ 1 ≤ n ∧ n ≤ 24 ∧ ∀ H', Same H H' → Q (.bl (decide (Stay ns n y))) H'
def spStays (K : PySem.W.Frag) : Sp := fun vs H Q _ => ∃ (a : Addr) (ns : List Int) (n : Int), vs = [.ref a, .int n] ∧ SqL K H a (ns.map V.int) ∧ ns.length ≤ 4000 ∧ 1 ≤ n ∧ n ≤ 24 ∧ NewI H (lstays ns n) Q
def spStep (K : PySem.W.Frag) : Sp := fun vs H Q _ => ∃ (a : Addr) (ns : List Int) (n : Int), vs = [.ref a, .int n] ∧ SqL K H a (ns.map V.int) ∧ ns.length ≤ 4000 ∧ 1 ≤ n ∧ n ≤ 24 ∧
  ∀ (M : Int) H', Same H H' → 1 ≤ M → M ≤ n → n % M = 0 → Stay ns n M → (∀ k, 1 ≤ k → k ≤ n → n % k = 0 → Stay ns n k → M ≤ k) → Q (.int M) H'
def spAgain (K : PySem.W.Frag) : Sp := fun vs H Q _ => ∃ (a : Addr) (ns : List Int) (n b : Int), vs = [.ref a, .int n, .int b] ∧ SqL K H a (ns.map V.int) ∧ ns.length ≤ 100 ∧ 1 ≤ n ∧ n ≤ 24 ∧ 1 ≤ b ∧ b ≤ 24 ∧
  ∀ zs : List Int, zs.Pairwise (· < ·) → (∀ j ∈ zs, 0 ≤ j ∧ j < n) → (ns ≠ [] → zs ≠ []) → NewI H zs Q
def spRight (K : PySem.W.Frag) : Sp := fun vs H Q _ => ∃ (a : Addr) (ns : List Int) (n : Int), vs = [.ref a, .int n] ∧ SqL K H a (ns.map V.int) ∧ ns.length ≤ 1000 ∧ 1 ≤ n ∧ n ≤ 24 ∧ ∀ H', Same H H' → Q (.bl true) H'
def spIsRests : Sp := fun vs H Q _ => ∃ (a : Addr) (ns : List Int) (n : Int), vs = [.ref a, .int n] ∧ H a = some (.lst (ns.map V.int)) ∧ ns.Pairwise (· < ·) ∧ (∀ j ∈ ns, 0 ≤ j ∧ j < n) ∧ n ≤ 24 ∧ ∀ H', Same H H' → Q (.bl true) H'
def spDrawn (K : PySem.W.Frag) : Sp := fun vs H Q _ => ∃ (a : Addr) (ns : List Int) (k n : Int), vs = [.ref a, .int k, .int n] ∧ SqL K H a (ns.map V.int) ∧ 0 ≤ k ∧ 1 ≤ n ∧ n ≤ 24 ∧
  ∀ zs : List Int, zs ≠ [] → zs.Pairwise (· < ·) → (∀ j ∈ zs, 0 ≤ j ∧ j < n) → NewI H zs Q
end L3

set_option Elab.async false
set_option linter.all false
set_option maxRecDepth 100000
/-! texts as lists of signs; numbers written and read -/
namespace Sr
open PySem PySem.W
abbrev sg (z : Str) : List Nat := z.cps.toList
abbrev mkS (l : List Nat) : Str := ⟨l.toArray⟩
theorem sg_mk (l : List Nat) : sg (mkS l) = l := by simp [sg, mkS]
theorem sg_inj {a b : Str} (h : sg a = sg b) : a = b := Str.ext' (Array.toList_inj.mp h)
theorem mk_sg (z : Str) : mkS (sg z) = z := sg_inj (sg_mk _)
theorem sg_app (a b : Str) : sg (a ++ b) = sg a ++ sg b := by show (a.cps ++ b.cps).toList = _; simp
theorem sg_len (z : Str) : (sg z).length = z.length := by simp [sg, Str.length]
/-! ### split at a sign -/
def spl (c : Nat) : List Nat → List (List Nat)
  | [] => [[]]
  | x :: r => if x = c then [] :: spl c r else match spl c r with
    | p :: ps => (x :: p) :: ps
    | [] => [[x]]
theorem spl_ne (c : Nat) : ∀ l : List Nat, spl c l ≠ []
  | [] => by simp [spl]
  | x :: r => by
    unfold spl
    split
    · simp
    · split <;> simp
theorem spl_free {c : Nat} : ∀ {p : List Nat}, ¬ c ∈ p → spl c p = [p]
  | [], _ => rfl
  | x :: p, h => by
    have hx : ¬ x = c := fun e => h (by rw [e]; exact List.mem_cons_self)
    unfold spl
    rw [if_neg hx, spl_free fun z => h (List.mem_cons_of_mem _ z)]
theorem spl_app {c : Nat} {r : List Nat} : ∀ {p : List Nat}, ¬ c ∈ p → spl c (p ++ c :: r) = p :: spl c r
  | [], _ => by show spl c (c :: r) = _; rw [spl, if_pos rfl]
  | x :: p, h => by
    have hx : ¬ x = c := fun e => h (by rw [e]; exact List.mem_cons_self)
    show spl c (x :: (p ++ c :: r)) = _
    rw [spl, if_neg hx, spl_app fun z => h (List.mem_cons_of_mem _ z)]
def glue (c : Nat) : List (List Nat) → List Nat
  | [] => []
  | [p] => p
  | p :: q :: r => p ++ c :: glue c (q :: r)
theorem spl_glue {c : Nat} : ∀ {ps : List (List Nat)}, ps ≠ [] → (∀ p ∈ ps, ¬ c ∈ p) → spl c (glue c ps) = ps
  | [], h, _ => absurd rfl h
  | [p], _, h => spl_free (h p List.mem_cons_self)
  | p :: q :: r, _, h => by
    show spl c (p ++ c :: glue c (q :: r)) = _
    rw [spl_app (h p List.mem_cons_self), spl_glue (by simp) fun x hx => h x (List.mem_cons_of_mem _ hx)]
theorem sg_join (c : Nat) : ∀ ps : List Str, sg (Str.join ⟨#[c]⟩ ps) = glue c (ps.map sg)
  | [] => rfl
  | [p] => rfl
  | p :: q :: r => by
    show sg (p ++ ⟨#[c]⟩ ++ Str.join ⟨#[c]⟩ (q :: r)) = _
    rw [sg_app, sg_app, sg_join c (q :: r)]
    show sg p ++ [c] ++ _ = sg p ++ c :: _
    simp
theorem split_eq (z : Str) (c : Nat) : (Txt.split z ⟨#[c]⟩).map sg = spl c (sg z) := by
  have h1 := StrLaws.join_split z ⟨#[c]⟩
  have h2 := StrLaws.split_free z c
  have h3 := PyProof.Rows.split_pos z ⟨#[c]⟩
  have h4 := sg_join c (Txt.split z ⟨#[c]⟩)
  rw [h1] at h4
  rw [h4, spl_glue]
  · intro e
    have := congrArg List.length e
    rw [List.length_map, List.length_nil] at this
    omega
  · intro p hp
    obtain ⟨q, hq, rfl⟩ := List.mem_map.mp hp
    exact h2 q hq
theorem split_map (z : Str) (c : Nat) : Txt.split z ⟨#[c]⟩ = (spl c (sg z)).map mkS := by
  rw [← split_eq, List.map_map]
  have : (mkS ∘ sg) = id := by funext x; exact mk_sg x
  rw [this, List.map_id]
/-! ### numbers written -/
def dec (i : Int) : List Nat := sg (Str.ofString (toString i))
def digs (m : Nat) : List Nat := (Nat.toDigits 10 m).map Char.toNat
theorem dec_nat (m : Nat) : dec (m : Int) = digs m := KIN.signs_num m
theorem dec_neg (m : Nat) (h : 0 < m) : dec (-(m : Int)) = 45 :: digs m := by
  obtain ⟨k, rfl⟩ : ∃ k, m = k + 1 := ⟨m - 1, by omega⟩
  unfold dec sg
  rw [PyProof.Rows.signs_ofString]
  show (("-" ++ Nat.repr (k + 1)).toList).map Char.toNat = _
  rw [String.toList_append, List.map_append, Nat.toList_repr]
  rfl
theorem digs_digits (m : Nat) : NumText.AllDigits (digs m) := by
  intro c hc
  obtain ⟨ch, hch, e⟩ := List.mem_map.mp hc
  have r := PyProof.Rows.digit_range (Nat.isDigit_of_mem_toDigits (by decide) (by decide) hch)
  rw [← e]; exact r
theorem digs_val (m : Nat) : NumText.digitsVal (digs m) = m := KIN.val_back m
theorem digs_ne (m : Nat) : digs m ≠ [] := fun e => by
  have h := toDigits_len_ge 10 m
  rw [List.map_eq_nil_iff.mp e] at h
  exact absurd h (by decide)
theorem digs_small {m : Nat} (h : m < 10) : digs m = [48 + m] := by
  unfold digs
  rw [Nat.toDigits_of_lt_base h]
  have : ∀ k : Nat, k < 10 → (Nat.digitChar k).toNat = 48 + k := by decide
  simp [this m h]
theorem digs_more {m : Nat} (h : 10 ≤ m) : digs m = digs (m / 10) ++ [48 + m % 10] := by
  have hm : m % 10 < 10 := Nat.mod_lt m (by decide)
  have t : Nat.toDigits 10 (m / 10) ++ Nat.toDigits 10 (m % 10) = Nat.toDigits 10 (10 * (m / 10) + m % 10) := Nat.toDigits_append_toDigits (by decide) (by omega) hm
  rw [Nat.div_add_mod] at t
  have e := digs_small hm
  unfold digs at e ⊢
  rw [← t, List.map_append, e]
theorem digs_head : ∀ (m : Nat), 0 < m → ∃ d r, digs m = d :: r ∧ 49 ≤ d := by
  intro m
  induction m using Nat.strongRecOn with
  | _ m ih =>
    intro h
    by_cases hs : m < 10
    · exact ⟨48 + m, [], digs_small hs, by omega⟩
    · obtain ⟨d, r, e, hd⟩ := ih (m / 10) (by omega) (by omega)
      exact ⟨d, r ++ [48 + m % 10], by rw [digs_more (by omega), e]; rfl, hd⟩
theorem val_ge : ∀ (cs : List Nat) (a : Nat), a * 10 ^ cs.length ≤ cs.foldl (fun acc c => acc * 10 + (c - 48)) a
  | [], a => by simp
  | c :: cs, a => by
    have := val_ge cs (a * 10 + (c - 48))
    refine Nat.le_trans ?_ this
    rw [List.length_cons, Nat.pow_succ, Nat.mul_comm (10 ^ cs.length) 10, ← Nat.mul_assoc]
    exact Nat.mul_le_mul_right _ (by omega)
/-- a number that begins with no nought has no more figures than its worth tells -/
theorem val_len {d : Nat} {r : List Nat} (hd : 49 ≤ d) : 10 ^ r.length ≤ NumText.digitsVal (d :: r) := by
  show _ ≤ r.foldl (fun acc c => acc * 10 + (c - 48)) (0 * 10 + (d - 48))
  refine Nat.le_trans ?_ (val_ge r _)
  have : 1 ≤ 0 * 10 + (d - 48) := by omega
  calc 10 ^ r.length = 1 * 10 ^ r.length := by omega
    _ ≤ (0 * 10 + (d - 48)) * 10 ^ r.length := Nat.mul_le_mul_right _ this
theorem digs_len {m : Nat} (h : m ≤ 10 ^ 12) : (digs m).length ≤ 13 := by
  by_cases h0 : m = 0
  · subst h0; rw [digs_small (by decide)]; decide
  · obtain ⟨d, r, e, hd⟩ := digs_head m (by omega)
    have h1 := val_len (r := r) hd
    rw [← e, digs_val] at h1
    rw [e, List.length_cons]
    have : r.length ≤ 12 := by
      apply Decidable.byContradiction
      intro c
      have : 10 ^ 13 ≤ 10 ^ r.length := Nat.pow_le_pow_right (by decide) (by omega)
      omega
    omega
/-! ### numbers read -/
def figs (w : List Nat) : List Nat := if w.head? = some 45 then w.tail else w
instance (cs : List Nat) : Decidable (NumText.AllDigits cs) := by unfold NumText.AllDigits; infer_instance
/-- what a word writes -/
def rdNum (w : List Nat) : Option Int :=
  if figs w = [] ∨ ¬ NumText.AllDigits (figs w) then none
  else if (figs w).head? = some 48 ∧ w ≠ [48] then none
  else if 13 < (figs w).length ∨ 10 ^ 12 < NumText.digitsVal (figs w) then none
  else some (if w.head? = some 45 then -(NumText.digitsVal (figs w) : Int) else (NumText.digitsVal (figs w) : Int))
theorem rd_digs {m : Nat} (h : m ≤ 10 ^ 12) : rdNum (digs m) = some (m : Int) := by
  have hd := digs_digits m
  have hh : (digs m).head? ≠ some 45 := fun e => by
    have := hd 45 (List.mem_of_head? e)
    omega
  have hf : figs (digs m) = digs m := if_neg hh
  unfold rdNum
  rw [hf, if_neg (by rintro (z | z); exact digs_ne m z; exact z hd), if_neg, if_neg, if_neg hh, digs_val]
  · rintro (z | z)
    · have := digs_len h; omega
    · rw [digs_val] at z; omega
  · rintro ⟨z1, z2⟩
    by_cases h0 : m = 0
    · subst h0; exact z2 (digs_small (by decide))
    · obtain ⟨d, r, e, hd⟩ := digs_head m (by omega)
      rw [e] at z1
      have : d = 48 := by simpa using z1
      omega
theorem rd_neg {m : Nat} (h0 : 0 < m) (h : m ≤ 10 ^ 12) : rdNum (45 :: digs m) = some (-(m : Int)) := by
  have hd := digs_digits m
  have hf : figs (45 :: digs m) = digs m := if_pos rfl
  unfold rdNum
  rw [hf, if_neg (by rintro (z | z); exact digs_ne m z; exact z hd), if_neg, if_neg, if_pos (show (45 :: digs m).head? = some 45 from rfl), digs_val]
  · rintro (z | z)
    · have := digs_len h; omega
    · rw [digs_val] at z; omega
  · rintro ⟨z1, z2⟩
    obtain ⟨d, r, e, hd⟩ := digs_head m h0
    rw [e] at z1
    have : d = 48 := by simpa using z1
    omega
theorem rd_dec {i : Int} (h1 : -(10 ^ 12) ≤ i) (h2 : i ≤ 10 ^ 12) : rdNum (dec i) = some i := by
  by_cases h : 0 ≤ i
  · obtain ⟨m, rfl⟩ := Int.eq_ofNat_of_zero_le h
    rw [dec_nat, rd_digs (by omega)]
  · obtain ⟨m, rfl⟩ : ∃ m : Nat, i = -(m : Int) := ⟨i.natAbs, by omega⟩
    rw [dec_neg m (by omega), rd_neg (by omega) (by omega)]
theorem dec_signs (i : Int) : ∀ c ∈ dec i, c = 45 ∨ (48 ≤ c ∧ c ≤ 57) := by
  intro c hc
  by_cases h : 0 ≤ i
  · obtain ⟨m, rfl⟩ := Int.eq_ofNat_of_zero_le h
    rw [dec_nat] at hc
    exact .inr (digs_digits m c hc)
  · obtain ⟨m, rfl⟩ : ∃ m : Nat, i = -(m : Int) := ⟨i.natAbs, by omega⟩
    rw [dec_neg m (by omega)] at hc
    rcases List.mem_cons.mp hc with z | z
    · exact .inl z
    · exact .inr (digs_digits m c z)
theorem dec_len {i : Int} (h1 : -(10 ^ 12) ≤ i) (h2 : i ≤ 10 ^ 12) : (dec i).length ≤ 14 := by
  by_cases h : 0 ≤ i
  · obtain ⟨m, rfl⟩ := Int.eq_ofNat_of_zero_le h
    rw [dec_nat]; have := digs_len (m := m) (by omega); omega
  · obtain ⟨m, rfl⟩ : ∃ m : Nat, i = -(m : Int) := ⟨i.natAbs, by omega⟩
    rw [dec_neg m (by omega), List.length_cons]; have := digs_len (m := m) (by omega); omega
/-- what a text writes: the numbers and the round -/
def rdNums : List (List Nat) → Option (List Int)
  | [] => some []
  | w :: ws => match rdNum w, rdNums ws with
    | some i, some r => some (i :: r)
    | _, _ => none
def rd (z : List Nat) : Option (List Int × Int) := match spl 58 z with
  | [a, b] => match rdNum a with
    | some n => if 1 ≤ n ∧ n ≤ 24 then (match spl 32 b with
      | w :: ws => if w = [] ∧ ws.length ≤ 60 then (rdNums ws).map fun ns => (ns, n) else none
      | [] => none) else none
    | none => none
  | _ => none
/-- a round and numbers, written -/
def tail (ns : List Int) : List Nat := ns.flatMap fun x => 32 :: dec x
def tx (n : Int) (ns : List Int) : List Nat := dec n ++ 58 :: tail ns
theorem no_dec {c : Nat} {i : Int} (h : ¬ (c = 45 ∨ (48 ≤ c ∧ c ≤ 57))) : ¬ c ∈ dec i := fun z => h (dec_signs i c z)
theorem no_tail {c : Nat} (h : ¬ (c = 45 ∨ (48 ≤ c ∧ c ≤ 57))) (h2 : c ≠ 32) : ∀ ns : List Int, ¬ c ∈ tail ns
  | [] => by simp [tail]
  | x :: ns => by
    show ¬ c ∈ (32 :: dec x) ++ tail ns
    rw [List.mem_append, List.mem_cons]
    rintro ((z | z) | z)
    · exact h2 z
    · exact no_dec h z
    · exact no_tail h h2 ns z
theorem spl_tail : ∀ ns : List Int, spl 32 (tail ns) = [] :: ns.map dec
  | [] => rfl
  | x :: ns => by
    show spl 32 ([] ++ 32 :: (dec x ++ tail ns)) = _
    rw [spl_app (by simp)]
    have key : spl 32 (dec x ++ tail ns) = dec x :: ns.map dec := by
      cases ns with
      | nil => show spl 32 (dec x ++ []) = _; rw [List.append_nil]; exact spl_free (no_dec (by decide))
      | cons y ns =>
        show spl 32 (dec x ++ 32 :: (dec y ++ tail ns)) = _
        rw [spl_app (no_dec (by decide))]
        have := spl_tail (y :: ns)
        have e : spl 32 (tail (y :: ns)) = [] :: spl 32 (dec y ++ tail ns) := by
          show spl 32 ([] ++ 32 :: (dec y ++ tail ns)) = _
          rw [spl_app (by simp)]
        rw [e] at this
        have := (List.cons.inj this).2
        rw [this]
    rw [key]; rfl
theorem rdNums_dec : ∀ {ns : List Int}, (∀ i ∈ ns, -(10 ^ 12) ≤ i ∧ i ≤ (10 ^ 12 : Int)) → rdNums (ns.map dec) = some ns
  | [], _ => rfl
  | x :: ns, h => by
    have hx := h x List.mem_cons_self
    show (match rdNum (dec x), rdNums (ns.map dec) with | some i, some r => some (i :: r) | _, _ => none) = _
    rw [rd_dec hx.1 hx.2, rdNums_dec fun i hi => h i (List.mem_cons_of_mem _ hi)]
theorem rd_tx {n : Int} {ns : List Int} (n1 : 1 ≤ n) (n2 : n ≤ 24) (hl : ns.length ≤ 60) (h : ∀ i ∈ ns, -(10 ^ 12) ≤ i ∧ i ≤ (10 ^ 12 : Int)) : rd (tx n ns) = some (ns, n) := by
  unfold rd tx
  rw [spl_app (no_dec (by decide)), spl_free (no_tail (by decide) (by decide) ns)]
  show (match rdNum (dec n) with | some n => if 1 ≤ n ∧ n ≤ 24 then (match spl 32 (tail ns) with | w :: ws => if w = [] ∧ ws.length ≤ 60 then (rdNums ws).map fun ns => (ns, n) else none | [] => none) else none | none => none) = _
  rw [rd_dec (by omega) (by omega)]
  show (if 1 ≤ n ∧ n ≤ 24 then (match spl 32 (tail ns) with | w :: ws => if w = [] ∧ ws.length ≤ 60 then (rdNums ws).map fun ns => (ns, n) else none | [] => none) else none) = _
  rw [if_pos ⟨n1, n2⟩, spl_tail]
  show (if ([] : List Nat) = [] ∧ (ns.map dec).length ≤ 60 then (rdNums (ns.map dec)).map fun ns => (ns, n) else none) = _
  rw [if_pos ⟨rfl, by rw [List.length_map]; exact hl⟩, rdNums_dec h]
  rfl
theorem tail_len : ∀ {ns : List Int}, (∀ i ∈ ns, -(10 ^ 12) ≤ i ∧ i ≤ (10 ^ 12 : Int)) → (tail ns).length ≤ 15 * ns.length
  | [], _ => by simp [tail]
  | x :: ns, h => by
    have hx := h x List.mem_cons_self
    have h1 := dec_len hx.1 hx.2
    have h2 := tail_len fun i hi => h i (List.mem_cons_of_mem _ hi)
    show ((32 :: dec x) ++ tail ns).length ≤ _
    rw [List.length_append, List.length_cons, List.length_cons]
    omega
end Sr

set_option Elab.async false
set_option linter.all false
set_option maxRecDepth 100000
set_option maxHeartbeats 4000000
/-! what the defs of texts promise -/
namespace L3
open PySem PySem.Spec PyProof.Rows L2 Sr
def Bd (i : Int) : Prop := -(10 ^ 12) ≤ i ∧ i ≤ (10 ^ 12 : Int)
theorem log_small {i : Int} (h : Bd i) : i.natAbs.log2 < 1920 := by
  have h1 : i.natAbs ≤ 10 ^ 12 := by have := h.1; have := h.2; omega
  by_cases h0 : i.natAbs = 0
  · rw [h0]; decide
  · have : i.natAbs.log2 < 41 := (Nat.log2_lt h0).mpr (by omega)
    omega
theorem starts_one (z : Str) (c : Nat) : Txt.startswith z ⟨#[c]⟩ = decide ((sg z).head? = some c) := by
  have h := StrLaws.subAt_one z c 0
  unfold Txt.startswith
  rw [Bool.eq_iff_iff]
  simp only [Bool.and_eq_true, decide_eq_true_eq]
  rw [h]
  show (sg z)[0]? = some c ↔ _
  rw [List.head?_eq_getElem?]
/-- word[1:] if word.startswith("-") else word -/
def tFigs (i : Nat) : TE := fun σ H Q => ∃ w : Str, σ[i]? = some (some (.str w)) ∧ w.length ≤ 4000 ∧ Q (.str (mkS (figs (sg w)))) H
theorem pe_figs {X : Cx} {K : PySem.W.Frag} {e : Expr} {i : Nat} (h : PE X e (tIf (tB (tBM K "str" rStarts (tVar i) (tCons (tC (.str "-")) tNil))) (tSl rSlS (tVar i) (tPart (tC (.int 1))) tNoPart) (tVar i))) : PE X e (tFigs i) := by
  intro pins s σ H Q I hq
  obtain ⟨w, hw, hl, q⟩ := hq
  refine h pins s σ H Q I ⟨_, hw, rfl, w, _, rfl, rfl, _, rfl, ?_⟩
  have e1 : Txt.startswith w "-" = decide ((sg w).head? = some 45) := starts_one w 45
  rw [e1]
  by_cases c : (sg w).head? = some 45
  · rw [decide_eq_true c]
    refine iteT ⟨_, hw, 1, rfl, w, rfl, hl, ?_⟩
    have hne : 1 ≤ (sg w).length := by
      cases hh : sg w with
      | nil => rw [hh] at c; cases c
      | cons a r => simp
    have e2 : StrLaws.sliceText w (some 1) none = mkS (figs (sg w)) := by
      rw [StrLaws.sliceText_from (x := w) (i := 1) ⟨by decide, by show (1 : Int) ≤ ((sg w).length : Int); omega⟩]
      have e3 : figs (sg w) = (sg w).tail := if_pos c
      rw [e3, ← List.drop_one]
      show mkS (List.take ((((sg w).length : Int) - 1).toNat) (List.drop 1 (sg w))) = mkS (List.drop 1 (sg w))
      rw [List.take_of_length_le (by rw [List.length_drop]; omega)]
    rw [e2]; exact q
  · rw [decide_eq_false c]
    refine iteF ⟨_, hw, ?_⟩
    have e2 : mkS (figs (sg w)) = w := (congrArg mkS (if_neg c)).trans (mk_sg w)
    rw [e2] at q; exact q
theorem in_figures (c : Nat) : (!(Builtin.Str.occurrences ("0123456789" : Str) ⟨#[c]⟩ 0 ("0123456789" : Str).length 1).isEmpty) = decide (48 ≤ c ∧ c ≤ 57) := by
  rw [StrLaws.found_one]
  have e : ("0123456789" : Str).cps.toList = [48, 49, 50, 51, 52, 53, 54, 55, 56, 57] := by decide +kernel
  rw [e, decide_eq_decide]
  simp only [List.mem_cons, List.not_mem_nil, or_false]
  omega
/-- over a text's signs -/
theorem turns_str {ix : List Nat} {tt : TT} {te : TE} {σ : L2.St} {z : Str} {H : Hp} {Q : List V → Hp → Prop} (f : Nat → V) (hz : z.length ≤ 4000)
    (ht : ∀ c H' R, c ∈ sg z → Same H H' → (∀ H'', Same H H'' → R true H'') → tt (bSt ix σ (some (.str ⟨#[c]⟩))) H' R)
    (he : ∀ c H' R, c ∈ sg z → Same H H' → (∀ H'', Same H H'' → R (f c) H'') → te (bSt ix σ (some (.str ⟨#[c]⟩))) H' R)
    (hQ : ∀ H', Same H H' → Q ((sg z).map f) H') : tTurns ix tt te σ (Its z) H Q := by
  have hsz : z.cps.size = (sg z).length := by simp [sg]
  have hl := sg_len z
  refine ⟨fun i m ys H' => m = (sg z).length - i ∧ i ≤ (sg z).length ∧ Same H H' ∧ ys = ((sg z).take i).map f, ⟨(sg z).length, by simp, Nat.zero_le _, Same.refl H, by simp⟩, ?_⟩
  rintro i m ys H' ⟨rfl, hi, hS, rfl⟩
  by_cases hlt : i < (sg z).length
  · refine .inr ⟨by show i < z.cps.size; omega, fun x H1 y => ?_⟩
    obtain ⟨e, c, hc, rfl⟩ := y
    subst e
    have hc' : (sg z)[i]? = some c := by simpa [sg] using hc
    have mem := List.mem_of_getElem? hc'
    refine ht c _ _ mem hS fun H2 hS2 => ?_
    rw [if_pos rfl]
    refine he c _ _ mem hS2 fun H3 hS3 => ⟨?_, (sg z).length - (i + 1), by omega, rfl, hlt, hS3, ?_⟩
    · rw [List.length_map, List.length_take]
      exact Nat.lt_of_le_of_lt (Nat.min_le_left _ _) (Nat.lt_of_lt_of_le hlt (small4 (by omega)))
    · rw [List.take_add_one, hc', List.map_append]; rfl
  · have e : i = (sg z).length := by omega
    subst e
    refine .inl ⟨hsz, ?_, ?_⟩
    · rw [List.length_map, List.length_take, Nat.min_self]; exact small4 (by omega)
    · rw [List.take_length]; exact hQ _ hS
/-- int(word) -/
theorem int_of {w : Str} {i : Int} (h : rdNum (sg w) = some i) (hl : w.length ≤ 640) : PySem.intText? w = some i ∧ PySem.intText? (mkS (figs (sg w))) = some (NumText.digitsVal (figs (sg w)) : Int) ∧ NumText.AllDigits (figs (sg w)) ∧ figs (sg w) ≠ [] ∧ (figs (sg w)).length ≤ 13 ∧ NumText.digitsVal (figs (sg w)) ≤ 10 ^ 12 ∧ ((figs (sg w)).head? = some 48 → sg w = [48]) := by
  unfold rdNum at h
  by_cases c1 : figs (sg w) = [] ∨ ¬ NumText.AllDigits (figs (sg w))
  · rw [if_pos c1] at h; cases h
  rw [if_neg c1] at h
  by_cases c2 : (figs (sg w)).head? = some 48 ∧ sg w ≠ [48]
  · rw [if_pos c2] at h; cases h
  rw [if_neg c2] at h
  by_cases c3 : 13 < (figs (sg w)).length ∨ 10 ^ 12 < NumText.digitsVal (figs (sg w))
  · rw [if_pos c3] at h; cases h
  rw [if_neg c3] at h
  have h := Option.some.inj h
  have a1 : figs (sg w) ≠ [] := fun z => c1 (.inl z)
  have a2 : NumText.AllDigits (figs (sg w)) := Decidable.byContradiction fun z => c1 (.inr z)
  have a3 : (figs (sg w)).length ≤ 13 := Decidable.byContradiction fun z => c3 (.inl (by omega))
  have a4 : NumText.digitsVal (figs (sg w)) ≤ 10 ^ 12 := Decidable.byContradiction fun z => c3 (.inr (by omega))
  have lw : w.length ≤ 4300 := by omega
  refine ⟨?_, ?_, a2, a1, a3, a4, fun z => Decidable.byContradiction fun z2 => c2 ⟨z, z2⟩⟩
  · by_cases c : (sg w).head? = some 45
    · rw [if_pos c] at h
      obtain ⟨r, hr⟩ : ∃ r, sg w = 45 :: r := by
        cases hh : sg w with
        | nil => rw [hh] at c; cases c
        | cons a r => rw [hh] at c; cases c; exact ⟨r, rfl⟩
      have hf : figs (sg w) = r := by unfold figs; rw [if_pos c, hr]; rfl
      rw [hf] at h a1 a2
      rw [← h]
      exact intText_neg hr a2 a1 lw
    · rw [if_neg c] at h
      have hf : figs (sg w) = sg w := if_neg c
      rw [hf] at h a1 a2
      rw [← h]
      exact intText_digits a2 a1 lw
  · have e : (mkS (figs (sg w))).cps.toList = figs (sg w) := sg_mk _
    have := intText_digits (x := mkS (figs (sg w))) (by rw [e]; exact a2) (by rw [e]; exact a1) (by have := sg_len (mkS (figs (sg w))); rw [sg_mk] at this; omega)
    rw [e] at this; exact this
theorem sg_cat0 : ∀ ps : List Str, sg (Str.join Str.empty ps) = (ps.map sg).flatten
  | [] => rfl
  | [p] => by show sg p = sg p ++ []; simp
  | p :: q :: r => by
    show sg (p ++ Str.empty ++ Str.join Str.empty (q :: r)) = _
    rw [sg_app, sg_app, sg_cat0 (q :: r)]
    show sg p ++ [] ++ _ = sg p ++ _
    simp
def spNumByB : Sp := fun vs H Q _ => ∃ c y : Int, vs = [.int c, .int y] ∧ ∀ (v : Int) H', Bd v → Same H H' → Q (.int v) H'
def spNumbersB (K : PySem.W.Frag) : Sp := fun vs H Q _ => ∃ (a : Addr) (ns : List Int) (first count way : Int), vs = [.ref a, .int first, .int count, .int way] ∧ SqL K H a (ns.map V.int) ∧ 0 ≤ first ∧ 0 ≤ count ∧ count ≤ 1000 ∧ ∀ zs : List Int, zs.length = count.toNat → (∀ i ∈ zs, Bd i) → NewI H zs Q
def spText (K : PySem.W.Frag) : Sp := fun vs H Q _ => ∃ (a : Addr) (ns : List Int) (n : Int), vs = [.ref a, .int n] ∧ SqL K H a (ns.map V.int) ∧ ns.length ≤ 60 ∧ 1 ≤ n ∧ n ≤ 24 ∧ (∀ i ∈ ns, Bd i) ∧ ∀ H', Same H H' → Q (.str (mkS (tx n ns))) H'
def spReadNum : Sp := fun vs H Q _ => ∃ (w : Str) (i : Int), vs = [.str w] ∧ w.length ≤ 640 ∧ rdNum (sg w) = some i ∧ ∀ H', Same H H' → Q (.int i) H'
def spReadRound : Sp := fun vs H Q _ => ∃ (w : Str) (i : Int), vs = [.str w] ∧ w.length ≤ 640 ∧ rdNum (sg w) = some i ∧ 1 ≤ i ∧ i ≤ 24 ∧ ∀ H', Same H H' → Q (.int i) H'
def spReadNums : Sp := fun vs H Q _ => ∃ (z : Str) (ws : List (List Nat)) (ns : List Int), vs = [.str z] ∧ z.length ≤ 4000 ∧ spl 32 (sg z) = [] :: ws ∧ ws.length ≤ 60 ∧ (∀ w ∈ ws, w.length ≤ 640) ∧ rdNums ws = some ns ∧ NewI H ns Q
def spRead : Sp := fun vs H Q _ => ∃ (z : Str) (ns : List Int) (n : Int), vs = [.str z] ∧ z.length ≤ 4000 ∧ rd (sg z) = some (ns, n) ∧ ∀ (t l : Addr) H', Same H H' → H' l = some (.lst (ns.map V.int)) → H' t = some (.tup [.ref l, .int n]) → Q (.ref t) H'
def spIsTold (K : PySem.W.Frag) : Sp := fun vs H Q _ => ∃ (t l a : Addr) (ns : List Int) (n : Int), vs = [.ref t, .ref a, .int n] ∧ H t = some (.tup [.ref l, .int n]) ∧ H l = some (.lst (ns.map V.int)) ∧ SqL K H a (ns.map V.int) ∧ Q (.bl true) H
end L3

set_option Elab.async false
set_option linter.all false
set_option maxRecDepth 100000
set_option maxHeartbeats 4000000
/-! exceptions of the module's own classes: raised, passed on, caught -/
namespace L3
open PySem PySem.Spec PyProof.Rows L2
/-- a tracked thing lies in the heap -/
theorem obj_there {P : Program} {w : World} {H : Hp} {h : Heap} {a : Addr} {o : HO} (x : ObjOk P w H h a o) : ∃ u, h.get? a = some u := by
  cases o with
  | lst xs => exact ⟨_, x.2.choose_spec.choose_spec.2⟩
  | tup xs => obtain ⟨_, _, _, ob, q, _⟩ := x; exact ⟨ob, q⟩
  | dK kvs => obtain ⟨_, _, _, _, ob, _, _, q, _⟩ := x; exact ⟨ob, q⟩
  | dT kvs => obtain ⟨_, _, _, _, ob, _, _, q, _⟩ := x; exact ⟨ob, q⟩
  | set S n => obtain ⟨ob, _, _, _, q, _⟩ := x; exact ⟨ob, q⟩
  | ins C dx fs => obtain ⟨_, _, _, q, _⟩ := x; exact ⟨_, q⟩
  | own y => exact x
  | xd fs => obtain ⟨_, ⟨ob, _, _, q, _⟩, _⟩ := x; exact ⟨ob, q⟩
  | rng lo hi => obtain ⟨_, _, _, q⟩ := x; exact ⟨_, q⟩
  | frz ob u => exact ⟨ob, x.1⟩
  | tbl ps => exact ⟨_, show h.get? a = some _ from x⟩
  | met f y => exact ⟨_, show h.get? a = some _ from x⟩
  | ext φ => exact x.2.1
theorem hok_none {P : Program} {w : World} {H : Hp} {h : Heap} {a : Addr} (x : HOk P w H h) (e : h.get? a = none) : H a = none := by
  cases q : H a with
  | none => rfl
  | some u => obtain ⟨ob, z⟩ := obj_there (x a u q); rw [e] at z; cases z
/-- an exception of an own class flies: what is no frame lies in a heap B below it -/
def CXe (P : Program) (w : World) : CXT := fun outer H s E e s' => ∃ (ea C : Addr) (a0 : Value) (B : Heap) (H' : Hp), e = .ref ea ∧ s'.os = s.os ∧ AllBare s'.gens ∧ Heap.FlyingW B outer ea (.ref C) a0 s'.heap ∧
  Un (frs outer) [] H H' s.heap s'.heap ∧ HOk P w H' B ∧ (∀ b o o', s.heap.get? b = some o → b ∉ frs outer → s'.heap.get? b = some o' → B.get? b = some o') ∧ E (.ref C) none H'
section
variable {P : Program} {w : World} {K : PySem.W.Frag} {mg : Str → Option Value} {base : Heap} {N : List Str} {qual : Str} {scope : Scope} {f : Addr} {cd : Value} {A : Around} {outer : List Env} {s₀ : Shared} {H₀ : Hp} {E : XK}
theorem frame_data {X : Cx} {pins : List (Addr × Obj)} {σ : L2.St} {H : Hp} {s : Shared} (I : L2.Inv X pins σ H s) {b : Addr} (hb : b ∈ frs X.stack) : ∃ o, s.heap.get? b = some o ∧ ∀ vs, o.data ≠ .fields vs := by
  obtain ⟨_, o, ho, hd⟩ := I.stack.mem hb
  exact ⟨o, ho, hd⟩
theorem stk_tail {e : Env} {l : List Env} {b : Addr} (h : b ∈ frs l) : b ∈ frs (e :: l) := by
  unfold frs at h ⊢
  rw [List.filterMap_cons]
  split
  · exact h
  · exact List.mem_cons_of_mem _ h
theorem pass_exc : Passes (CXe P w) (cxOf (CXe P w) P w K mg base N qual scope f cd A outer s₀ H₀ E) E := by
  intro pins σ H s e s' I h
  obtain ⟨ea, C, a0, B, H', rfl, ho, hb, hfl, u, hk, hc, q⟩ := h
  have hs : ∀ b o, s₀.heap.get? b = some o → b ∉ frs outer → b ∉ frs (cxOf (CXe P w) P w K mg base N qual scope f cd A outer s₀ H₀ E).stack := fun b o e n z => by
    rcases List.mem_cons.mp (I.stkSub b z) with y | y
    · subst y
      exact absurd (Nat.lt_of_lt_of_le (Heap.lt_size e) I.ok.above) (Nat.lt_irrefl _)
    · exact n y
  have ndt : ∀ b ∈ frs outer, ∀ o, s'.heap.get? b = some o → ∀ vs, o.data ≠ .fields vs := fun b hb' o ho' vs => by
    obtain ⟨_, o', e', d⟩ := hfl.2.2.1.mem (stk_tail hb')
    rw [ho'] at e'; cases e'; exact d vs
  refine wpAny_leaves_onW (base := B) (outer := outer) I.ok.frames rfl hfl fun h' h1 h2 => ?_
  have kB : ∀ b o o', s₀.heap.get? b = some o → b ∉ frs outer → s'.heap.get? b = some o' → B.get? b = some o' := fun b o o' e n e' => by
    obtain ⟨o1, e1⟩ := I.base.there b o e (by intro z; cases z)
    exact hc b o1 o' e1 (hs b o e n) e'
  refine ⟨ea, C, a0, B, H', rfl, ho.trans I.os, hb, h1, ?_, hk, fun b o o' e n e' => ?_, q⟩
  · have both : ∀ b o, s₀.heap.get? b = some o → ∃ o', s'.heap.get? b = some o' := fun b o e => by
      obtain ⟨o1, e1⟩ := I.base.there b o e (by intro z; cases z)
      exact u.there b o1 e1 (by intro z; cases z)
    refine ⟨fun b o e n hb' _ => ?_, fun b o e n hb' _ => ?_, fun b o e n _ => ?_, fun b o e _ => ?_, fun b xs e => u.tups b xs (I.base.tups b xs e), fun b o v e => u.frzs b o v (I.base.frzs b o v e), fun b ps e => ?_⟩
    · have e1 := I.base.keep b o e n hb' (by intro z; cases z)
      have e2 := u.keep b o e1 (I.base.free b o e n (by intro z; cases z)) (hs b o e hb') (by intro z; cases z)
      exact h1.1 b o (kB b o o e hb' e2)
    · obtain ⟨sl, e1⟩ := I.base.slot b o e n hb' (by intro z; cases z)
      obtain ⟨sl2, e2⟩ := u.any e1 (I.base.free b o e n (by intro z; cases z)) (by intro z; cases z)
      obtain ⟨sl3, e3⟩ := h2 b _ e2 (ndt b hb' _ e2)
      exact ⟨sl3, e3⟩
    · obtain ⟨o1, e1⟩ := I.base.there b o e (by intro z; cases z)
      exact u.free b o1 e1 (I.base.free b o e n (by intro z; cases z)) (by intro z; cases z)
    · obtain ⟨o', e'⟩ := both b o e
      by_cases hb' : b ∈ frs outer
      · obtain ⟨sl, e3⟩ := h2 b o' e' (ndt b hb' _ e')
        exact ⟨_, e3⟩
      · exact ⟨o', h1.1 b o' (kB b o o' e hb' e')⟩
    · obtain ⟨m1, e1⟩ := I.base.tbls b ps e
      obtain ⟨m2, e2⟩ := u.tbls b _ e1
      exact ⟨m1 ++ m2, by rw [e2, Array.append_assoc]⟩
  · obtain ⟨o1, e1⟩ := I.base.there b o e (by intro z; cases z)
    obtain ⟨o2, e2⟩ := u.there b o1 e1 (by intro z; cases z)
    have e3 := kB b o o2 e n e2
    have e4 := h1.1 b o2 e3
    rw [e'] at e4; cases e4; exact e3
end
/-- the class C is an own exception class -/
theorem own_cls {K : PySem.W.Frag} {h₀ : Heap} {mg : Str → Option Value} {x : Str} {C : Addr} {bmB : List Value} {newId : String} (X : K.In h₀) (e : mg x = some (.ref C)) (q : PySem.W.excIn K C bmB newId = true) : OwnCls x C bmB newId mg h₀ := by
  refine ⟨e, ?_⟩
  unfold PySem.W.excIn at q
  split at q
  · rename_i dd cd sl ho
    split at q
    · rename_i C1 bm k0 k1 k2 k3 n k5 hm hs
      simp only [beq_iff_eq, Bool.and_eq_true, Bool.not_eq_true'] at q
      obtain ⟨⟨⟨⟨⟨z1, z2⟩, z3⟩, z4⟩, z5⟩, z6⟩ := q
      subst z1 z2
      cases cd with
      | mk nm bs mro ns qn hd sn sub ab col del =>
        dsimp only at hm z3 z5 z6
        subst hm z3
        have esl : sl = #[k0, k1, k2, k3, some (.builtin n), k5] := by
          cases sl with
          | mk l => exact congrArg Array.mk hs
        subst esl
        exact ⟨bm, ns, nm, qn, bs, hd, sn, sub, ab, col, dd, k0, k1, k2, k3, k5, _, X _ _ ho, .of_isNs (PySem.W.isNs_of_in X z5), PySem.W.nsMap_none_of_in X z5 z6, PySem.W.tail_of_in X z4⟩
    · cases q
  · cases q
/-- where an exception starts: the frames hidden -/
def low (h : Heap) (l : List Env) : Heap := PySem.W.hideAll h (frs l)
section
variable {P : Program} {w : World} {K : PySem.W.Frag} {mg : Str → Option Value} {base : Heap} {N : List Str} {qual : Str} {scope : Scope} {f : Addr} {cd : Value} {A : Around} {outer : List Env} {s₀ : Shared} {H₀ : Hp} {E : XK}
def tRaise (C : Addr) (E : XK) (t : TA) : TS := fun _ σ H => t σ H fun vs H1 => vs.length ≤ sizeLine ∧ E (.ref C) none H1
/-- raise C(e, ..), C an own exception class under ValueError -/
theorem ps_raise {x : Str} {C : Addr} {e : Expr} {es : List Expr} {t : TA} {np cpos pos : Pos} (hcl : (cellsFrom (s₀.heap.objs.size + 1) scope.names []) = []) (hm : mg x = some (.ref C))
    (hx : PySem.W.excIn K C [.type "ValueError", .type "Exception", .type "BaseException", .type "object"] "ValueError.__new__" = true)
    (hg : Gl (cxOf (CXe P w) P w K mg base N qual scope f cd A outer s₀ H₀ E) x) (ha : PA (cxOf (CXe P w) P w K mg base N qual scope f cd A outer s₀ H₀ E) (e :: es) t)
    (hd : (x == ("__debug__" : Str)) = false := by decide)
    (he : starEach (e :: es) (cxOf (CXe P w) P w K mg base N qual scope f cd A outer s₀ H₀ E).env = (false, eval e (cxOf (CXe P w) P w K mg base N qual scope f cd A outer s₀ H₀ E).env) :: starEach es (cxOf (CXe P w) P w K mg base N qual scope f cd A outer s₀ H₀ E).env := by rfl)
    (hpl : (backTo cpos (starEach es (cxOf (CXe P w) P w K mg base N qual scope f cd A outer s₀ H₀ E).env)).any (·.1) = false := by rfl) :
    PS (cxOf (CXe P w) P w K mg base N qual scope f cd A outer s₀ H₀ E) (.Raise (some (.Call (.Name x np) (e :: es) [] cpos)) none pos) (tRaise C E t) := by
  intro pins s σ H D I h
  obtain ⟨m, F⟩ := I.fr
  have hev : (cxOf (CXe P w) P w K mg base N qual scope f cd A outer s₀ H₀ E).env = envOf qual scope s₀.heap.objs.size f cd := by
    show envOfC qual scope s₀.heap.objs.size f cd = _
    unfold envOfC envOf; rw [hcl]
  have R := Raise_own2 (prog := P) (w := w) (A := (cxOf (CXe P w) P w K mg base N qual scope f cd A outer s₀ H₀ E).A) (E := (cxOf (CXe P w) P w K mg base N qual scope f cd A outer s₀ H₀ E).xe) (s := s) (name := qual) (scope := scope) (L := s₀.heap.objs.size) (a := f) (cd := cd)
    (h₀ := base) (m := m) (mg := mg) (x := x) (C := C) (e₀ := e) (rest := es) (np := np) (cpos := cpos) (pos := pos) (Q := SP (cxOf (CXe P w) P w K mg base N qual scope f cd A outer s₀ H₀ E) pins D)
    F I.mod.glob (own_cls I.ok.mod.kin hm hx) PySem.F.excBase_ValueError (by decide +kernel) PySem.F.excBase_ValueError (I.ok.hd rfl) ?_ (by rw [← hev]; exact he) (by rw [← hev]; exact hpl) I.ok.kind (by rw [← hev]; exact hg) hd
  · rw [← hev] at R; exact R
  rw [← hev]
  refine thn (ha cpos pins s σ H _ I h) fun vs s2 ⟨xs, H2, I2, r, z, q⟩ => ⟨by rw [← r.length]; exact z, I2.bk, fun h' ea M => ?_⟩
  have hB : ∀ b o, (low s2.heap (cxOf (CXe P w) P w K mg base N qual scope f cd A outer s₀ H₀ E).stack).get? b = some o → s2.heap.get? b = some o := fun b o y => PySem.W.of_hideAll _ y
  have tB : ∀ b o, s2.heap.get? b = some o → b ∉ frs (cxOf (CXe P w) P w K mg base N qual scope f cd A outer s₀ H₀ E).stack → (low s2.heap (cxOf (CXe P w) P w K mg base N qual scope f cd A outer s₀ H₀ E).stack).get? b = some o := fun b o y n => PySem.W.hideAll_get _ y n
  have ff := PySem.W.funFrames_hide (as := frs (cxOf (CXe P w) P w K mg base N qual scope f cd A outer s₀ H₀ E).stack) I2.stack fun env he a hf => List.mem_filterMap.mpr ⟨env, he, hf⟩
  have hs : ∀ b o, s₀.heap.get? b = some o → b ∉ frs outer → b ∉ frs (cxOf (CXe P w) P w K mg base N qual scope f cd A outer s₀ H₀ E).stack := fun b o e n z => by
    rcases List.mem_cons.mp (I.stkSub b z) with y | y
    · subst y
      exact absurd (Nat.lt_of_lt_of_le (Heap.lt_size e) I.ok.above) (Nat.lt_irrefl _)
    · exact n y
  refine wpAny_leaves_madeW (s := { s2 with heap := h' }) (base := low s2.heap (cxOf (CXe P w) P w K mg base N qual scope f cd A outer s₀ H₀ E).stack) I2.ok.frames rfl hB ff M fun h3 t f1 f2 f3 f4 => ?_
  have ndt : ∀ b ∈ frs outer, ∀ o, s2.heap.get? b = some o → ∀ vs, o.data ≠ .fields vs := fun b hb' o ho' vs => by
    obtain ⟨_, o', e', d⟩ := ff.mem (stk_tail hb')
    rw [ho'] at e'; cases e'; exact d vs
  refine ⟨ea, C, .ref t, _, H2, rfl, I2.os, I2.bare, f1, ⟨fun b o e n hb _ => ?_, fun b o e n hb _ => ?_, I2.base.free, fun b o e hx' => ?_, I2.base.tups, I2.base.frzs, I2.base.tbls⟩, fun b u e => ?_, fun b o o' e n e' => ?_, q⟩
  · exact f1.1 b o (tB b o (I2.base.keep b o e n hb (by intro z; cases z)) (hs b o e hb))
  · obtain ⟨sl, e1⟩ := I2.base.slot b o e n hb (by intro z; cases z)
    obtain ⟨sl3, e3⟩ := f4 b _ (M.keeps b _ e1) (ndt b hb _ e1)
    exact ⟨sl3, e3⟩
  · obtain ⟨o1, e1⟩ := I2.base.there b o e hx'
    by_cases hb : b ∈ frs outer
    · obtain ⟨sl3, e3⟩ := f4 b _ (M.keeps b _ e1) (ndt b hb _ e1)
      exact ⟨_, e3⟩
    · exact ⟨o1, f1.1 b o1 (tB b o1 e1 (hs b o e hb))⟩
  · refine (I2.hok b u e).stay (fun c v hc y => tB c v y fun z => ?_) (fun _ y => y) fun _ _ y => y
    have fr := I2.stkFree c z
    rcases hc with rfl | hc
    · rw [fr] at e; cases e
    · rw [fr] at hc; cases hc
  · obtain ⟨o1, e1⟩ := I2.base.there b o e (by intro z; cases z)
    have e2 := tB b o1 e1 (hs b o e n)
    have e3 := f1.1 b o1 e2
    rw [e'] at e3; cases e3; exact e2
end
end L3

set_option Elab.async false
set_option linter.all false
set_option maxRecDepth 100000
set_option maxHeartbeats 4000000
/-! try: .. except C as e: .. -/
namespace L3
open PySem PySem.Spec PyProof.Rows L2
abbrev tryB (X : Cx) (pn : List (Addr × Obj)) (xe : Value → Shared → Prop) : Cx := { X with pn := pn, xe := xe }
abbrev tryS (X : Cx) (pn : List (Addr × Obj)) (A : Around) : Cx := { X with pn := pn, A := A, calm := false, xe := fun _ _ => False }
section
variable {X : Cx} {pins : List (Addr × Obj)} {σ : L2.St} {H : Hp} {s : Shared} {n : Str} {i : Nat}
/-- the name of an except clause goes -/
theorem name_goes {M : Model} {A : Around} {E : Value → Shared → Prop} {Q : Unit → Shared → Prop} {pos : Pos} (I : L2.Inv X pins σ H s) (hN : X.N.Nodup) (hi : X.N[i]? = some n) (hk : X.env.scope.names.lookup n = some .local)
    (h : ∀ s', L2.Inv X pins (σ.set i none) H s' → Q () s') : wpAny M A (do bindName X.env n .none; unbindBehindTheSuite X.env n pos) Q E s := by
  obtain ⟨m, hn, hl⟩ := id I.loc
  obtain ⟨oL, _, _, hoL, _⟩ := (id hn)
  have nL : ∀ b o, X.s₀.heap.get? b = some o → b ≠ X.env.locals := fun b o e z => by
    subst z; exact absurd (Nat.lt_of_lt_of_le (Heap.lt_size e) I.ok.above) (Nat.lt_irrefl _)
  refine wpAny_nameGoes_keeps hk hn (by rw [I.ok.kind]; rfl) fun h' v hn' hs => h _ ⟨I.ok, I.os, I.bare, ⟨fun b o e n' hb hx => ?_, fun b o e n' hb hx => ?_, I.base.free, fun b o e hx => ?_, I.base.tups, I.base.frzs, I.base.tbls⟩, ⟨_, hn', fun j y v' e1 e2 e3 => ?_⟩, fun y c e => ?_, I.free, I.freeC, fun p hp => ?_, fun b ob e => ?_, by rw [List.length_set]; exact I.len⟩
  · rw [hs.2 b (nL b o e)]; exact I.base.keep b o e n' hb hx
  · obtain ⟨sl, z⟩ := I.base.slot b o e n' hb hx
    exact ⟨sl, by rw [hs.2 b (nL b o e)]; exact z⟩
  · obtain ⟨o', z⟩ := I.base.there b o e hx
    exact ⟨o', by rw [hs.2 b (nL b o e)]; exact z⟩
  · by_cases hj : j = i
    · subst hj
      rw [List.getElem?_set_self (by rw [I.len]; exact (List.getElem?_eq_some_iff.mp hi).1)] at e2
      cases e2
    · rw [List.getElem?_set_ne (Ne.symm hj)] at e2
      obtain ⟨u', r', q⟩ := hl j y v' e1 e2 e3
      refine ⟨u', r', ?_⟩
      rcases q with ⟨k, e⟩ | ⟨k, c, e, z⟩
      · have ny : y ≠ n := fun z => hj (nodup_ix hN e1 (z ▸ hi))
        exact .inl ⟨k, by show (if y = n then v else m y) = _; rw [if_neg ny]; exact e⟩
      · exact .inr ⟨k, c, e, z.sameBut hs (I.cne y c e)⟩
  · obtain ⟨w', z⟩ := I.cell y c e
    exact ⟨w', z.sameBut hs (I.cne y c e)⟩
  · obtain ⟨e, n', ne, r⟩ := I.pin p hp
    exact ⟨by rw [← e]; exact hs.2 p.1 ne, n', ne, r⟩
  · refine (I.hok b ob e).stay (fun c w' hc q => ?_) (fun _ q => q) fun _ _ q => q
    have nc : c ≠ X.env.locals := by
      rintro rfl
      rcases hc with rfl | hc
      · rw [I.free] at e; cases e
      · rw [I.free] at hc; cases hc
    rw [hs.2 c nc]; exact q
/-- what flies on: the state ahead of the exception and the heap behind a step of it -/
theorem fly_step {l : List Env} {H H' : Hp} {h h1 h2 B : Heap} (u : Un (frs l) [] H H' h h1) (hc : ∀ b o o', h.get? b = some o → b ∉ frs l → h1.get? b = some o' → B.get? b = some o')
    (nd : ∀ b ∈ frs l, ∀ o, h1.get? b = some o → ∀ vs, o.data ≠ .fields vs) (st : B.StaysIn h2) (up : h1.UpToSlots h2) :
    Un (frs l) [] H H' h h2 ∧ (∀ b o o', h.get? b = some o → b ∉ frs l → h2.get? b = some o' → B.get? b = some o') := by
  refine ⟨⟨fun b o e n hb hx => ?_, fun b o e n hb hx => ?_, u.free, fun b o e hx => ?_, u.tups, u.frzs, u.tbls⟩, fun b o o' e hb e' => ?_⟩
  · exact st b o (hc b o o e hb (u.keep b o e n hb hx))
  · obtain ⟨sl, e1⟩ := u.slot b o e n hb hx
    obtain ⟨sl2, e2⟩ := up b _ e1 (nd b hb _ e1)
    exact ⟨sl2, e2⟩
  · obtain ⟨o', e1⟩ := u.there b o e hx
    by_cases hb : b ∈ frs l
    · obtain ⟨sl2, e2⟩ := up b _ e1 (nd b hb _ e1)
      exact ⟨_, e2⟩
    · exact ⟨o', st b o' (hc b o o' e hb e1)⟩
  · obtain ⟨o1, e1⟩ := u.there b o e (by intro z; cases z)
    have z1 := hc b o o1 e hb e1
    have z2 := st b o1 z1
    rw [e'] at z2; cases z2; exact z1
theorem nd_of {l : List Env} {B h : Heap} {ea : Addr} {C a0 : Value} (f : h.FunFrames B l) : ∀ b ∈ frs l, ∀ o, h.get? b = some o → ∀ vs, o.data ≠ .fields vs := fun b hb o ho vs => by
  obtain ⟨_, o', e', d⟩ := f.mem hb
  rw [ho] at e'; cases e'; exact d vs
/-- the reading of a try: the body's, and the suite's wherever the body's exception lands -/
def tTry (len i : Nat) (Ew : XK) (t : TS) (u : Addr → Addr → TS) : TS := fun D σ H => t D σ H ∧ ∀ (ea C : Addr) (H' : Hp), Ew (.ref C) none H' → H' ea = none →
  u ea C { nx := fun σ' H1 => D.nx (σ'.set i none) H1, rt := D.rt, bk := fun σ' H1 => D.bk (σ'.set i none) H1, ct := fun σ' H1 => D.ct (σ'.set i none) H1 } ((List.replicate len none).set i (some (.ref ea))) H'
/-- where an exception lands: the clause's suite, at the slots that stood ahead of it -/
theorem catches {suite : List Stmt} {b₀ : Stmt} {x : Str} {R : Addr} {u : Addr → Addr → TS} {Ew : XK} {np hp : Pos} {pins1 : List (Addr × Obj)} {σ0 σ1 : L2.St} {H0 H1 : Hp} {s0 sA s1 : Shared} {e : Value} {D : Ends}
    (hst : X.stack = X.env :: X.outer) (hfr : X.env.frame = some X.env.locals) (hN : X.N.Nodup) (hi : X.N[i]? = some n) (hk : X.env.scope.names.lookup n = some .local) (hg : Gl X x) (hm : X.mg x = some (.ref R))
    (hE : ∀ c d H', Ew c d H' → PySem.W.exmOne X.K c (.ref R) = some true)
    (hs : ∀ pn A ea C oe, (ea, oe) ∈ pn → oe.cls = .ref C → (∃ H', Ew (.ref C) none H') → PSs (tryS X pn A) (b₀ :: suite) (u ea C))
    (hd : (x == ("__debug__" : Str)) = false) (I : L2.Inv X pins σ0 H0 s0) (J : L2.Inv (tryB X (X.pn ++ pins) fun _ _ => False) pins1 σ1 H1 sA) (z : CXe X.prog X.w X.stack H1 sA Ew e s1)
    (h2 : ∀ (ea C : Addr) (H' : Hp), Ew (.ref C) none H' → H' ea = none →
      u ea C { nx := fun σ' H1 => D.nx (σ'.set i none) H1, rt := D.rt, bk := fun σ' H1 => D.bk (σ'.set i none) H1, ct := fun σ' H1 => D.ct (σ'.set i none) H1 } (σ1.set i (some (.ref ea))) H') :
    wpAny (model X.prog X.w) X.A (noteFrame e X.env) (fun _ s₂ => wpAny (model X.prog X.w) X.A (setFlight e none) (fun _ s₃ => wpAny (model X.prog X.w) X.A (handleBy e X.env [.ExceptHandler (some (.Name x np)) (some n) (b₀ :: suite) hp]) (SP X pins D) X.xe s₃) X.xe s₂) X.xe s1 := by
  obtain ⟨ea, C, a0, B, H', rfl, ho, hbr, hfl, un, hkB, hc, q⟩ := z
  have fr : X.A.frames = some (X.env :: X.outer) := by rw [← hst]; exact I.ok.frames
  rw [hst] at hfl
  have es : frs X.stack = frs (X.env :: X.outer) := by rw [hst]
  rw [es] at un hc
  refine wpAny_looks_onW fr hfr hfl fun h4 held up4 => ?_
  obtain ⟨un4, hc4⟩ := fly_step un hc (nd_of (ea := ea) (C := .none) (a0 := .none) hfl.2.2.1) held.1 up4
  refine wpAny_landsW held fun h5 fl5 up5 => ?_
  obtain ⟨un5, hc5⟩ := fly_step un4 hc4 (nd_of (ea := ea) (C := .none) (a0 := .none) held.2.2.1) fl5.1 up5
  -- the frame at a heap behind it
  have inv : ∀ (h6 : Heap) (oe : Obj), Heap.FlyingW B (X.env :: X.outer) ea (.ref C) a0 h6 → Un (frs (X.env :: X.outer)) [] H1 H' sA.heap h6 → h6.get? ea = some oe → (∃ vs, oe.data = .fields vs) →
      L2.Inv (tryS X (X.pn ++ pins ++ [(ea, oe)]) (X.A.mark (some (.ref ea)))) [] σ1 H' { s1 with heap := h6 } := fun h6 oe fl u6 he hdt => by
    have J6 : L2.Inv (tryB X (X.pn ++ pins) fun _ _ => False) pins1 σ1 H' { s1 with heap := h6 } := J.call' (ch := []) ho (by rw [← es] at u6; exact u6) (hkB.kept fl.1) hbr fun b z => by cases z
    refine ⟨⟨I.ok.mod, I.ok.kind, I.ok.glob, I.ok.blt, I.ok.above, I.ok.inj, I.ok.has, I.ok.cab, fun z => (Bool.false_ne_true z).elim, I.ok.frames, I.ok.stk, I.ok.exf, I.ok.bs, I.ok.bsz, I.ok.noex, I.ok.exfs, I.ok.funs, I.ok.frf⟩, J6.os, J6.bare, J6.base, J6.loc, J6.cell, J6.free, J6.freeC, fun p hp => ?_, J6.hok, J6.len⟩
    rw [List.append_nil] at hp
    rcases List.mem_append.mp hp with z | z
    · exact J6.pin p (List.mem_append_left _ z)
    · obtain rfl : p = (ea, oe) := by simpa using z
      obtain ⟨vs, hdt⟩ := hdt
      have nf : ea ∉ frs (X.env :: X.outer) := fun z => nd_of (ea := ea) (C := .none) (a0 := .none) fl.2.2.1 ea z oe he vs hdt
      refine ⟨he, hok_none hkB fl.2.1, fun z => nf ?_, fun z => nf (stk_tail z), fun v z => ?_⟩
      · have z' : ea = X.env.locals := z
        unfold frs; rw [List.filterMap_cons, hfr, z']; exact List.mem_cons_self
      · have z' : oe.data = .cell v := z
        rw [hdt] at z'; cases z'
  obtain ⟨o5, vs5, he5, hc5', hd5, _⟩ := fl5.first
  have I5 := inv h5 o5 fl5 un5 he5 ⟨vs5, hd5⟩
  refine wpAny_handleBy_cons (codeAny_handlers_test (ld_glob I5 hg hm ?_ hd)) (by intro z; cases z)
  refine (PySem.W.exm_one (K := X.K) I5.kIn (cls := .ref C) (by rw [← hc5']; exact (PySem.W.Looks.ld he5).andThen .now) (hE _ _ _ q)).here ?_
  show codeAny _ _ _ _ _
  refine codeAny_handlers_suite_as (lands_againW fl5 fun h6 fl6 up6 => ?_)
  obtain ⟨un6, hc6⟩ := fly_step un5 hc5 (nd_of (ea := ea) (C := .none) (a0 := .none) fl5.2.2.1) fl6.1 up6
  obtain ⟨o6, vs6, he6, hc6', hd6, _⟩ := fl6.first
  have I6 := inv h6 o6 fl6 un6 he6 ⟨vs6, hd6⟩
  refine store_ok (X := tryS X (X.pn ++ pins ++ [(ea, o6)]) (X.A.mark (some (.ref ea)))) I6 hN hi (.inl hk) (v := .ref ea) rfl (fun s7 I7 => ?_) (.inr hk)
  refine wpAny_mono (hs _ _ ea C o6 (List.mem_append_right _ List.mem_cons_self) hc6' ⟨H', q⟩ [] s7 _ H' _ I7 (h2 ea C H' q (hok_none hkB fl6.2.1))) (fun f s8 q8 => ?_) fun _ _ z => z.elim
  have back : ∀ {σ' H'} , L2.Inv (tryS X (X.pn ++ pins ++ [(ea, o6)]) (X.A.mark (some (.ref ea)))) [] σ' H' s8 → L2.Inv X pins σ' H' s8 := fun J => ⟨I.ok, J.os, J.bare, J.base, J.loc, J.cell, J.free, J.freeC, fun p hp => J.pin p (by rw [List.append_nil]; exact List.mem_append_left _ hp), J.hok, J.len⟩
  cases f with
  | next => obtain ⟨σ', H'', J8, q⟩ := q8; exact name_goes (back J8) hN hi hk fun s9 J9 => ⟨_, _, J9, q⟩
  | brk => obtain ⟨σ', H'', J8, q⟩ := q8; exact name_goes (back J8) hN hi hk fun s9 J9 => ⟨_, _, J9, q⟩
  | cont => obtain ⟨σ', H'', J8, q⟩ := q8; exact name_goes (back J8) hN hi hk fun s9 J9 => ⟨_, _, J9, q⟩
  | ret v => obtain ⟨y, σ', H'', J8, r, q⟩ := q8; exact name_goes (back J8) hN hi hk fun s9 J9 => ⟨y, _, _, J9, r, q⟩
theorem ps_try {body suite : List Stmt} {b₀ : Stmt} {x : Str} {R : Addr} {t : TS} {u : Addr → Addr → TS} {Ew : XK} {np hp pos : Pos}
    (hst : X.stack = X.env :: X.outer) (hfr : X.env.frame = some X.env.locals) (hN : X.N.Nodup) (hi : X.N[i]? = some n) (hk : X.env.scope.names.lookup n = some .local) (hg : Gl X x) (hm : X.mg x = some (.ref R))
    (hE : ∀ c d H', Ew c d H' → PySem.W.exmOne X.K c (.ref R) = some true)
    (hb : ∀ pn xe, Passes (CXe X.prog X.w) (tryB X pn xe) Ew → PSs (tryB X pn xe) body t)
    (hs : ∀ pn A ea C oe, (ea, oe) ∈ pn → oe.cls = .ref C → (∃ H', Ew (.ref C) none H') → PSs (tryS X pn A) (b₀ :: suite) (u ea C))
    (hd : (x == ("__debug__" : Str)) = false := by decide) :
    PS X (.Try body [.ExceptHandler (some (.Name x np)) (some n) (b₀ :: suite) hp] [] [] pos) (tTry X.N.length i Ew t u) := by
  intro pins s σ H D I h
  obtain ⟨h1, h2⟩ := h
  let X3 : Cx := tryB X (X.pn ++ pins) fun e s' => ∃ pins1 σ1 H1 s1, L2.Inv (tryB X (X.pn ++ pins) fun _ _ => False) pins1 σ1 H1 s1 ∧ CXe X.prog X.w X.stack H1 s1 Ew e s'
  have okB : ∀ xe, (tryB X (X.pn ++ pins) xe).Ok := fun xe => ⟨I.ok.mod, I.ok.kind, I.ok.glob, I.ok.blt, I.ok.above, I.ok.inj, I.ok.has, I.ok.cab, I.ok.hd, I.ok.frames, I.ok.stk, I.ok.exf, I.ok.bs, I.ok.bsz, I.ok.noex, I.ok.exfs, I.ok.funs, I.ok.frf⟩
  have I3 : L2.Inv X3 [] σ H s := ⟨okB _, I.os, I.bare, I.base, I.loc, I.cell, I.free, I.freeC, fun p hp => I.pin p (by rw [List.append_nil] at hp; exact hp), I.hok, I.len⟩
  have hps : Passes (CXe X.prog X.w) X3 Ew := fun pins1 σ1 H1 s1 e s' J z => ⟨pins1, σ1, H1, s1, ⟨okB _, J.os, J.bare, J.base, J.loc, J.cell, J.free, J.freeC, J.pin, J.hok, J.len⟩, z⟩
  refine wpAny_Try_except (wpAny_mono (hb _ _ hps [] s σ H D I3 h1) (fun f s1 q => ?_) fun e s1 q => ?_)
  · have back : ∀ {σ' H'} , L2.Inv X3 [] σ' H' s1 → L2.Inv X pins σ' H' s1 := fun J => ⟨I.ok, J.os, J.bare, J.base, J.loc, J.cell, J.free, J.freeC, fun p hp => J.pin p (by rw [List.append_nil]; exact hp), J.hok, J.len⟩
    cases f with
    | next => obtain ⟨σ', H', J, q⟩ := q; exact wpAny_execs_nil ⟨σ', H', back J, q⟩
    | brk => obtain ⟨σ', H', J, q⟩ := q; exact ⟨σ', H', back J, q⟩
    | cont => obtain ⟨σ', H', J, q⟩ := q; exact ⟨σ', H', back J, q⟩
    | ret v => obtain ⟨x, σ', H', J, r, q⟩ := q; exact ⟨x, σ', H', back J, r, q⟩
  · obtain ⟨pins1, σ1, H1, sA, J, z⟩ := q
    have J0 : L2.Inv (tryB X (X.pn ++ pins) fun _ _ => False) pins1 (List.replicate X.N.length none) H1 sA := J.weak (by rw [List.length_replicate]; exact J.len.symm) fun j v e => by
      rw [List.getElem?_replicate] at e
      split at e <;> cases e
    exact catches hst hfr hN hi hk hg hm hE hs hd I J0 z h2
/-- the callee runs, its exception reaches what is wanted at these slots -/
theorem run_at {pins : List (Addr × Obj)} {σ : L2.St} {H : Hp} {s : Shared} {Q : VK} {us : List Value} {vs : List V} {CX : CXT} {k : Nat} {f : Addr} {fd : FuncData} {ps : List Str} {sp : Sp} {E : XK} (F : FnOk X.prog X.w X.K X.mg X.base CX k f fd ps sp) (hr : Room k X.A) (hb : Binds X.K fd ps [])
    (hx : ∀ pins H s e s', L2.Inv X pins σ H s → CX X.stack H s E e s' → X.xe e s') (I : L2.Inv X pins σ H s) (r : Vals vs us) (h : sp vs H Q E) : wpAny (model X.prog X.w) X.A (call (.ref f) us) (EP X pins σ Q) X.xe s := by
  have hl : us.length = ps.length := by rw [← r.length]; exact F.len _ _ _ _ h
  have hb' := hb s us I.kIn (by rw [List.append_nil]; exact hl)
  rw [List.append_nil] at hb'
  refine wpAny_call (codeAny_mono (F.run X.A X.stack s H ⟨us, []⟩ us vs Q E hr I.env0 hb' r h) fun r s' hq => ?_)
  cases r with
  | error e => exact hx pins H s e s' I hq
  | ok fl =>
    cases fl with
    | ret u => exact I.after hq
    | next => exact False.elim hq
    | brk => exact False.elim hq
    | cont => exact False.elim hq
def tTryC (i j : Nat) (sp : Sp) (Ew : XK) (t : TA) (u : Addr → Addr → TS) : TS := fun D σ H => (t σ H fun vs H1 => sp vs H1 (fun v H2 => D.nx (σ.set j (some v)) H2) Ew) ∧ ∀ (ea C : Addr) (H' : Hp), Ew (.ref C) none H' → H' ea = none →
  u ea C { nx := fun σ' H1 => D.nx (σ'.set i none) H1, rt := D.rt, bk := fun σ' H1 => D.bk (σ'.set i none) H1, ct := fun σ' H1 => D.ct (σ'.set i none) H1 } (σ.set i (some (.ref ea))) H'
/-- try: y = f(a, ..) except C as e: .. -/
theorem ps_tryC {suite : List Stmt} {b₀ : Stmt} {x y g : Str} {j : Nat} {R : Addr} {t : TA} {u : Addr → Addr → TS} {Ew : XK} {np hp pos apos cpos gp yp : Pos} {a : Expr} {as : List Expr} {k : Nat} {f : Addr} {fd : FuncData} {ps : List Str} {sp : Sp}
    (hst : X.stack = X.env :: X.outer) (hfr : X.env.frame = some X.env.locals) (hN : X.N.Nodup) (hi : X.N[i]? = some n) (hk : X.env.scope.names.lookup n = some .local) (hj : X.N[j]? = some y) (hky : Loc X.env.scope y) (hg : Gl X x) (hm : X.mg x = some (.ref R))
    (hE : ∀ c d H', Ew c d H' → PySem.W.exmOne X.K c (.ref R) = some true)
    (F : FnOk X.prog X.w X.K X.mg X.base (CXe X.prog X.w) k f fd ps sp) (hr : Room k X.A) (hgg : Gl X g) (hmg : X.mg g = some (.ref f)) (hkf : PySem.W.keepIn X.K (.ref f) = true) (hbf : Binds X.K fd ps [])
    (ha : ∀ pn xe, PA (tryB X pn xe) (a :: as) t)
    (hs : ∀ pn A ea C oe, (ea, oe) ∈ pn → oe.cls = .ref C → (∃ H', Ew (.ref C) none H') → PSs (tryS X pn A) (b₀ :: suite) (u ea C))
    (hd : (x == ("__debug__" : Str)) = false := by decide) (hdg : (g == ("__debug__" : Str)) = false := by decide) (hf : X.fn y = true ∨ X.env.scope.names.lookup y = some .local := by first | exact .inl rfl | exact .inr rfl)
    (he : starEach (a :: as) X.env = (false, eval a X.env) :: starEach as X.env := by rfl) (hpl : (backTo cpos (starEach as X.env)).any (·.1) = false := by rfl)
    (hsw : swapsWith (.Call (.Name g gp) (a :: as) [] cpos) (some (.Name y yp)) apos.line X.env = pure false := by rfl) :
    PS X (.Try [.Assign [.Name y yp] (.Call (.Name g gp) (a :: as) [] cpos) apos] [.ExceptHandler (some (.Name x np)) (some n) (b₀ :: suite) hp] [] [] pos) (tTryC i j sp Ew t u) := by
  intro pins s σ H D I h
  obtain ⟨h1, h2⟩ := h
  let X3 : Cx := tryB X (X.pn ++ pins) fun e s' => ∃ pins1 H1 s1, L2.Inv (tryB X (X.pn ++ pins) fun _ _ => False) pins1 σ H1 s1 ∧ CXe X.prog X.w X.stack H1 s1 Ew e s'
  have okB : ∀ xe, (tryB X (X.pn ++ pins) xe).Ok := fun xe => ⟨I.ok.mod, I.ok.kind, I.ok.glob, I.ok.blt, I.ok.above, I.ok.inj, I.ok.has, I.ok.cab, I.ok.hd, I.ok.frames, I.ok.stk, I.ok.exf, I.ok.bs, I.ok.bsz, I.ok.noex, I.ok.exfs, I.ok.funs, I.ok.frf⟩
  have I3 : L2.Inv X3 [] σ H s := ⟨okB _, I.os, I.bare, I.base, I.loc, I.cell, I.free, I.freeC, fun p hp => I.pin p (by rw [List.append_nil] at hp; exact hp), I.hok, I.len⟩
  have one : wpAny (model X3.prog X3.w) X3.A (exec (.Assign [.Name y yp] (.Call (.Name g gp) (a :: as) [] cpos) apos) X3.env) (SP X3 [] D) X3.xe s := by
    refine wpAny_Assign_Name (wpAny_Call_Name_kw (ld_glob I3 hgg hmg ?_ hdg)) hsw
    refine PySem.W.callWith_K (h₀ := X.base) I.ok.mod.kin hkf (thn (ha _ _ cpos [] s σ H _ I3 h1) fun us s1 ⟨vs, H1, I1, r, q⟩ => ⟨I1.kIn, ?_⟩) he hpl
    refine thn (run_at (X := X3) F hr hbf (fun pins1 H1 s1 e s' J z => ⟨pins1, H1, s1, ⟨okB _, J.os, J.bare, J.base, J.loc, J.cell, J.free, J.freeC, J.pin, J.hok, J.len⟩, z⟩) I1 r q) fun v s2 ⟨yv, H2, I2, r2, q2⟩ => ?_
    exact store_ok (X := X3) I2 hN hj hky r2 (fun s3 I3 => ⟨_, _, I3, q2⟩) hf
  have all : wpAny (model X3.prog X3.w) X3.A (execs [.Assign [.Name y yp] (.Call (.Name g gp) (a :: as) [] cpos) apos] X3.env) (SP X3 [] D) X3.xe s := by
    refine wpAny_execs_cons (thn one fun f s1 q => ?_)
    cases f with
    | next => exact wpAny_execs_nil q
    | ret v => exact q
    | brk => exact q
    | cont => exact q
  refine wpAny_Try_except (wpAny_mono all (fun f s1 q => ?_) fun e s1 q => ?_)
  · have back : ∀ {σ' H'} , L2.Inv X3 [] σ' H' s1 → L2.Inv X pins σ' H' s1 := fun J => ⟨I.ok, J.os, J.bare, J.base, J.loc, J.cell, J.free, J.freeC, fun p hp => J.pin p (by rw [List.append_nil]; exact hp), J.hok, J.len⟩
    cases f with
    | next => obtain ⟨σ', H', J, q⟩ := q; exact wpAny_execs_nil ⟨σ', H', back J, q⟩
    | brk => obtain ⟨σ', H', J, q⟩ := q; exact ⟨σ', H', back J, q⟩
    | cont => obtain ⟨σ', H', J, q⟩ := q; exact ⟨σ', H', back J, q⟩
    | ret v => obtain ⟨x, σ', H', J, r, q⟩ := q; exact ⟨x, σ', H', back J, r, q⟩
  · obtain ⟨pins1, H1, sA, J, z⟩ := q
    exact catches hst hfr hN hi hk hg hm hE hs hd I J z h2
end
end L3

set_option Elab.async false
set_option linter.all false
set_option maxRecDepth 100000
set_option maxHeartbeats 4000000
/-! isinstance of an exception of an own class -/
namespace L3
open PySem PySem.Spec PyProof.Rows L2
/-- what is asked of an own exception class -/
structure ExcLook (K : PySem.W.Frag) (C : Addr) : Prop where
  ga : PySem.W.findIn K (.ref C) "__getattribute__" = some (some (.builtin "BaseException.__getattribute__"))
  gt : PySem.W.findIn K (.ref C) "__getattr__" = some none
  cl : PySem.W.findIn K (.ref C) "__class__" = some (some (.builtin "object.__class__"))
  ob : PySem.W.subIn K (.ref C) (.type "object") = some true
  be : PySem.W.subIn K (.ref C) (.type "BaseException") = some true
  is : PySem.W.isClsIn K C = true
section
variable {prog : Program} {w : World} {A : Around} {E : Value → Shared → Prop} {h : Heap} {g : Array GenState} {d : Drawn} {t : Nat} {os : OsState} {a C : Addr} {o : Obj} {K : PySem.W.Frag}
theorem xcls_get {R : Result → Shared → Prop} (L : ExcLook K C) (X : K.In h) (hx : h.get? a = some o) (hc : o.cls = .ref C) (hq : R (.ok (.ret (.ref C))) ⟨h, g, d, t, os⟩) :
    codeAny (model prog w) A (.call (.builtin "getset_descriptor.__get__") ⟨[.builtin "object.__class__", .ref a, .ref C], []⟩) R ⟨h, g, d, t, os⟩ := by
  have ty5 : (⟨h, g, d, t, os⟩ : Shared).TypeIs (.builtin "object.__class__") "getset_descriptor" := F.typeOf_object_class
  have sb : PySem.W.Looks (model prog w) h (isSubtype (.ref C) (.type (".".intercalate ("object.__class__".cutAt '.').dropLast))) true := by
    rw [F.owner_object_class]; exact PySem.W.looks_subIn X L.ob
  refine codeAny_call_builtin F.slot_gs_get.plain F.entry_gs_get (F.slot_gs_get.check _ _ _ _ _ _ _ _ ty5 (F.args_gs_get _ _ _) ?_)
  repeat (any_goals (first | assumption | (with_reducible refine wpAny_loadPart_at hx ?_; rw [hc]) | with_reducible refine PySem.W.Looks.at sb ?_ | wp_step))
  refine And.intro (Code.quiet_builtin _ (by decide +kernel)) (codeAny_builtin F.entry_object_class ?_)
  repeat (any_goals (first | assumption | (with_reducible refine wpAny_loadPart_at hx ?_; rw [hc]) | wp_step))
theorem xcls_entry {tk : Tok} {Q : Fin → Shared → Prop} (L : ExcLook K C) (X : K.In h) (hx : h.get? a = some o) (hc : o.cls = .ref C) (hq : Q (.done (.ret (.ref C))) ⟨h, g, d, t, os⟩) :
    wpAny (model prog w) A (Builtin.«object.__getattribute__» ⟨[Value.ref a, .str "__class__" tk], []⟩) Q E ⟨h, g, d, t, os⟩ := by
  have ty5 : (⟨h, g, d, t, os⟩ : Shared).TypeIs (.builtin "object.__class__") "getset_descriptor" := F.typeOf_object_class
  have z5 := F.typeOf_object_class
  have z6 := F.slot_gs_get.lookup
  have z7 := F.slot_gs_set.lookup
  have lc : PySem.W.Looks (model prog w) h (typeLookup (.ref C) "__class__") (some (.builtin "object.__class__")) := PySem.W.looks_findIn X L.cl
  repeat (any_goals (first | assumption | (with_reducible refine wpAny_loadPart_at hx ?_; rw [hc]) | with_reducible refine PySem.W.Looks.at lc ?_ | wp_step))
  refine xcls_get L X hx hc ?_
  repeat any_goals (first | assumption | wp_step)
theorem xcls_check {M : Model} {nameV : Value} {Q : Unit → Shared → Prop} (L : ExcLook K C) (X : K.In h) (hx : h.get? a = some o) (hc : o.cls = .ref C) (hq : Q () ⟨h, g, d, t, os⟩) :
    wpAny M A (checkBuiltinCall "BaseException.__getattribute__" ⟨[.ref a, nameV], []⟩) Q E ⟨h, g, d, t, os⟩ := by
  have e1 : builtinKind "BaseException.__getattribute__" = some .slot := by decide +kernel
  have e2 : splitId "BaseException.__getattribute__" = some ("BaseException", "__getattribute__") := by decide +kernel
  have lb : PySem.W.Looks M h (isSubtype (.ref C) (.type "BaseException")) true := PySem.W.looks_subIn X L.be
  have e3 := F.args_bexc_ga (.ref a) nameV
  simp only [checkBuiltinCall, e1, e2]
  refine wpAny_bind ?_
  unfold isInstance
  repeat (first | (with_reducible refine wpAny_loadPart_at hx ?_; rw [hc]) | with_reducible refine PySem.W.Looks.at lb ?_ | wp_step)
  exact hq
theorem xcls_by {tk : Tok} {fill expr : Bool} {Q : Value → Shared → Prop} (L : ExcLook K C) (X : K.In h) (hx : h.get? a = some o) (hc : o.cls = .ref C) (hq : Q (.ref C) ⟨h, g, d, t, os⟩) :
    wpAny (model prog w) A (getAttrBy (.ref a) (.str "__class__" tk) fill expr) Q E ⟨h, g, d, t, os⟩ := by
  have z3 := F.attr_ValueError.ga.bind (.ref a)
  have y0 : (expr && onTheHeap (Value.builtin "BaseException.__getattribute__")) = false := by cases expr <;> rfl
  have y2 : (Value.builtin "BaseException.__getattribute__" == Value.builtin "object.__getattribute__") = false := by decide +kernel
  have y1 : (onTheHeap (Value.ref C) && Value.builtin "BaseException.__getattribute__" == Value.builtin "object.__getattribute__") = false := by rw [y2]; rfl
  have l1 : PySem.W.Looks (model prog w) h (typeLookup (.ref C) "__getattribute__") (some (.builtin "BaseException.__getattribute__")) := PySem.W.looks_findIn X L.ga
  have l2 : PySem.W.Looks (model prog w) h (typeLookup (.ref C) "__getattr__") none := PySem.W.looks_findIn X L.gt
  repeat (any_goals (first | assumption | (with_reducible refine wpAny_loadPart_at hx ?_; rw [hc]) | with_reducible refine PySem.W.Looks.at l1 ?_ | with_reducible refine PySem.W.Looks.at l2 ?_ | wp_step))
  refine codeAny_call_builtin F.attr_ValueError.ga.plain F.entry_bexc_ga (xcls_check L X hx hc (xcls_entry L X hx hc ?_))
  repeat any_goals (first | assumption | wp_step)
theorem xcls_attr {Q : Option Value → Shared → Prop} (L : ExcLook K C) (X : K.In h) (hx : h.get? a = some o) (hc : o.cls = .ref C) (hq : Q (some (.ref C)) ⟨h, g, d, t + 1, os⟩) :
    wpAny (model prog w) A (getAttr? (.ref a) "__class__") Q E ⟨h, g, d, t, os⟩ := by
  unfold getAttr? getAttrBy?
  repeat (any_goals (first | assumption | with_reducible apply xcls_by L X hx hc | wp_step))
theorem kitx_exc (L : ExcLook K C) (hc : o.cls = .ref C) : PySem.W.KitX K (.ref a) (.ref C) (fun h => h.get? a = some o) where
  ty := fun M h _ p => by rw [← hc]; exact (PySem.W.Looks.ld p).andThen .now
  it := fun M h X _ => by
    have z := L.is
    unfold PySem.W.isClsIn PySem.W.clsIn at z
    split at z
    · rename_i ho
      intro A' Q' E' s' k q
      unfold isType loadHead
      exact wpAny_bind (wpAny_loadPart (k C _ (X C _ ho)) (wpAny_pure q))
    · cases z
  ne := fun h tp dd its k sl X htp => by
    have z := L.is
    unfold PySem.W.isClsIn at z
    refine Bool.eq_false_iff.mpr (fun q => ?_)
    obtain rfl : C = tp := Value.ref.inj (beq_iff_eq.mp q)
    unfold PySem.W.clsIn at z
    split at z
    · rename_i ho
      have y := (X _ _ ho).symm.trans htp
      cases y
    · cases z
  ca := fun {prog w A E Q s} X p k => by
    obtain ⟨h, g, d, t, os⟩ := s
    exact xcls_attr L X p hc k
end
section
variable {X : Cx} {ea C : Addr} {oe : Obj}
/-- isinstance(e, c) in an except suite, e the exception -/
theorem isi_exc {c : Value} {v : V} {b : Bool} {pins : List (Addr × Obj)} {σ : L2.St} {H : Hp} {s : Shared} {Q : VK} (hp : (ea, oe) ∈ X.pn) (hc : oe.cls = .ref C) (L : ExcLook X.K C) (I : L2.Inv X pins σ H s) (e : PySem.W.kitOne X.K (.ref C) c = some b) (q : Q (.bl b) H) :
    wpAny (model X.prog X.w) X.A (call (.builtin "isinstance") [.ref ea, c]) (EP X pins σ Q) X.xe s :=
  PySem.W.kia_one (kitx_exc L hc) I.kIn (I.pin (ea, oe) (List.mem_append_left _ hp)).1 e (fun z => nomatch z) fun tk => ⟨.bl b, H, I.tok tk, rfl, q⟩
theorem call_isiX (hp : (ea, oe) ∈ X.pn) (hc : oe.cls = .ref C) (K : PySem.W.Frag) (L : ExcLook K C) (hK : X.K = K := by rfl) :
    CallR X (.builtin "isinstance") (fun xs H Q => ∃ b, Q (.bl b) H ∧ ((∃ c, xs = [.ref ea, .ref c] ∧ PySem.W.kitOne K (.ref C) (.ref c) = some b) ∨ ∃ c, xs = [.ref ea, .ty c] ∧ PySem.W.kitOne K (.ref C) (.type c) = some b)) := by
  subst hK
  intro pins s σ H xs us Q I r h
  obtain ⟨b, q, h⟩ := h
  rcases h with ⟨c, rfl, e⟩ | ⟨c, rfl, e⟩
  · obtain ⟨u, v, rfl, r1, r2⟩ := vals2 r
    cases r1; cases r2
    exact isi_exc hp hc L I (v := .non) e q
  · obtain ⟨u, v, rfl, r1, r2⟩ := vals2 r
    cases r1; cases r2
    exact isi_exc hp hc L I (v := .non) e q
end
end L3

set_option Elab.async false
set_option linter.all false
set_option maxRecDepth 100000
set_option maxHeartbeats 4000000
/-! defs that raise: how they are told, and what they promise -/
namespace L3
open PySem PySem.Spec PyProof.Rows L2 Sr
structure CalX (P : Program) (w : World) (K : PySem.W.Frag) (mg : Str → Option Value) (base : Heap) (x : Str) (ps : List Str) (k : Nat) (sp : Sp) : Prop where
  ex : ∃ f fd, FnOk P w K mg base (CXe P w) k f fd ps sp ∧ Binds K fd ps [] ∧ PySem.W.keepIn K (.ref f) = true ∧ mg x = some (.ref f)
section
variable {P : Program} {w : World} {K : PySem.W.Frag} {mg : Str → Option Value} {base : Heap} {x : Str} {ps : List Str} {k j : Nat} {sp sp' : Sp} {st : Stmt} {f : Addr} {fd : FuncData}
theorem CalX.up (c : CalX P w K mg base x ps j sp) (h : j ≤ k) : CalX P w K mg base x ps k sp := by
  obtain ⟨f, fd, a, r⟩ := c.ex
  exact ⟨f, fd, a.mono h, r⟩
theorem Dfn.calX (d : Dfn K mg x st ps f fd) (h : FnOk P w K mg base (CXe P w) k f fd ps sp) : CalX P w K mg base x ps k sp := ⟨f, fd, h, d.b, d.F.kp, d.m⟩
/-- a def whose exceptions fly on -/
theorem okX {qual : Str} {N : List Str} (F : Fun K x qual st f fd) (S : FnScope N ps (defScope st)) (len : ∀ vs H Q E, sp vs H Q E → vs.length = ps.length)
    (hbody : ∀ (cdv : Value) (A : Around) (outer : List Env) (s : Shared) (H : Hp) (vs : List V) (Q : VK) (E : XK), Room k (A.deeper (envOfC qual (defScope st) s.heap.objs.size f cdv)) → sp vs H Q E →
      ∃ t, PSs (cxOf (CXe P w) P w K mg base N qual (defScope st) f cdv A outer s H E) (defBody st) t ∧ t { nx := fun _ H' => Q .non H', rt := Q } (L2.start N vs) H) : FnOk P w K mg base (CXe P w) (k + 1) f fd ps sp := by
  obtain ⟨oc, od, kV, doc, pm, an, cdv, ct, osl, rfl, lk, hcd⟩ := F.ex
  exact fn_of lk hcd S len fun A outer s H vs Q E hr hsp => hbody cdv A outer s H vs Q E hr hsp
end
section
variable {X : Cx}
/-- one of two readings -/
def tTwo (t u : TE) : TE := fun σ H Q => t σ H Q ∨ u σ H Q
theorem pe_two {e : Expr} {t u : TE} (h1 : PE X e t) (h2 : PE X e u) : PE X e (tTwo t u) := fun pins s σ H Q I h => h.elim (h1 pins s σ H Q I) (h2 pins s σ H Q I)
end
/-- the classes of the text's own errors -/
structure Errs (K : PySem.W.Frag) (mg : Str → Option Value) (CB CT CR : Addr) : Prop where
  mB : mg "BadRound" = some (.ref CB)
  mT : mg "BadText" = some (.ref CT)
  mR : mg "RestError" = some (.ref CR)
  xB : PySem.W.excIn K CB [.type "ValueError", .type "Exception", .type "BaseException", .type "object"] "ValueError.__new__" = true
  xT : PySem.W.excIn K CT [.type "ValueError", .type "Exception", .type "BaseException", .type "object"] "ValueError.__new__" = true
  lB : ExcLook K CB
  lT : ExcLook K CT
  eB : PySem.W.exmOne K (.ref CB) (.ref CR) = some true
  eT : PySem.W.exmOne K (.ref CT) (.ref CR) = some true
  vB : PySem.W.kitOne K (.ref CB) (.type "ValueError") = some true
  vT : PySem.W.kitOne K (.ref CT) (.type "ValueError") = some true
  bt : PySem.W.kitOne K (.ref CB) (.ref CT) = some false
  tb : PySem.W.kitOne K (.ref CT) (.ref CB) = some false
theorem kit_self {K : PySem.W.Frag} {C : Addr} : PySem.W.kitOne K (.ref C) (.ref C) = some true := by
  unfold PySem.W.kitOne; rw [if_pos (beq_self_eq_true _)]
/-- a class as a value -/
theorem pe_cls {X : Cx} {x : Str} {C : Addr} {pos : Pos} (hg : Gl X x) (hm : X.mg x = some (.ref C)) (hd : (x == ("__debug__" : Str)) = false := by decide) : PE X (.Name x pos) (tC (.ref C)) := pe_glob hg hm rfl hd
theorem start_get {N : List Str} {vs : List V} {i : Nat} {v : V} (h : vs[i]? = some v) : (L2.start N vs)[i]? = some (some v) := by
  unfold L2.start
  have hi : i < vs.length := (List.getElem?_eq_some_iff.mp h).1
  rw [List.getElem?_append_left (by simpa using hi), List.getElem?_map, h]
  rfl
/-- two lists of the same truths, compared -/
theorem bools_of : ∀ {bs : List Bool} {us : List Value}, Vals (bs.map V.bl) us → us = bs.map Value.bool
  | [], _, .nil => rfl
  | b :: bs, _, .cons r t => by rw [bools_of t, show _ = Value.bool b from r]; rfl
def rNeB (K : PySem.W.Frag) : R2 := fun x y H Q => ∃ (p q : Addr) (bs : List Bool), x = .ref p ∧ y = .ref q ∧ SqL K H p (bs.map V.bl) ∧ SqL K H q (bs.map V.bl) ∧ Q (.bl false) H
theorem op_neBK {X : Cx} (K : PySem.W.Frag) (hu : X.A.units < cLine) (hK : X.K = K := by rfl) : OpR X (compareOp .NotEq) (rNeB K) := by
  subst hK
  intro pins s σ H x y v u Q I rx ry h
  obtain ⟨p, q, bs, rfl, rfl, hp, hq, h⟩ := h
  cases rx
  cases ry
  obtain ⟨its, r1, p1, z1⟩ := I.list hp
  obtain ⟨jts, r2, p2, z2⟩ := I.list hq
  have i1 := bools_of r1
  have i2 := bools_of r2
  subst i1 i2
  refine SeqAt.RcNeAt.lists (e := fun j => true) p1.isList p2.isList rfl hu (fun j h1 h2 => SeqAt.EqAt.same _) _ _ _ _ ⟨.bl _, H, I, ?_, h⟩
  show Value.bool _ = Value.bool _
  congr 1
  simp
/-- no round: refused; a round: nothing -/
def spCheckX (C : Addr) : Sp := fun vs H Q E => ∃ n : Int, vs = [.int n] ∧ ((1 ≤ n ∧ n ≤ 24 ∧ Q .non H) ∨ (¬ (1 ≤ n ∧ n ≤ 24) ∧ E (.ref C) none H))
/-- refused: the last argument is no round -/
def spBad (m : Nat) (C : Addr) : Sp := fun vs H Q E => vs.length = m ∧ ∃ n : Int, vs[m - 1]? = some (.int n) ∧ ¬ (1 ≤ n ∧ n ≤ 24) ∧ E (.ref C) none H
def spSetsAsked (K : PySem.W.Frag) (C : Addr) : Sp := fun vs H Q E => ∃ (way : Int) (a b : Addr) (ns ms : List Int) (n : Int), vs = [.int way, .ref a, .ref b, .int n] ∧ SqL K H a (ns.map V.int) ∧ SqL K H b (ms.map V.int) ∧ ns.length ≤ 4 ∧ ms.length ≤ 4 ∧
  ((1 ≤ n ∧ n ≤ 24 ∧ ∀ H', Same H H' → Q .non H') ∨ (¬ (1 ≤ n ∧ n ≤ 24) ∧ ((0 ≤ way ∧ way < 5 ∧ E (.ref C) none H) ∨ (5 ≤ way ∧ Q .non H))))
def spListsAsked (K : PySem.W.Frag) (C : Addr) : Sp := fun vs H Q E => ∃ (way : Int) (a : Addr) (ns : List Int) (count n : Int), vs = [.int way, .ref a, .int count, .int n] ∧ SqL K H a (ns.map V.int) ∧ ns.length ≤ 4 ∧ 0 ≤ count ∧ count ≤ 60 ∧
  ((1 ≤ n ∧ n ≤ 24 ∧ ∀ H', Same H H' → Q .non H') ∨ (¬ (1 ≤ n ∧ n ≤ 24) ∧ 5 ≤ way ∧ way < 10 ∧ E (.ref C) none H))
def spMarks (K : PySem.W.Frag) : Sp := fun vs H Q _ => ∃ (way : Int) (a b : Addr) (ns ms : List Int) (count n : Int), vs = [.int way, .ref a, .ref b, .int count, .int n] ∧ SqL K H a (ns.map V.int) ∧ SqL K H b (ms.map V.int) ∧ ns.length ≤ 4 ∧ ms.length ≤ 4 ∧
  0 ≤ count ∧ count ≤ 60 ∧ 0 ≤ way ∧ way < 10 ∧ ∀ (r : Addr) H', Same H H' → H r = none → H' r = some (.lst (if 1 ≤ n ∧ n ≤ 24 then [] else [.bl true, .bl true, .bl false])) → Q (.ref r) H'
def spBadRound : Sp := fun vs H Q _ => ∃ c : Int, vs = [.int c] ∧ ∀ (v : Int) H', Same H H' → ¬ (1 ≤ v ∧ v ≤ 24) → Q (.int v) H'
end L3

set_option Elab.async false
set_option linter.all false
set_option maxRecDepth 100000
set_option maxHeartbeats 4000000
/-! a list comprehension whose element raises -/
namespace L3
open PySem PySem.Spec PyProof.Rows L2
theorem thx {α : Type} {t : Sem α} {Q Q' : α → Shared → Prop} {M : Model} {A : Around} {E E' : Value → Shared → Prop} {s : Shared} (hE : ∀ e s, E e s → E' e s) (h : wpAny M A t Q E s) (hQ : ∀ a s, Q a s → Q' a s) : wpAny M A t Q' E' s := wpAny_mono h hQ hE
section
variable {prog : Program} {w : World} {A : Around} {R : Result → Shared → Prop} {s : Shared}
/-- the loop of a comprehension whose steps may raise -/
theorem compLoop_x {elt target iter : Expr} {ifs : List Expr} {scope : Scope} {pos : Pos} {it acc : Value} {env : Env} (I : Nat → Shared → Prop)
    (turn : ∀ n s, I n s → wpAny (model prog w) A (pyNext it) (fun r s₁ => match r with
      | none => R (.ok .next) s₁
      | some v => wpAny (model prog w) A (letOwnedTupleGo target it v) (fun _ s₁' => wpAny (model prog w) A (assign target env v) (fun _ s₂ =>
          wpAny (model prog w) A (forIn ifs true fun c r => if r = true then do let ok ← isTrue c env (eval c env); pure (ForInStep.yield ok) else pure (ForInStep.yield r)) (fun ok s₃ =>
            if ok = true then wpAny (model prog w) A (eval elt env) (fun x s₄ =>
              wpAny (model prog w) A (call (.builtin "list.append") [acc, x]) (fun _ s₅ => ∃ m, m < n ∧ I m s₅) (notedBy (model prog w) A env fun y s' => R (.error y) s') s₄) (notedBy (model prog w) A env fun y s' => R (.error y) s') s₃
            else ∃ m, m < n ∧ I m s₃) (notedBy (model prog w) A env fun y s' => R (.error y) s') s₂) (notedBy (model prog w) A env fun y s' => R (.error y) s') s₁') (notedBy (model prog w) A env fun y s' => R (.error y) s') s₁) (notedBy (model prog w) A env fun y s' => R (.error y) s') s)
    (n : Nat) (h : I n s) :
    codeAny (model prog w) A (.compLoop (.ListComp elt [⟨target, iter, ifs, 0⟩] scope pos) 0 it acc env) R s := by
  refine codeAny_loop rfl I (fun n s hI => ?_) n h
  show wpAny _ A ((compTurn (.ListComp elt [⟨target, iter, ifs, 0⟩] scope pos) 0 it acc env).onRaise (fun x => do noteFrame x env; theTreesLotGoes x)) _ _ s
  refine wpAny_noted ?_
  rw [compTurn_list]
  refine wpAny_bind (wpAny_standAt (wpAny_bind (wpAny_mono (turn n s hI) (fun r s₁ h₁ => ?_) fun _ _ h' => h')))
  cases r with
  | none => exact wpAny_pure h₁
  | some v =>
    refine wpAny_bind (wpAny_mono h₁ (fun _ s₁' h₁' => ?_) fun _ _ h' => h')
    refine wpAny_bind (wpAny_mono h₁' (fun _ s₂ h₂ => wpAny_bind (wpAny_mono h₂ (fun ok s₃ h₃ => ?_) fun _ _ h' => h')) fun _ _ h' => h')
    cases ok with
    | false => exact wpAny_pure ⟨rfl, h₃⟩
    | true =>
      exact wpAny_bind (wpAny_bind (wpAny_mono h₃ (fun x s₄ h₄ => wpAny_bind (wpAny_mono h₄ (fun _ s₅ h₅ => wpAny_pure (wpAny_pure ⟨rfl, h₅⟩)) fun _ _ h' => h')) fun _ _ h' => h'))
end
section
variable {X : Cx} {pins : List (Addr × Obj)} {σ : L2.St} {H2 : Hp} {s2 : Shared} {scope : Scope} {x : Str} {N : List Str} {ix : List Nat} {cl : List (Str × Addr)} {fp : List Addr} {it : Addr} {tn : Nat → Heap → Prop} {J : It}
/-- the block, its steps may raise -/
theorem blockX {xe : Value → Shared → Prop} {elt iter : Expr} {px : Pos} {ifs : List Expr} {pos : Pos} {tt : TT} {te : TE} {Q : List V → Hp → Prop} {E : Value → Shared → Prop} {RR : Value → Addr → Result → Shared → Prop}
    (hc : X.calm = true) (C : COk X scope x N ix) (L : ClOk X scope cl) (I : Inv X pins σ H2 s2) (T : Turn X.prog X.w X.K (.Name x px) J fp it tn) (st0 : tn 0 s2.heap) (hf : ∀ b ∈ fp, FpOk X pins H2 b)
    (ht : PIfs ((blk X scope cl fp N s2 H2).wish xe) ifs tt) (he : PE ((blk X scope cl fp N s2 H2).wish xe) elt te) (hw : tTurns ix tt te σ J H2 Q)
    (hR : ∀ (D Ca : Addr) (s' : Shared) (H' : Hp) (ys : List V) (m : Str → Option Value), H' D = none → Q ys H' → Inv X pins σ (upd H' D (.lst ys)) s' → FpOk X pins (upd H' D (.lst ys)) Ca → s'.heap.Ns Ca m → RR (.ref D) Ca (.ok .next) s')
    (hX : ∀ e s', xe e s' → notedBy (model X.prog X.w) X.A (bEnv scope cl s2.heap.objs.size X.env) (fun y s' => RR (.ref s2.heap.objs.size) (s2.heap.objs.size + 1) (.error y) s') e s') :
    wpAny (model X.prog X.w) X.A (newList []) (fun acc s₃ => wpAny (model X.prog X.w) X.A (newFunctionEnv scope X.env.globals cl [] X.env.qual none .none (some X.env)) (fun cenv s₄ =>
      codeAny (model X.prog X.w) X.A (.compStart (.ListComp elt [⟨.Name x px, iter, ifs, 0⟩] scope pos) 0 (.ref it) acc { cenv with scope := relabel scope X.env }) (RR acc cenv.locals) s₄) E s₃) E s2 := by
  have hl : ∀ b ∈ fp, b < s2.heap.objs.size := fun b hb => by
    obtain ⟨o, e, _⟩ := T.obj 0 _ st0 b hb
    exact Heap.lt_size e
  have I4 := (blk_inv (N := N) C L I hf hl).wish xe
  refine wpAny_newObj_type (new_block ?_)
  have hsz : ({ s2 with heap := s2.heap.push { cls := .type "list", dict := none, data := .seq ([] : List Value).toArray } } : Shared).heap.objs.size = s2.heap.objs.size + 1 := Heap.size_push ..
  rw [hsz]
  show codeAny (model X.prog X.w) X.A (.compStart (.ListComp elt [⟨.Name x px, iter, ifs, 0⟩] scope pos) 0 (.ref it) (.ref s2.heap.objs.size) (bEnv scope cl s2.heap.objs.size X.env)) (RR (.ref s2.heap.objs.size) (s2.heap.objs.size + 1)) { s2 with heap := bHeap s2.heap scope }
  obtain ⟨W, ⟨m0, w0⟩, turn⟩ := hw
  -- what stays true of the iterator's records in the block
  have hD : H2 s2.heap.objs.size = none := I.hok.fresh (Nat.le_refl _)
  have fpY : ∀ {H' : Hp} {o : Obj}, (∀ b ∈ fp, H' b = none) → ∀ b ∈ fp, FpOk ((blk X scope cl fp N s2 H2).wish xe) (pins ++ [(s2.heap.objs.size, o)]) H' b := fun {H' o} hn b hb => by
    have hlt : @LT.lt Nat _ b s2.heap.objs.size := hl b hb
    obtain ⟨_, f1, f2, f3, f4, f5⟩ := hf b hb
    refine ⟨hn b hb, ?_, fun z => ?_, .inl hb, fun y c e => ?_, fun p hp => ?_⟩
    · show b ≠ s2.heap.objs.size + 1
      exact Nat.ne_of_lt (Nat.lt_succ_of_lt hlt)
    · rcases List.mem_cons.mp (I.stkSub b z) with q | q
      · exact f1 q
      · exact f2 q
    · rcases cell_split C L I e with ⟨_, _, a3, _⟩ | ⟨_, b2, _⟩
      · exact Nat.ne_of_gt (by omega)
      · exact f4 y c b2
    · rcases List.mem_append.mp hp with z | z
      · exact f5 p (List.mem_append_left _ z)
      · rcases List.mem_append.mp z with z | z
        · exact f5 p (List.mem_append_right _ z)
        · have e : p = (s2.heap.objs.size, o) := by simpa using z
          subst e
          show s2.heap.objs.size ≠ b
          exact Nat.ne_of_gt hlt
  -- the list may be pinned
  have pinD : ∀ {σ' : L2.St} {H' : Hp} {s' : Shared} {its : List Value} {k : Nat}, Inv ((blk X scope cl fp N s2 H2).wish xe) pins σ' H' s' → s'.heap.get? s2.heap.objs.size = some { cls := .type "list", data := .seq its.toArray k } → H' s2.heap.objs.size = none →
      Inv ((blk X scope cl fp N s2 H2).wish xe) (pins ++ [(s2.heap.objs.size, { cls := .type "list", data := .seq its.toArray k })]) σ' H' s' := fun {σ' H' s' its k} I' e n => I'.pins_of fun p hp => by
    rcases List.mem_append.mp hp with z | z
    · exact I'.pin p (List.mem_append_right _ z)
    · have e' : p = (s2.heap.objs.size, { cls := .type "list", data := .seq its.toArray k }) := by simpa using z
      subst e'
      refine ⟨e, n, ?_, fun z => ?_, fun v q => ?_⟩
      · show s2.heap.objs.size ≠ s2.heap.objs.size + 1
        exact Nat.ne_of_lt (Nat.lt_succ_self _)
      · rcases List.mem_cons.mp (I.stkSub _ z) with q | q
        · exact absurd I.lt (by rw [← q]; exact Nat.lt_irrefl _)
        · exact I.nofs (Nat.le_refl _) q
      · have q' : Data.seq its.toArray k = Data.cell v := q
        cases q'
  have pd : ∀ {σ' : L2.St} {H' : Hp} {s' : Shared} {its : List Value} {k : Nat} {pl : List (Addr × Obj)}, Inv ((blk X scope cl fp N s2 H2).wish xe) ((pins ++ [(s2.heap.objs.size, { cls := .type "list", data := .seq its.toArray k })]) ++ pl) σ' H' s' →
      s'.heap.get? s2.heap.objs.size = some { cls := .type "list", data := .seq its.toArray k } ∧ H' s2.heap.objs.size = none := fun {σ' H' s' its k pl} I' => by
    have q := I'.pin (s2.heap.objs.size, { cls := .type "list", data := .seq its.toArray k }) (List.mem_append_right _ (List.mem_append_left _ (List.mem_append_right _ (by simp))))
    exact ⟨q.1, q.2.1⟩
  have pd0 : ∀ {σ' : L2.St} {H' : Hp} {s' : Shared} {its : List Value} {k : Nat}, Inv ((blk X scope cl fp N s2 H2).wish xe) (pins ++ [(s2.heap.objs.size, { cls := .type "list", data := .seq its.toArray k })]) σ' H' s' →
      s'.heap.get? s2.heap.objs.size = some { cls := .type "list", data := .seq its.toArray k } ∧ H' s2.heap.objs.size = none := fun {σ' H' s' its k} I' => by
    have q := I'.pin (s2.heap.objs.size, { cls := .type "list", data := .seq its.toArray k }) (List.mem_append_right _ (List.mem_append_right _ (by simp)))
    exact ⟨q.1, q.2.1⟩
  have loop : codeAny (model X.prog X.w) X.A (.compLoop (.ListComp elt [⟨.Name x px, iter, ifs, 0⟩] scope pos) 0 (.ref it) (.ref s2.heap.objs.size) (bEnv scope cl s2.heap.objs.size X.env)) (RR (.ref s2.heap.objs.size) (s2.heap.objs.size + 1)) { s2 with heap := bHeap s2.heap scope } := by
    refine compLoop_x (fun n s' => ∃ i ys its k o H', Inv ((blk X scope cl fp N s2 H2).wish xe) (pins ++ [(s2.heap.objs.size, { cls := .type "list", data := .seq its.toArray k })]) (bSt ix σ o) H' s' ∧ Vals ys its ∧ tn i s'.heap ∧ (∀ b ∈ fp, H' b = none) ∧ W i n ys H') ?_ m0
      ⟨0, [], [], 0, none, H2, pinD I4 (bHeap_acc s2.heap scope) hD, .nil, T.keep 0 _ _ st0 (fun b hb o e => bHeap_keep e), fun b hb => (hf b hb).1, w0⟩
    rintro n s3 ⟨i, ys, its, k, o, H3, I3, v3, st3, fr3, w3⟩
    rcases turn i n ys H3 w3 with ⟨stop, hz, q⟩ | ⟨go, step⟩
    · refine thn (T.done ((blk X scope cl fp N s2 H2).wish xe) rfl rfl rfl hc i _ s3 _ H3 _ I3 (fpY fr3) st3 stop) fun r s4 ⟨hr, I4⟩ => ?_
      subst hr
      obtain ⟨d1, d2⟩ := pd0 I4
      show RR _ _ _ _
      have un : Un (frs X.stack) fp H2 (upd H3 s2.heap.objs.size (.lst ys)) s2.heap s4.heap := by
        have B : Un (frs X.stack) fp H2 H3 s2.heap s4.heap := I4.base
        refine ⟨B.keep, B.slot, fun b ob e n' hx => ?_, B.there, fun b xs e => ?_, fun b ob u e => ?_, fun b ps e => ?_⟩
        · rw [upd_ne (Nat.ne_of_lt (Heap.lt_size e))]; exact B.free b ob e n' hx
        · rw [upd_ne (ne_of_none e hD)]; exact B.tups b xs e
        · rw [upd_ne (ne_of_none e hD)]; exact B.frzs b ob u e
        · obtain ⟨more, z⟩ := B.tbls b ps e
          exact ⟨more, by rw [upd_ne (ne_of_none e hD)]; exact z⟩
      have hok4 : HOk X.prog X.w (upd H3 s2.heap.objs.size (.lst ys)) s4.heap := HOk.track I4.hok d2 ⟨hz, its, k, v3, d1⟩
      have IX : Inv X pins σ (upd H3 s2.heap.objs.size (.lst ys)) s4 := I.call' (ch := fp) I4.os un hok4 I4.bare fun b hb => ⟨(hf b hb).2.2.2.1, (hf b hb).2.1, (hf b hb).2.2.2.2.1, (hf b hb).2.2.2.2.2⟩
      obtain ⟨m, hn, _⟩ := I4.loc
      refine hR _ _ s4 H3 ys m d2 q IX ?_ hn
      have hne : s2.heap.objs.size + 1 ≠ s2.heap.objs.size := Nat.ne_of_gt (Nat.lt_succ_self _)
      exact I.fpOk (Nat.le_succ _) (by rw [upd_ne hne]; exact I4.free)
    · refine thn (T.item ((blk X scope cl fp N s2 H2).wish xe) rfl rfl rfl hc i _ s3 _ H3 _ I3 (fpY fr3) st3 go) fun r s4 ⟨u, hr, h4⟩ => ?_
      subst hr
      refine thn h4 fun _ s5 ⟨xv, H5, I5, r5, y5, st5, fr5⟩ => ?_
      have I5' := I5.pinned (fpY fr5) (T.obj _ _ st5)
      have hG : PG ((blk X scope cl fp N s2 H2).wish xe) (.Name x px) (gName 0) := by
        refine pg_name C.nd C.hx ?_ ?_
        · show (relabel scope X.env).names.lookup x = some .local ∨ (relabel scope X.env).names.lookup x = some .cell
          rw [relabel_lookup]
          rcases C.nx with z | z
          · rw [z]; exact .inl rfl
          · rw [z]; exact .inr rfl
        · rcases C.nx with z | z
          · refine .inr ?_
            show (relabel scope X.env).names.lookup x = some .local
            rw [relabel_lookup, z]; rfl
          · refine .inl ?_
            show (scope.names.lookup x == some .cell) = true
            rw [z]; rfl
      refine thx hX (hG _ s5 _ H5 xv u (fun σ' H' => σ' = bSt ix σ (some xv) ∧ H' = H5) I5' r5 ⟨rfl, rfl⟩) fun _ s6 ⟨σ6, H6, I6, e6, e6'⟩ => ?_
      subst e6 e6'
      refine thx hX (ht _ s6 _ _ _ I6 (step xv _ y5)) fun ok s7 ⟨H7, I7, q7⟩ => ?_
      have stay : ∀ {s' : Shared} {H' : Hp}, Inv ((blk X scope cl fp N s2 H2).wish xe) ((pins ++ [(s2.heap.objs.size, { cls := .type "list", data := .seq its.toArray k })]) ++ pinsAt fp s5.heap) (bSt ix σ (some xv)) H' s' →
          (∀ b ∈ fp, ∀ o, s5.heap.get? b = some o → s'.heap.get? b = some o) ∧ ∀ b ∈ fp, H' b = none := fun {s' H'} I' => by
        refine ⟨fun b hb o e => (I'.pin (b, o) (List.mem_append_right _ (List.mem_append_right _ (mem_pinsAt hb e)))).1, fun b hb => ?_⟩
        obtain ⟨o, e, d⟩ := T.obj _ _ st5 b hb
        exact (I'.pin (b, o) (List.mem_append_right _ (List.mem_append_right _ (mem_pinsAt hb e)))).2.1
      cases ok with
      | false =>
        rw [if_neg Bool.false_ne_true] at q7 ⊢
        obtain ⟨m', hm, w7⟩ := q7
        exact ⟨m', hm, i + 1, ys, its, k, some xv, H7, I7.unpinned, v3, T.keep _ _ _ st5 (stay I7).1, (stay I7).2, w7⟩
      | true =>
        rw [if_pos rfl] at q7 ⊢
        refine thx hX (he _ s7 _ H7 _ I7 q7) fun y s8 ⟨v8, H8, I8, r8, z8, m', hm, w8⟩ => ?_
        obtain ⟨d1, d2⟩ := pd I8
        have hlen := v3.length
        refine wpAny_list_append_plain (hsz := by simp only [List.size_toArray]; omega) ⟨k, d1⟩ fun h9 ⟨k9, e9⟩ sb => ?_
        have I8' : Inv ((blk X scope cl fp N s2 H2).wish xe) pins (bSt ix σ (some xv)) H8 s8 := I8.unpinned.unpinned
        have I9 : Inv ((blk X scope cl fp N s2 H2).wish xe) pins (bSt ix σ (some xv)) H8 { s8 with heap := h9 } := I8'.turned (t' := s8.toks) (fun b ob hb e => (sb.2 b hb).trans e) d2 (by
            show s2.heap.objs.size ≠ s2.heap.objs.size + 1
            exact Nat.ne_of_lt (Nat.lt_succ_self _)) (.inr (Nat.le_refl _)) (fun y' c' e => by
            rcases cell_split C L I e with ⟨_, _, a3, _⟩ | ⟨_, _, b3⟩
            · exact Nat.ne_of_gt (by omega)
            · exact Nat.ne_of_lt b3) fun p hp => Nat.ne_of_lt (Heap.lt_size (I.pin p hp).1)
        have e9' : h9.get? s2.heap.objs.size = some { cls := .type "list", data := .seq (its ++ [y]).toArray k9 } := by rw [e9]; simp
        refine ⟨m', hm, i + 1, ys ++ [v8], its ++ [y], k9, some xv, H8, pinD I9 e9' d2, v3.append (.cons r8 .nil), ?_, (stay I8).2, w8⟩
        refine T.keep _ _ _ st5 fun b hb ob e => ?_
        have hne : b ≠ s2.heap.objs.size := Nat.ne_of_lt (hl b hb)
        exact (sb.2 b hne).trans ((stay I8).1 b hb ob e)
  exact codeAny_compStart_list loop (T.self X.A 0 _ _ _ (T.keep 0 _ _ st0 (fun b hb o e => bHeap_keep e)) loop)

end
end L3

set_option Elab.async false
set_option linter.all false
set_option maxRecDepth 100000
set_option maxHeartbeats 4000000
/-! an exception out of a comprehension -/
namespace L3
open PySem PySem.Spec PyProof.Rows L2
/-- leaving a frame, whatever frame the exception has been noted at -/
theorem leaving_any {M : Model} {A : Around} {E : Value → Shared → Prop} {s : Shared} {base : Heap} {env : Env} {outer : List Env} {L e : Addr} {cls a0 fl : Value} {Q : Unit → Shared → Prop}
    (hfr : A.frames = some (env :: outer)) (hf : env.frame = some L) (hkb : base.StaysIn s.heap) (hen : base.get? e = none) (hl : s.heap.FunFrames base (env :: outer)) (ht : s.heap.TracedAtW base e cls a0 fl)
    (h : ∀ h', Heap.FlyingW base outer e cls a0 h' → s.heap.UpToSlots h' → Q () { s with heap := h' }) : wpAny M A (leaving env (.ref e)) Q E s := by
  by_cases c : fl = rawInt L
  · subst c
    unfold leaving
    refine wpAny_bind (wpAny_noteFrame_againW hf ht (wpAny_landsW ⟨hkb, hen, hl, ht⟩ fun h' fl' up => ?_))
    obtain ⟨k1, k2, ⟨_, _, k3⟩, k4⟩ := fl'
    exact h h' ⟨k1, k2, k3, k4⟩ up
  · obtain ⟨oe, vs, T, oT, ts, he, ⟨hcls, h0⟩, hd, h1, hnT, hTe, hT, hdT, h3⟩ := ht
    subst hcls
    unfold leaving noteFrame
    simp only [hf]
    refine wpAny_bind (wpAny_bind (wpAny_field he hd h1 ?_))
    rw [if_pos (show (Value.ref T != Value.none) = true by simp)]
    refine wpAny_bind (wpAny_field hT hdT h3 ?_)
    rw [if_neg (show ¬ ((fl == rawInt L) = true) from fun z => c (eq_of_beq z))]
    refine wpAny_bind (wpAny_setField hT hdT (Array.getElem?_eq_some_iff.mp h3).1 ?_)
    have oth : ∀ b, b ≠ T → (s.heap.update T (Obj.mapFields (·.setIfInBounds 3 Value.none))).get? b = s.heap.get? b := fun b hb => Heap.get?_update_other _ _ (Ne.symm hb)
    have nT : ∀ b o, s.heap.get? b = some o → (∀ vs, o.data ≠ .fields vs) → b ≠ T := fun b o hb hn z => by
      subst z; rw [hT] at hb; cases hb; exact hn ts hdT
    refine wpAny_newEntryW hfr (hl.of_keeps fun b o hb hn => ⟨o, (oth b (nT b o hb hn)).trans hb, rfl⟩) hf ((oth e (Ne.symm hTe)).trans he)
      (fun b o hb => (oth b fun z => by subst z; rw [hnT] at hb; cases hb).trans (hkb b o hb)) hen hd (Array.getElem?_eq_some_iff.mp h1).1 h0 fun h' y => ?_
    obtain ⟨y1, ⟨_, _, y2⟩, y3, y4⟩ := y
    exact h h' ⟨y1, hen, y2, y3⟩ fun b o hb hn => y4 b o ((oth b (nT b o hb hn)).trans hb) hn
/-- how it lies behind a block: the records at ex may have turned -/
def CXg (P : Program) (w : World) (ex : List Addr) : CXT := fun outer H s E e s' => ∃ (ea C : Addr) (a0 fl : Value) (B : Heap) (H' : Hp), e = .ref ea ∧ s'.os = s.os ∧ AllBare s'.gens ∧ (B.StaysIn s'.heap ∧ B.get? ea = none ∧ s'.heap.FunFrames B outer ∧ s'.heap.TracedAtW B ea (.ref C) a0 fl) ∧
  Un (frs outer) ex H H' s.heap s'.heap ∧ HOk P w H' B ∧ (∀ b o o', s.heap.get? b = some o → b ∉ frs outer → b ∉ ex → s'.heap.get? b = some o' → B.get? b = some o') ∧ E (.ref C) none H'
section
variable {P : Program} {w : World} {K : PySem.W.Frag} {mg : Str → Option Value} {base : Heap} {N : List Str} {qual : Str} {scope : Scope} {f : Addr} {cd : Value} {A : Around} {outer : List Env} {s₀ : Shared} {H₀ : Hp} {E : XK}
theorem pass_g {ex : List Addr} {pins : List (Addr × Obj)} {σ : L2.St} {H : Hp} {s s' : Shared} {e : Value} (I : L2.Inv (cxOf (CXe P w) P w K mg base N qual scope f cd A outer s₀ H₀ E) pins σ H s) (hx : ∀ b ∈ ex, s₀.heap.objs.size ≤ b)
    (h : CXg P w ex (cxOf (CXe P w) P w K mg base N qual scope f cd A outer s₀ H₀ E).stack H s E e s') : (cxOf (CXe P w) P w K mg base N qual scope f cd A outer s₀ H₀ E).xe e s' := by
  obtain ⟨ea, C, a0, fl, B, H', rfl, ho, hb, ⟨b1, b2, b3, b4⟩, u, hk, hc, q⟩ := h
  have no : ∀ b o, s₀.heap.get? b = some o → b ∉ ex := fun b o e z => absurd (Nat.lt_of_lt_of_le (Heap.lt_size e) (hx b z)) (Nat.lt_irrefl _)
  have hs : ∀ b o, s₀.heap.get? b = some o → b ∉ frs outer → b ∉ frs (cxOf (CXe P w) P w K mg base N qual scope f cd A outer s₀ H₀ E).stack := fun b o e n z => by
    rcases List.mem_cons.mp (I.stkSub b z) with y | y
    · subst y
      exact absurd (Nat.lt_of_lt_of_le (Heap.lt_size e) I.ok.above) (Nat.lt_irrefl _)
    · exact n y
  have ndt : ∀ b ∈ frs outer, ∀ o, s'.heap.get? b = some o → ∀ vs, o.data ≠ .fields vs := fun b hb' o ho' vs => by
    obtain ⟨_, o', e', d⟩ := b3.mem (stk_tail hb')
    rw [ho'] at e'; cases e'; exact d vs
  refine leaving_any (base := B) (outer := outer) I.ok.frames rfl b1 b2 b3 b4 fun h' h1 h2 => ?_
  have x0 : ∀ b : Addr, b ∉ (cxOf (CXe P w) P w K mg base N qual scope f cd A outer s₀ H₀ E).ex := fun b z => by cases z
  have kB : ∀ b o o', s₀.heap.get? b = some o → b ∉ frs outer → s'.heap.get? b = some o' → B.get? b = some o' := fun b o o' e n e' => by
    obtain ⟨o1, e1⟩ := I.base.there b o e (x0 b)
    exact hc b o1 o' e1 (hs b o e n) (no b o e) e'
  refine ⟨ea, C, a0, B, H', rfl, ho.trans I.os, hb, h1, ?_, hk, fun b o o' e n e' => ?_, q⟩
  · have both : ∀ b o, s₀.heap.get? b = some o → ∃ o', s'.heap.get? b = some o' := fun b o e => by
      obtain ⟨o1, e1⟩ := I.base.there b o e (x0 b)
      exact u.there b o1 e1 (no b o e)
    refine ⟨fun b o e n hb' _ => ?_, fun b o e n hb' _ => ?_, fun b o e n _ => ?_, fun b o e _ => ?_, fun b xs e => u.tups b xs (I.base.tups b xs e), fun b o v e => u.frzs b o v (I.base.frzs b o v e), fun b ps e => ?_⟩
    · have e1 := I.base.keep b o e n hb' (x0 b)
      have e2 := u.keep b o e1 (I.base.free b o e n (x0 b)) (hs b o e hb') (no b o e)
      exact h1.1 b o (kB b o o e hb' e2)
    · obtain ⟨sl, e1⟩ := I.base.slot b o e n hb' (x0 b)
      obtain ⟨sl2, e2⟩ := u.any e1 (I.base.free b o e n (x0 b)) (no b o e)
      obtain ⟨sl3, e3⟩ := h2 b _ e2 (ndt b hb' _ e2)
      exact ⟨sl3, e3⟩
    · obtain ⟨o1, e1⟩ := I.base.there b o e (x0 b)
      exact u.free b o1 e1 (I.base.free b o e n (x0 b)) (no b o e)
    · obtain ⟨o', e'⟩ := both b o e
      by_cases hb' : b ∈ frs outer
      · obtain ⟨sl, e3⟩ := h2 b o' e' (ndt b hb' _ e')
        exact ⟨_, e3⟩
      · exact ⟨o', h1.1 b o' (kB b o o' e hb' e')⟩
    · obtain ⟨m1, e1⟩ := I.base.tbls b ps e
      obtain ⟨m2, e2⟩ := u.tbls b _ e1
      exact ⟨m1 ++ m2, by rw [e2, Array.append_assoc]⟩
  · obtain ⟨o1, e1⟩ := I.base.there b o e (x0 b)
    obtain ⟨o2, e2⟩ := u.there b o1 e1 (no b o e)
    have e3 := kB b o o2 e n e2
    have e4 := h1.1 b o2 e3
    rw [e'] at e4; cases e4; exact e3
end
theorem funs_turn {B B' h h' : Heap} (kB : ∀ b, B.get? b = none → B'.get? b = none) : ∀ {l : List Env}, h.FunFrames B l → (∀ b ∈ frs l, ∀ o, h.get? b = some o → (∀ vs, o.data ≠ .fields vs) → ∃ o', h'.get? b = some o' ∧ o'.data = o.data) → h'.FunFrames B' l
  | [], _, _ => trivial
  | env :: l, ⟨hk, ⟨L, o, hf, hn, ho, hd⟩, hr⟩, k => by
    have mL : L ∈ frs (env :: l) := by unfold frs; rw [List.filterMap_cons, hf]; exact List.mem_cons_self
    obtain ⟨o', e, d⟩ := k L mL o ho hd
    exact ⟨hk, ⟨L, o', hf, kB L hn, e, fun vs => by rw [d]; exact hd vs⟩, funs_turn kB hr fun b hb => k b (stk_tail hb)⟩
section
variable {P : Program} {w : World} {K : PySem.W.Frag} {mg : Str → Option Value} {base : Heap} {N0 : List Str} {qual : Str} {scope0 : Scope} {f : Addr} {cd : Value} {A : Around} {outer : List Env} {s₀ : Shared} {H₀ : Hp} {E : XK} {scope : Scope} {x : Str}
theorem pe_compX {elt iter : Expr} {px : Pos} {ifs : List Expr} {pos : Pos} {wi : TI} {tt : TT} {te : TE} {N : List Str} {ix : List Nat} (hi : PI (cxOf (CXe P w) P w K mg base N0 qual scope0 f cd A outer s₀ H₀ E) (.Name x px) iter wi)
    (ht : ∀ cl fp s2 H2 xe, PIfs ((blk (cxOf (CXe P w) P w K mg base N0 qual scope0 f cd A outer s₀ H₀ E) scope cl fp N s2 H2).wish xe) ifs tt)
    (he : ∀ cl fp s2 H2 xe, Passes (CXe P w) ((blk (cxOf (CXe P w) P w K mg base N0 qual scope0 f cd A outer s₀ H₀ E) scope cl fp N s2 H2).wish xe) E → PE ((blk (cxOf (CXe P w) P w K mg base N0 qual scope0 f cd A outer s₀ H₀ E) scope cl fp N s2 H2).wish xe) elt te)
    (hk : scope.kind = .function := by rfl) (hok : cOk (cxOf (CXe P w) P w K mg base N0 qual scope0 f cd A outer s₀ H₀ E).N (cxOf (CXe P w) P w K mg base N0 qual scope0 f cd A outer s₀ H₀ E).env.kindOf scope x N ix = true := by rfl)
    (hs : ∀ x, foldedSetIterable iter (cxOf (CXe P w) P w K mg base N0 qual scope0 f cd A outer s₀ H₀ E).env x = pure x := by intro _; rfl) :
    PE (cxOf (CXe P w) P w K mg base N0 qual scope0 f cd A outer s₀ H₀ E) (.ListComp elt [⟨.Name x px, iter, ifs, 0⟩] scope pos) (tComp ix wi tt te) := by
  generalize hX : cxOf (CXe P w) P w K mg base N0 qual scope0 f cd A outer s₀ H₀ E = X at *
  intro pins s σ H Q I h
  have C := COk.of hk hok
  obtain ⟨cl, hcl, L⟩ := cl_ok C I.ok
  rw [eval_ListComp]
  refine wpAny_comprehension_free (use := none) rfl hs hcl C.kind C.nm (thn (hi pins s σ H _ I h) fun v s1 h1 => thn h1 fun itv s2 h2 => ?_)
  obtain ⟨it, fp, tn, J, H2, e, I2, T, st2, f2, hw⟩ := h2
  subst e
  have eP : X.prog = P := by rw [← hX]; rfl
  have ew : X.w = w := by rw [← hX]; rfl
  refine blockX (xe := fun e s' => ∃ pB σB HB sB, L2.Inv (blk X scope cl fp N s2 H2) pB σB HB sB ∧ CXe P w X.stack HB sB E e s') (RR := fun acc C => compPost (model X.prog X.w) X.A X.xe none (EP X pins σ Q) acc C) (by rw [← hX]; rfl) C L I2 T st2 f2 (ht cl fp s2 H2 _)
    (he cl fp s2 H2 _ fun pB σB HB sB e s' J' z => ⟨pB, σB, HB, sB, J'.unwish, z⟩) hw (fun D Ca s' H' ys m hD q IX fC hn => ?_) fun e s' z => ?_
  · refine ⟨m, hn, fun h' sb => ?_⟩
    obtain ⟨c0, c1, c2, c3, c4, c5⟩ := fC
    exact ⟨.ref D, _, IX.turned (t' := s'.toks) (fun b ob hb e => (sb.2 b hb).trans e) c0 c1 c3 c4 c5, rfl, q D hD⟩
  · obtain ⟨pB, σB, HB, sB, J', ea, C', a0, B, H', rfl, ho, hbr, hfl, un, hkB, hc, q⟩ := z
    have hst : X.stack = X.env :: X.outer := by rw [← hX]; rfl
    have hfr : X.env.frame = some X.env.locals := by rw [← hX]; rfl
    have fr : X.A.frames = some (X.env :: X.outer) := by rw [← hst]; exact I.ok.frames
    rw [hst] at hfl
    have es : frs X.stack = frs (X.env :: X.outer) := by rw [hst]
    show wpAny _ _ (noteFrame (.ref ea) X.env) _ _ s'
    refine wpAny_looks_onW fr hfr hfl fun h4 held up4 => ?_
    have sC : s2.heap.objs.size + 1 = (blk X scope cl fp N s2 H2).env.locals := rfl
    have inS : ∀ b o, s2.heap.get? b = some o → b ≠ s2.heap.objs.size + 1 := fun b o e z => by
      subst z; exact absurd (Heap.lt_size e) (Nat.not_lt.mpr (Nat.le_succ _))
    have frS : ∀ b ∈ frs X.stack, b ≠ s2.heap.objs.size + 1 := fun b hb => by
      obtain ⟨o, e, _⟩ := frame_data I2 hb
      exact inS b o e
    obtain ⟨m, nsB, _⟩ := J'.loc
    have ns1 : s'.heap.Ns (s2.heap.objs.size + 1) m := by
      obtain ⟨o, es', ep, e, d, r⟩ := nsB
      obtain ⟨sl, e'⟩ := un.any e J'.free (by intro z; cases z)
      exact ⟨_, es', ep, e', d, r⟩
    have ns4 := up4.ns ns1
    have freeC : H' (s2.heap.objs.size + 1) = none := by
      obtain ⟨o, _, _, e, _⟩ := nsB
      exact un.free _ o e J'.free (by intro z; cases z)
    refine ⟨m, ns4, fun h5 sb cenv hce => ?_⟩
    obtain ⟨k1, k2, k3, oe, vs, T', oT, ts, he4, ⟨hcls, h0⟩, hd4, h14, hnT, hTe, hT, hdT, h34⟩ := held
    obtain ⟨oC, eC, _, hoC, hdC, _⟩ := id ns4
    have neE : ea ≠ s2.heap.objs.size + 1 := fun z => by rw [z, hoC] at he4; cases he4; rw [hdC] at hd4; cases hd4
    have neT : T' ≠ s2.heap.objs.size + 1 := fun z => by rw [z, hoC] at hT; cases hT; rw [hdC] at hdT; cases hdT
    have he5 : h5.get? ea = some oe := (sb.2 ea neE).trans he4
    have hT5 : h5.get? T' = some oT := (sb.2 T' neT).trans hT
    unfold PySem.passOn
    refine wpAny_bind (wpAny_field he5 hd4 h14 ?_)
    rw [if_neg (show ¬ ((Value.ref T' == Value.none) = true) by simp)]
    refine wpAny_bind ?_
    unfold setFlight
    refine wpAny_bind (wpAny_field he5 hd4 h14 ?_)
    rw [if_pos (show (Value.ref T' != Value.none) = true by simp)]
    have hsz : 3 < ts.size := (Array.getElem?_eq_some_iff.mp h34).1
    refine wpAny_setField hT5 hdT hsz (wpAny_throw ?_)
    have oth : ∀ b, b ≠ T' → (h5.update T' (Obj.mapFields (·.setIfInBounds 3 (cenv.frame.elim Value.none fun f => rawInt f)))).get? b = h5.get? b := fun b hb => Heap.get?_update_other _ _ (Ne.symm hb)
    have nTb : ∀ b o, h4.get? b = some o → (∀ vs, o.data ≠ .fields vs) → b ≠ T' := fun b o hb hn z => by
      subst z; rw [hT] at hb; cases hb; exact hn ts hdT
    have B1 : ∀ b o, (PySem.W.hideAll B [s2.heap.objs.size + 1]).get? b = some o → B.get? b = some o ∧ b ≠ s2.heap.objs.size + 1 := fun b o e => by
      refine ⟨PySem.W.of_hideAll _ e, fun z => ?_⟩
      have := PySem.W.hideAll_none (h := B) [s2.heap.objs.size + 1] (b := b) (by rw [z]; simp)
      rw [this] at e; cases e
    have B2 : ∀ b o, B.get? b = some o → b ≠ s2.heap.objs.size + 1 → (PySem.W.hideAll B [s2.heap.objs.size + 1]).get? b = some o := fun b o e n => PySem.W.hideAll_get _ e (by simpa using n)
    have B0 : ∀ b, B.get? b = none → (PySem.W.hideAll B [s2.heap.objs.size + 1]).get? b = none := fun b e => by
      cases z : (PySem.W.hideAll B [s2.heap.objs.size + 1]).get? b with
      | none => rfl
      | some o => have := (B1 b o z).1; rw [e] at this; cases this
    have toE : ∀ b o, B.get? b = some o → b ≠ s2.heap.objs.size + 1 → (h5.update T' (Obj.mapFields (·.setIfInBounds 3 (cenv.frame.elim Value.none fun f => rawInt f)))).get? b = some o := fun b o e n => by
      have nb : b ≠ T' := fun z => by rw [z, hnT] at e; cases e
      rw [oth b nb, sb.2 b n]; exact k1 b o e
    have un1 : Un (frs X.stack) fp H2 HB s2.heap sB.heap := J'.base
    have frE : ∀ b ∈ frs X.stack, ∀ o, s'.heap.get? b = some o → ∃ sl, (h5.update T' (Obj.mapFields (·.setIfInBounds 3 (cenv.frame.elim Value.none fun f => rawInt f)))).get? b = some { o with slots := sl } := fun b hb o e => by
      have nd := nd_of (ea := ea) (C := .none) (a0 := .none) hfl.2.2.1 b (by rw [← es]; exact hb) o e
      obtain ⟨sl, e4⟩ := up4 b o e nd
      exact ⟨sl, by rw [oth b (nTb b _ e4 nd), sb.2 b (frS b hb)]; exact e4⟩
    have no : ∀ b : Addr, b ∉ ([] : List Addr) := fun b z => by cases z
    have big : CXg P w fp X.stack H2 s2 E (.ref ea) { s' with heap := h5.update T' (Obj.mapFields (·.setIfInBounds 3 (cenv.frame.elim Value.none fun f => rawInt f))) } := by
      refine ⟨ea, C', a0, cenv.frame.elim Value.none fun f => rawInt f, PySem.W.hideAll B [s2.heap.objs.size + 1], H', rfl, ho.trans J'.os, hbr, ⟨fun b o e => toE b o (B1 b o e).1 (B1 b o e).2, B0 _ k2, ?_, ?_⟩, ⟨fun b o e n hb hx => ?_, fun b o e n hb hx => ?_, fun b o e n hx => ?_, fun b o e hx => ?_, fun b xs e => un.tups b xs (un1.tups b xs e), fun b o v e => un.frzs b o v (un1.frzs b o v e), fun b ps e => ?_⟩, fun b u e => ?_, fun b o o' e hb hx e' => ?_, q⟩
      · have k3' : h4.FunFrames B X.stack := by rw [hst]; exact k3
        refine funs_turn B0 k3' fun b hb o e hn => ⟨o, ?_, rfl⟩
        show (h5.update T' _).get? b = some o
        rw [oth b (nTb b o e hn), sb.2 b (frS b hb)]; exact e
      · exact ⟨oe, vs, T', _, _, (oth ea (Ne.symm hTe)).trans he5, ⟨hcls, h0⟩, hd4, h14, B0 _ hnT, hTe, Heap.get?_update_self _ hT5 (Obj.isFreed_of_fields (Obj.data_mapFields hdT _)), Obj.data_mapFields hdT _, by simp [hsz]⟩
      · have e1 := un1.keep b o e n hb hx
        have n1 := un1.free b o e n hx
        have e2 := un.keep b o e1 n1 (by rw [← es] at *; exact hb) (no b)
        exact toE b o (hc b o o e1 hb e2) (inS b o e)
      · obtain ⟨sl, e1⟩ := un1.slot b o e n hb hx
        obtain ⟨sl2, e2⟩ := un.any e1 (un1.free b o e n hx) (no b)
        obtain ⟨sl3, e3⟩ := frE b hb _ e2
        exact ⟨sl3, e3⟩
      · obtain ⟨o1, e1⟩ := un1.there b o e hx
        exact un.free b o1 e1 (un1.free b o e n hx) (no b)
      · obtain ⟨o1, e1⟩ := un1.there b o e hx
        obtain ⟨o2, e2⟩ := un.there b o1 e1 (no b)
        by_cases hb : b ∈ frs X.stack
        · obtain ⟨sl3, e3⟩ := frE b hb _ e2
          exact ⟨_, e3⟩
        · exact ⟨o2, toE b o2 (hc b o1 o2 e1 hb e2) (inS b o e)⟩
      · obtain ⟨m1, e1⟩ := un1.tbls b ps e
        obtain ⟨m2, e2⟩ := un.tbls b _ e1
        exact ⟨m1 ++ m2, by rw [e2, Array.append_assoc]⟩
      · refine (hkB b u e).stay (fun c v hc' y => B2 c v y fun z => ?_) (fun _ y => y) fun _ _ y => y
        rcases hc' with z2 | z2
        · rw [← z2, z, freeC] at e; cases e
        · rw [z, freeC] at z2; cases z2
      · obtain ⟨o1, e1⟩ := un1.there b o e hx
        obtain ⟨o2, e2⟩ := un.there b o1 e1 (no b)
        have e3 := hc b o1 o2 e1 hb e2
        have e4 := toE b o2 e3 (inS b o e)
        have e5 : (h5.update T' (Obj.mapFields (·.setIfInBounds 3 (cenv.frame.elim Value.none fun f => rawInt f)))).get? b = some o' := e'
        rw [e5] at e4; cases e4
        exact B2 b o' e3 (inS b o e)
    subst hX
    refine pass_g I2 (fun b hb => ?_) big
    rcases (f2 b hb).2.2.2.1 with z | z
    · cases z
    · exact z
end
end L3

set_option Elab.async false
set_option linter.all false
set_option maxRecDepth 100000
/-! what a text writes, told in the law's own way -/
namespace Sr
open PySem PySem.W
theorem rdNums_app : ∀ (ws : List (List Nat)) (w : List Nat), rdNums (ws ++ [w]) = match rdNums ws, rdNum w with | some r, some i => some (r ++ [i]) | _, _ => none
  | [], w => by
    show (match rdNum w, rdNums [] with | some i, some r => some (i :: r) | _, _ => none) = _
    cases h : rdNum w <;> simp [rdNums]
  | x :: ws, w => by
    show (match rdNum x, rdNums (ws ++ [w]) with | some i, some r => some (i :: r) | _, _ => none) = _
    rw [rdNums_app ws w]
    show _ = (match (match rdNum x, rdNums ws with | some i, some r => some (i :: r) | _, _ => none), rdNum w with | some r, some i => some (r ++ [i]) | _, _ => none)
    cases rdNum x <;> cases rdNums ws <;> cases rdNum w <;> rfl
theorem rdNums_len : ∀ {ws : List (List Nat)} {ns : List Int}, rdNums ws = some ns → ns.length = ws.length
  | [], ns, h => by have : ns = [] := (Option.some.inj h).symm; subst this; rfl
  | w :: ws, ns, h => by
    replace h : (match rdNum w, rdNums ws with | some i, some r => some (i :: r) | _, _ => none) = some ns := h
    cases e1 : rdNum w with
    | none => rw [e1] at h; cases h
    | some i =>
      cases e2 : rdNums ws with
      | none => rw [e1, e2] at h; cases h
      | some r =>
        rw [e1, e2] at h
        have : ns = i :: r := (Option.some.inj h).symm
        subst this
        rw [List.length_cons, List.length_cons, rdNums_len e2]
theorem rdNums_none {ws : List (List Nat)} : ∀ {w : List Nat}, w ∈ ws → rdNum w = none → rdNums ws = none := by
  induction ws with
  | nil => intro w h; cases h
  | cons x ws ih =>
    intro w h e
    show (match rdNum x, rdNums ws with | some i, some r => some (i :: r) | _, _ => none) = none
    rcases List.mem_cons.mp h with z | z
    · subst z; rw [e]
    · rw [ih z e]; cases rdNum x <;> rfl
theorem rdNums_all {ws : List (List Nat)} (h : ∀ w ∈ ws, rdNum w ≠ none) : ∃ ns, rdNums ws = some ns ∧ ns.map some = ws.map rdNum := by
  induction ws with
  | nil => exact ⟨[], rfl, rfl⟩
  | cons x ws ih =>
    obtain ⟨ns, e1, e2⟩ := ih fun w hw => h w (List.mem_cons_of_mem _ hw)
    cases e : rdNum x with
    | none => exact absurd e (h x List.mem_cons_self)
    | some i =>
      refine ⟨i :: ns, ?_, by rw [List.map_cons, List.map_cons, e, e2]⟩
      show (match rdNum x, rdNums ws with | some i, some r => some (i :: r) | _, _ => none) = _
      rw [e, e1]
/-- what stands behind the colon -/
def rdTail (b : List Nat) : Option (List Int) := match spl 32 b with
  | w :: ws => if w = [] ∧ ws.length ≤ 60 then rdNums ws else none
  | [] => none
theorem rd_two {z a b : List Nat} (e : spl 58 z = [a, b]) : rd z = match rdNum a with | some n => if 1 ≤ n ∧ n ≤ 24 then (rdTail b).map fun ns => (ns, n) else none | none => none := by
  unfold rd rdTail
  rw [e]
  dsimp only
  cases rdNum a with
  | none => rfl
  | some n =>
    dsimp only
    by_cases c : 1 ≤ n ∧ n ≤ 24
    · rw [if_pos c, if_pos c]
      cases spl 32 b with
      | nil => rfl
      | cons w ws =>
        dsimp only
        by_cases c2 : w = [] ∧ ws.length ≤ 60
        · rw [if_pos c2, if_pos c2]
        · rw [if_neg c2, if_neg c2]; rfl
    · rw [if_neg c, if_neg c]
theorem rd_not_two {z : List Nat} (h : (spl 58 z).length ≠ 2) : rd z = none := by
  unfold rd
  split
  · rename_i a b e; rw [e] at h; exact absurd rfl h
  · rfl
/-! ### the law's way -/
def lfig (w : List Nat) : Int := if w.length < 1 ∨ 13 < w.length then -1 else if ¬ NumText.AllDigits w then -1 else if w.head? = some 48 ∧ 1 < w.length then -1 else (NumText.digitsVal w : Int)
theorem lfig_ge (w : List Nat) : -1 ≤ lfig w := by
  unfold lfig
  split
  · omega
  · split
    · omega
    · split <;> omega
theorem digits_pos {v : List Nat} (h1 : v ≠ []) (h2 : NumText.AllDigits v) (h3 : v.head? ≠ some 48) : 1 ≤ NumText.digitsVal v := by
  cases v with
  | nil => exact absurd rfl h1
  | cons d r =>
    have hd := h2 d List.mem_cons_self
    have : d ≠ 48 := fun z => h3 (by rw [z]; rfl)
    have := val_len (r := r) (d := d) (by have := hd.1; omega)
    have : 1 ≤ 10 ^ r.length := Nat.one_le_pow _ _ (by decide)
    omega
theorem one_head {v : List Nat} (h : v.head? = some 48) (h2 : ¬ 1 < v.length) : v = [48] := by
  cases v with
  | nil => cases h
  | cons d r =>
    have : d = 48 := Option.some.inj h
    subst this
    cases r with
    | nil => rfl
    | cons x r => exact absurd (by simp) h2
/-- the law's reader of one word is the program's -/
theorem rd_law (w : List Nat) : rdNum w = if w.head? = some 45 then (if lfig w.tail < 1 then none else if 10 ^ 12 < lfig w.tail then none else some (-(lfig w.tail))) else if lfig w < 0 then none else if 10 ^ 12 < lfig w then none else some (lfig w) := by
  by_cases c : w.head? = some 45
  · rw [if_pos c]
    have hf : figs w = w.tail := if_pos c
    have hw : w ≠ [48] := fun z => by rw [z] at c; cases c
    unfold rdNum
    rw [hf, if_pos c]
    generalize w.tail = v
    by_cases c1 : v = [] ∨ ¬ NumText.AllDigits v
    · rw [if_pos c1, if_pos]
      unfold lfig
      by_cases d1 : v.length < 1 ∨ 13 < v.length
      · rw [if_pos d1]; decide
      · rw [if_neg d1]
        rcases c1 with z | z
        · rw [z] at d1; exact absurd (.inl (by decide)) d1
        · rw [if_pos z]; decide
    · rw [if_neg c1]
      have a1 : v ≠ [] := fun z => c1 (.inl z)
      have a2 : NumText.AllDigits v := Decidable.byContradiction fun z => c1 (.inr z)
      have l1 : ¬ v.length < 1 := fun z => a1 (List.eq_nil_of_length_eq_zero (by omega))
      by_cases c2 : v.head? = some 48
      · rw [if_pos ⟨c2, hw⟩, if_pos]
        unfold lfig
        by_cases d1 : v.length < 1 ∨ 13 < v.length
        · rw [if_pos d1]; decide
        · rw [if_neg d1, if_neg (not_not_intro a2)]
          by_cases d2 : v.head? = some 48 ∧ 1 < v.length
          · rw [if_pos d2]; decide
          · rw [if_neg d2, one_head c2 fun z => d2 ⟨c2, z⟩]; decide
      · rw [if_neg fun z => c2 z.1]
        have p := digits_pos a1 a2 c2
        by_cases c3 : 13 < v.length
        · rw [if_pos (.inl c3), if_pos]
          unfold lfig; rw [if_pos (.inr c3)]; decide
        · have e : lfig v = (NumText.digitsVal v : Int) := by
            unfold lfig
            rw [if_neg (by rintro (z | z); exact l1 z; exact c3 z), if_neg (not_not_intro a2), if_neg fun z => c2 z.1]
          rw [e, if_neg (show ¬ ((NumText.digitsVal v : Int) < 1) by omega)]
          by_cases c4 : 10 ^ 12 < NumText.digitsVal v
          · rw [if_pos (.inr c4), if_pos (by omega)]
          · rw [if_neg (by rintro (z | z); exact c3 z; exact c4 z), if_neg (by omega)]
  · rw [if_neg c]
    have hf : figs w = w := if_neg c
    unfold rdNum
    rw [hf, if_neg c]
    by_cases c1 : w = [] ∨ ¬ NumText.AllDigits w
    · rw [if_pos c1, if_pos]
      unfold lfig
      by_cases d1 : w.length < 1 ∨ 13 < w.length
      · rw [if_pos d1]; decide
      · rw [if_neg d1]
        rcases c1 with z | z
        · rw [z] at d1; exact absurd (.inl (by decide)) d1
        · rw [if_pos z]; decide
    · rw [if_neg c1]
      have a1 : w ≠ [] := fun z => c1 (.inl z)
      have a2 : NumText.AllDigits w := Decidable.byContradiction fun z => c1 (.inr z)
      have l1 : ¬ w.length < 1 := fun z => a1 (List.eq_nil_of_length_eq_zero (by omega))
      by_cases c3 : 13 < w.length
      · have e : lfig w = -1 := by unfold lfig; rw [if_pos (.inr c3)]
        rw [e, if_pos (show (-1 : Int) < 0 by decide)]
        split
        · rfl
        · rw [if_pos (.inl c3)]
      · by_cases c2 : w.head? = some 48 ∧ 1 < w.length
        · have e : lfig w = -1 := by unfold lfig; rw [if_neg (by rintro (z | z); exact l1 z; exact c3 z), if_neg (not_not_intro a2), if_pos c2]
          rw [e, if_pos (show (-1 : Int) < 0 by decide), if_pos]
          exact ⟨c2.1, fun z => by rw [z] at c2; exact absurd c2.2 (by decide)⟩
        · have e : lfig w = (NumText.digitsVal w : Int) := by
            unfold lfig
            rw [if_neg (by rintro (z | z); exact l1 z; exact c3 z), if_neg (not_not_intro a2), if_neg c2]
          rw [e, if_neg (show ¬ (w.head? = some 48 ∧ w ≠ [48]) from fun z => z.2 (one_head z.1 fun y => c2 ⟨z.1, y⟩)), if_neg (show ¬ ((NumText.digitsVal w : Int) < 0) by omega)]
          by_cases c4 : 10 ^ 12 < NumText.digitsVal w
          · rw [if_pos (.inr c4), if_pos (by omega)]
          · rw [if_neg (by rintro (z | z); exact c3 z; exact c4 z), if_neg (by omega)]
theorem rd_lfig {a : List Nat} {n : Int} (n1 : 1 ≤ n) (n2 : n ≤ 24) : rdNum a = some n ↔ lfig a = n := by
  rw [rd_law]
  have g := lfig_ge a.tail
  by_cases c : a.head? = some 45
  · rw [if_pos c]
    have e : lfig a = -1 := by
      unfold lfig
      by_cases d1 : a.length < 1 ∨ 13 < a.length
      · rw [if_pos d1]
      · rw [if_neg d1, if_pos]
        intro h
        have := h 45 (List.mem_of_head? c)
        omega
    rw [e]
    constructor
    · intro h
      split at h
      · cases h
      · split at h
        · cases h
        · have := Option.some.inj h; omega
    · intro h; omega
  · rw [if_neg c]
    constructor
    · intro h
      split at h
      · cases h
      · split at h
        · cases h
        · exact Option.some.inj h
    · intro h
      rw [h, if_neg (by omega), if_neg (by omega)]
theorem glue_spl (c : Nat) : ∀ l : List Nat, glue c (spl c l) = l
  | [] => rfl
  | x :: r => by
    have ih := glue_spl c r
    rw [spl]
    by_cases e : x = c
    · rw [if_pos e]
      cases h : spl c r with
      | nil => exact absurd h (spl_ne c r)
      | cons p ps =>
        show [] ++ c :: glue c (p :: ps) = _
        rw [← h, ih, e]; rfl
    · rw [if_neg e]
      cases h : spl c r with
      | nil => exact absurd h (spl_ne c r)
      | cons p ps =>
        rw [h] at ih
        cases ps with
        | nil => show x :: p = x :: r; rw [show p = r from ih]
        | cons q qs => show (x :: p) ++ c :: glue c (q :: qs) = x :: r; rw [← ih]; rfl
theorem mem_glue {c y : Nat} : ∀ {ps : List (List Nat)}, y ∈ glue c ps → y = c ∨ ∃ p ∈ ps, y ∈ p
  | [], h => by cases h
  | [p], h => .inr ⟨p, List.mem_cons_self, h⟩
  | p :: q :: r, h => by
    have h : y ∈ p ++ c :: glue c (q :: r) := h
    rcases List.mem_append.mp h with z | z
    · exact .inr ⟨p, List.mem_cons_self, z⟩
    · rcases List.mem_cons.mp z with z | z
      · exact .inl z
      · rcases mem_glue z with z | ⟨p', m, z⟩
        · exact .inl z
        · exact .inr ⟨p', List.mem_cons_of_mem _ m, z⟩
theorem rd_signs {w : List Nat} {i : Int} (h : rdNum w = some i) : ∀ c ∈ w, c = 45 ∨ (48 ≤ c ∧ c ≤ 57) := by
  unfold rdNum at h
  by_cases c1 : figs w = [] ∨ ¬ NumText.AllDigits (figs w)
  · rw [if_pos c1] at h; cases h
  have a2 : NumText.AllDigits (figs w) := Decidable.byContradiction fun z => c1 (.inr z)
  intro c hc
  by_cases e : w.head? = some 45
  · have hf : figs w = w.tail := if_pos e
    cases w with
    | nil => cases hc
    | cons x r =>
      rcases List.mem_cons.mp hc with z | z
      · rw [z]; exact .inl (Option.some.inj e)
      · rw [hf] at a2; exact .inr (a2 c z)
  · have hf : figs w = w := if_neg e
    rw [hf] at a2; exact .inr (a2 c hc)
theorem spl_one {c : Nat} {b p : List Nat} (h : spl c b = [p]) : p = b := by
  have := glue_spl c b
  rw [h] at this; exact this
theorem nums_free {ws : List (List Nat)} {ns : List Int} (h : rdNums ws = some ns) : ∀ w ∈ ws, ∀ c ∈ w, c = 45 ∨ (48 ≤ c ∧ c ≤ 57) := fun w hw => by
  cases e : rdNum w with
  | none => rw [rdNums_none hw e] at h; cases h
  | some i => exact rd_signs e
/-- a colon, and none ahead of it: what is due -/
theorem due_iff {a b : List Nat} (ha : ¬ 58 ∈ a) (ns : List Int) (n : Int) : rd (a ++ 58 :: b) = some (ns, n) ↔ (lfig a = n ∧ 1 ≤ n ∧ n ≤ 24 ∧ rdTail b = some ns) := by
  constructor
  · intro h
    by_cases hl : (spl 58 (a ++ 58 :: b)).length = 2
    · rw [spl_app ha] at hl
      obtain ⟨p, hp⟩ : ∃ p, spl 58 b = [p] := List.length_eq_one_iff.mp (by rw [List.length_cons] at hl; omega)
      have := spl_one hp
      subst this
      rw [rd_two (a := a) (b := p) (by rw [spl_app ha, hp])] at h
      cases e : rdNum a with
      | none => rw [e] at h; cases h
      | some m =>
        rw [e] at h
        dsimp only at h
        by_cases c : 1 ≤ m ∧ m ≤ 24
        · rw [if_pos c] at h
          cases et : rdTail p with
          | none => rw [et] at h; cases h
          | some r =>
            rw [et] at h
            have h' : (r, m) = (ns, n) := Option.some.inj h
            cases h'
            exact ⟨(rd_lfig c.1 c.2).mp e, c.1, c.2, rfl⟩
        · rw [if_neg c] at h; cases h
    · rw [rd_not_two hl] at h; cases h
  · rintro ⟨h1, n1, n2, ht⟩
    have hb : ¬ 58 ∈ b := fun z => by
      unfold rdTail at ht
      split at ht
      · rename_i w ws e
        by_cases c2 : w = [] ∧ ws.length ≤ 60
        · rw [if_pos c2] at ht
          rw [← glue_spl 32 b, e] at z
          rcases mem_glue z with y | ⟨p, m, y⟩
          · cases y
          · rcases List.mem_cons.mp m with x | x
            · rw [x, c2.1] at y; cases y
            · have := nums_free ht p x 58 y; omega
        · rw [if_neg c2] at ht; cases ht
      · cases ht
    rw [rd_two (a := a) (b := b) (by rw [spl_app ha, spl_free hb]), (rd_lfig n1 n2).mpr h1]
    dsimp only
    rw [if_pos ⟨n1, n2⟩, ht]; rfl
theorem rd_no_colon {z : List Nat} (h : ¬ 58 ∈ z) : rd z = none := rd_not_two (by rw [spl_free h]; simp)
/-- where the first colon stands -/
theorem find_colon (z : Str) : (Txt.find z ":" = -1 ∧ ¬ 58 ∈ sg z) ∨ ∃ i : Nat, Txt.find z ":" = (i : Int) ∧ i < (sg z).length ∧ sg z = (sg z).take i ++ 58 :: (sg z).drop (i + 1) ∧ ¬ 58 ∈ (sg z).take i := by
  have at_ : ∀ i, StrLaws.At z ":" z.length i ↔ (sg z)[i]? = some 58 := fun i => StrLaws.subAt_one z 58 i
  rcases PyProof.Rows.find_whole z ":" with ⟨e, h⟩ | ⟨i, e, h1, h2⟩
  · refine .inl ⟨e, fun m => ?_⟩
    obtain ⟨i, hi⟩ := List.getElem?_of_mem m
    exact h i ((at_ i).mpr hi)
  · have hi := (at_ i).mp h1
    have hlt := (List.getElem?_eq_some_iff.mp hi).1
    have hv := (List.getElem?_eq_some_iff.mp hi).2
    refine .inr ⟨i, e, hlt, ?_, fun m => ?_⟩
    · rw [← hv, List.getElem_cons_drop, List.take_append_drop]
    · obtain ⟨k, hk⟩ := List.getElem?_of_mem m
      have hk' := (List.getElem?_eq_some_iff.mp hk).1
      rw [List.length_take] at hk'
      rw [List.getElem?_take_of_lt (by omega)] at hk
      exact h2 k (by omega) ((at_ k).mpr hk)
end Sr

set_option Elab.async false
set_option linter.all false
set_option maxRecDepth 100000
set_option maxHeartbeats 4000000
/-! more rules of texts; what the defs of k13 promise -/
namespace L3
open PySem PySem.Spec PyProof.Rows L2 Sr
section
variable {X : Cx}
def rRepS : R2 := fun x y H Q => ∃ (z : Str) (k : Int), x = .str z ∧ y = .int k ∧ MulOk z k ∧ Q (.str (Txt.mul z k)) H
theorem op_rep_str : OpR X (binaryOp .Mult) rRepS := by
  intro pins s σ H x y v u Q I rx ry h
  obtain ⟨z, k, rfl, rfl, ok, q⟩ := h
  obtain ⟨t, rfl⟩ := rx
  obtain ⟨t', rfl⟩ := ry
  exact PySem.SB.mul ok fun t2 tk => ⟨.str _, H, I.tok tk, ⟨t2, rfl⟩, q⟩
def rEqB (K : PySem.W.Frag) : R2 := fun x y H Q => ∃ (p q : Addr) (bs : List Bool), x = .ref p ∧ y = .ref q ∧ SqL K H p (bs.map V.bl) ∧ SqL K H q (bs.map V.bl) ∧ Q (.bl true) H
theorem op_eqBK (K : PySem.W.Frag) (hu : X.A.units < cLine) (hK : X.K = K := by rfl) : OpR X (compareOp .Eq) (rEqB K) := by
  subst hK
  intro pins s σ H x y v u Q I rx ry h
  obtain ⟨p, q, bs, rfl, rfl, hp, hq, h⟩ := h
  cases rx
  cases ry
  obtain ⟨its, r1, p1, z1⟩ := I.list hp
  obtain ⟨jts, r2, p2, z2⟩ := I.list hq
  have i1 := bools_of r1
  have i2 := bools_of r2
  subst i1 i2
  refine SeqAt.eq_listAt (e := fun j => true) p1.isList p2.isList rfl hu (fun j h1 h2 => SeqAt.EqAt.same _) ⟨.bl _, H, I, ?_, h⟩
  show Value.bool _ = Value.bool _
  congr 1
  simp
end
/-- over a text's signs -/
theorem for_str {z : Str} {g : TG} {tb : TS} {D : Ends} {σ : L2.St} {H : Hp} (Pv : Nat → L2.St → Hp → Prop) (h0 : Pv 0 σ H)
    (hs : ∀ i c σ H, (sg z)[i]? = some c → Pv i σ H → g (.str ⟨#[c]⟩) σ H fun σ2 H2 => tb { D with nx := Pv (i + 1), ct := Pv (i + 1), bk := D.nx } σ2 H2) (hd : ∀ σ H, Pv (sg z).length σ H → D.nx σ H) :
    ∃ W : Nat → Nat → L2.St → Hp → Prop, (∃ m, W 0 m σ H) ∧ ∀ i m σ H, W i m σ H →
      ((Its z).stop i H ∧ D.nx σ H) ∨ ((Its z).go i H ∧ ∃ N : L2.St → Hp → Prop, (∀ σ' H', N σ' H' → ∃ m', m' < m ∧ W (i + 1) m' σ' H') ∧ ∀ x H', (Its z).yld i H x H' → g x σ H' fun σ2 H2 => tb { D with nx := N, ct := N, bk := D.nx } σ2 H2) := by
  have hsz : z.cps.size = (sg z).length := by simp [sg]
  refine ⟨fun i m σ H => m = (sg z).length - i ∧ i ≤ (sg z).length ∧ Pv i σ H, ⟨(sg z).length, by simp, Nat.zero_le _, h0⟩, ?_⟩
  rintro i m σ H ⟨rfl, hi, p⟩
  by_cases hlt : i < (sg z).length
  · refine .inr ⟨by show i < z.cps.size; omega, Pv (i + 1), fun σ' H' p' => ⟨(sg z).length - (i + 1), by omega, rfl, hlt, p'⟩, fun x H' y => ?_⟩
    obtain ⟨e, c, hc, rfl⟩ := y
    subst e
    exact hs i c σ _ (by simpa [sg] using hc) p
  · have e : i = (sg z).length := by omega
    subst e
    exact .inl ⟨hsz, hd σ H p⟩
theorem slice_len (z : Str) (lo hi : Option Int) : (StrLaws.sliceText z lo hi).length ≤ z.length := by
  unfold StrLaws.sliceText
  split
  · exact Nat.le_refl _
  · have h1 : (Builtin.Str.strSliceIndices lo hi 1 z.length).length ≤ z.length := PyProof.Rows.indices_len_le _ _ _
    have h2 := List.length_filterMap_le (z.cps[·]?) (Builtin.Str.strSliceIndices lo hi 1 z.length)
    show ((Builtin.Str.strSliceIndices lo hi 1 z.length).filterMap (z.cps[·]?)).toArray.size ≤ z.length
    rw [List.size_toArray]
    omega
theorem slice_to {z : Str} {i : Nat} (h : i ≤ (sg z).length) : StrLaws.sliceText z none (some (i : Int)) = mkS ((sg z).take i) := by
  rw [StrLaws.sliceText_to (x := z) (j := (i : Int)) ⟨by omega, by show (i : Int) ≤ ((sg z).length : Int); omega⟩]
  show mkS (List.take ((i : Int) - 0).toNat (List.drop 0 (sg z))) = _
  rw [List.drop_zero, show ((i : Int) - 0).toNat = i by omega]
theorem slice_from {z : Str} {i : Nat} (h : i ≤ (sg z).length) : StrLaws.sliceText z (some (i : Int)) none = mkS ((sg z).drop i) := by
  rw [StrLaws.sliceText_from (x := z) (i := (i : Int)) ⟨by omega, by show (i : Int) ≤ ((sg z).length : Int); omega⟩]
  show mkS (List.take ((((sg z).length : Int) - i).toNat) (List.drop ((i : Int).toNat) (sg z))) = _
  rw [show ((i : Int)).toNat = i by omega, List.take_of_length_le (by rw [List.length_drop]; omega)]
def optV : Option Int → V
  | some i => .int i
  | none => .non
/-- some text, not long -/
def spSome (m : Nat) : Sp := fun vs H Q _ => ∃ c : Int, vs = [.int c] ∧ ∀ (z : Str) H', z.length ≤ m → Same H H' → Q (.str z) H'
def spSpoiled : Sp := fun vs H Q _ => ∃ (z : Str) (c : Int), vs = [.str z, .int c] ∧ z.length ≤ 1000 ∧ ∀ (z' : Str) H', z'.length ≤ 4000 → Same H H' → Q (.str z') H'
def spFigures : Sp := fun vs H Q _ => ∃ z : Str, vs = [.str z] ∧ z.length ≤ 4000 ∧ Q (.int (lfig (sg z))) H
def spNumberOf : Sp := fun vs H Q _ => ∃ z : Str, vs = [.str z] ∧ z.length ≤ 4000 ∧ Q (optV (rdNum (sg z))) H
def spDue : Sp := fun vs H Q _ => ∃ z : Str, vs = [.str z] ∧ z.length ≤ 4000 ∧ (∀ H', Same H H' → rd (sg z) = none → Q .non H') ∧
  ∀ (ns : List Int) (n : Int) (t l : Addr) H', rd (sg z) = some (ns, n) → Same H H' → H' l = some (.lst (ns.map V.int)) → H' t = some (.tup [.ref l, .int n]) → Q (.ref t) H'
/-- read, or refused -/
def Told (C : Addr) (H : Hp) (E : XK) {α : Type} (o : Option α) (P : α → Prop) : Prop := (∀ x, o = some x → P x) ∧ (o = none → ∀ H', Same H H' → E (.ref C) none H')
def spReadNumX (C : Addr) : Sp := fun vs H Q E => ∃ w : Str, vs = [.str w] ∧ w.length ≤ 4000 ∧ Told C H E (rdNum (sg w)) fun i => ∀ H', Same H H' → Q (.int i) H'
def rdRound (w : List Nat) : Option Int := match rdNum w with | some n => if 1 ≤ n ∧ n ≤ 24 then some n else none | none => none
def spReadRoundX (C : Addr) : Sp := fun vs H Q E => ∃ w : Str, vs = [.str w] ∧ w.length ≤ 4000 ∧ Told C H E (rdRound (sg w)) fun i => ∀ H', Same H H' → Q (.int i) H'
def spReadNumsX (C : Addr) : Sp := fun vs H Q E => ∃ z : Str, vs = [.str z] ∧ z.length ≤ 4000 ∧ Told C H E (rdTail (sg z)) fun ns => NewI H ns Q
def spReadX (C : Addr) : Sp := fun vs H Q E => ∃ z : Str, vs = [.str z] ∧ z.length ≤ 4000 ∧ Told C H E (rd (sg z)) fun p => ∀ (t l : Addr) H', Same H H' → H' l = some (.lst (p.1.map V.int)) → H' t = some (.tup [.ref l, .int p.2]) → Q (.ref t) H'
theorem spl_len' (c : Nat) : ∀ (z : List Nat), ∀ p ∈ spl c z, p.length ≤ z.length
  | [], p, h => by
    have : p = [] := by simpa [spl] using h
    rw [this]; exact Nat.le_refl _
  | x :: r, p, h => by
    rw [spl] at h
    have ih := spl_len' c r
    by_cases e : x = c
    · rw [if_pos e] at h
      rcases List.mem_cons.mp h with z | z
      · rw [z]; exact Nat.zero_le _
      · have := ih p z; rw [List.length_cons]; omega
    · rw [if_neg e] at h
      split at h
      · rename_i q qs eq
        rcases List.mem_cons.mp h with z | z
        · rw [z, List.length_cons, List.length_cons]
          have := ih q (by rw [eq]; exact List.mem_cons_self)
          omega
        · have := ih p (by rw [eq]; exact List.mem_cons_of_mem _ z)
          rw [List.length_cons]; omega
      · have : p = [x] := by simpa using h
        rw [this]; simp
theorem spl_count (c : Nat) : ∀ z : List Nat, (spl c z).length ≤ z.length + 1
  | [] => by simp [spl]
  | x :: r => by
    have ih := spl_count c r
    rw [spl]
    split
    · rw [List.length_cons, List.length_cons]; omega
    · split
      · rename_i p ps e; rw [e] at ih; rw [List.length_cons] at ih ⊢; rw [List.length_cons]; omega
      · simp
theorem spl_sum (c : Nat) : ∀ l : List Nat, ((spl c l).map List.length).sum + (spl c l).length = l.length + 1
  | [] => rfl
  | x :: r => by
    have ih := spl_sum c r
    rw [spl]
    split
    · rw [List.map_cons, List.sum_cons, List.length_cons, List.length_cons, List.length_nil]; omega
    · split
      · rename_i p ps e
        rw [e] at ih
        rw [List.map_cons, List.sum_cons, List.length_cons] at ih ⊢
        rw [List.length_cons, List.length_cons]; omega
      · rename_i e; exact absurd e (spl_ne c r)
theorem ix_pick {K : PySem.W.Frag} {p : Addr} {H : Hp} {xs : List V} {i : Int} {n : Nat} {Q : VK} (hn : xs.length = n) (h0 : 0 ≤ i) (h1 : i < n) (h : ∀ v ∈ xs, Q v (upd H p (.lst xs))) : rIxL K (.ref p) (.int i) (upd H p (.lst xs)) Q := by
  obtain ⟨v, hv⟩ : ∃ v, xs[i.toNat]? = some v := ⟨_, List.getElem?_eq_getElem (by omega)⟩
  have e := atI_nat (xs := xs) hv
  rw [show ((i.toNat : Nat) : Int) = i by omega] at e
  exact ⟨p, xs, i, v, rfl, rfl, SqL.of upd_same, e, h v (List.mem_of_getElem? hv)⟩
theorem mkS_len (l : List Nat) : (mkS l).length = l.length := by have := sg_len (mkS l); rw [sg_mk] at this; omega
/-- a reading that is chosen where it is wanted -/
theorem ps_ex {X : Cx} {α : Type} {st : Stmt} {t : α → TS} (h : ∀ p, PS X st (t p)) : PS X st fun D σ H => ∃ p, t p D σ H := fun pins s σ H D I ⟨p, q⟩ => h p pins s σ H D I q
theorem rd_by {z a b : List Nat} (e : spl 58 z = [a, b]) : rd z = match rdRound a, rdTail b with | some n, some ns => some (ns, n) | _, _ => none := by
  rw [rd_two e]
  unfold rdRound
  cases rdNum a with
  | none => rfl
  | some n =>
    dsimp only
    by_cases c : 1 ≤ n ∧ n ≤ 24
    · rw [if_pos c, if_pos c]; cases rdTail b <;> rfl
    · rw [if_neg c, if_neg c]
theorem tail_at {b w : List Nat} {ws : List (List Nat)} (e : spl 32 b = w :: ws) : rdTail b = if w = [] ∧ ws.length ≤ 60 then rdNums ws else none := by unfold rdTail; rw [e]
theorem spl_cons (c : Nat) (b : List Nat) : ∃ w ws, spl c b = w :: ws := by
  cases h : spl c b with
  | nil => exact absurd h (spl_ne c b)
  | cons x y => exact ⟨x, y, rfl⟩
theorem pa_strs {X : Cx} : ∀ zs : List (Str × Pos), PA X (zs.map fun z => Expr.Constant (.str z.1) 0 z.2) (fun _ H Q => Q (zs.map fun z => V.str z.1) H)
  | [] => pa_nil
  | z :: zs => pa_cons pe_str (pa_strs zs)
end L3

set_option Elab.async false
set_option linter.all false
set_option maxRecDepth 100000
set_option maxHeartbeats 4000000
namespace K13
open PySem PySem.Spec PyProof.Rows L2 L3 Sr
def top (i : Nat) : Stmt := PySem.Challenge.pw_sumrests_k13_lists_read_or_refused.main.body.getD i (.Pass ⟨0, 0, 0, 0⟩)
abbrev s__law_text : Stmt := top 22
abbrev s__law_figures : Stmt := top 28
abbrev s__law_number_of : Stmt := top 29
abbrev s__law_due : Stmt := top 30
abbrev s__law_cell_at : Stmt := top 18
abbrev s__law_number_by : Stmt := top 20
abbrev s__law_word_by : Stmt := top 25
abbrev s__law_round_by : Stmt := top 26
abbrev s__law_sign_by : Stmt := top 24
abbrev s__law_spoiled : Stmt := top 27
abbrev s_read_number : Stmt := top 16
abbrev s_is_round : Stmt := top 7
abbrev s_read_round : Stmt := top 14
abbrev s_read_numbers : Stmt := top 15
abbrev s_read : Stmt := top 13
abbrev s__law_whole : Stmt := top 19
abbrev s__law_is_told : Stmt := top 23
abbrev s_law : Stmt := top 31
theorem sc__law_text : FnScope ["numbers", "n", "text", "number"] ["numbers", "n"] (defScope s__law_text) := ⟨rfl, rfl, rfl, by decide +kernel, rfl, by decide +kernel, by decide +kernel⟩
theorem sc__law_figures : FnScope ["word", "sign"] ["word"] (defScope s__law_figures) := ⟨rfl, rfl, rfl, by decide +kernel, rfl, by decide +kernel, by decide +kernel⟩
theorem sc__law_number_of : FnScope ["word", "number"] ["word"] (defScope s__law_number_of) := ⟨rfl, rfl, rfl, by decide +kernel, rfl, by decide +kernel, by decide +kernel⟩
theorem sc__law_due : FnScope ["text", "n", "words", "numbers"] ["text"] (defScope s__law_due) := ⟨rfl, rfl, rfl, by decide +kernel, rfl, by decide +kernel, by decide +kernel⟩
theorem sc__law_cell_at : FnScope ["script", "k"] ["script", "k"] (defScope s__law_cell_at) := ⟨rfl, rfl, rfl, by decide +kernel, rfl, by decide +kernel, by decide +kernel⟩
theorem sc__law_number_by : FnScope ["cell", "way"] ["cell", "way"] (defScope s__law_number_by) := ⟨rfl, rfl, rfl, by decide +kernel, rfl, by decide +kernel, by decide +kernel⟩
theorem sc__law_word_by : FnScope ["cell", "some"] ["cell"] (defScope s__law_word_by) := ⟨rfl, rfl, rfl, by decide +kernel, rfl, by decide +kernel, by decide +kernel⟩
theorem sc__law_round_by : FnScope ["cell"] ["cell"] (defScope s__law_round_by) := ⟨rfl, rfl, rfl, by decide +kernel, rfl, by decide +kernel, by decide +kernel⟩
theorem sc__law_sign_by : FnScope ["cell", "some"] ["cell"] (defScope s__law_sign_by) := ⟨rfl, rfl, rfl, by decide +kernel, rfl, by decide +kernel, by decide +kernel⟩
theorem sc__law_spoiled : FnScope ["text", "cell", "place", "rest", "way", "words"] ["text", "cell"] (defScope s__law_spoiled) := ⟨rfl, rfl, rfl, by decide +kernel, rfl, by decide +kernel, by decide +kernel⟩
theorem sc_read_number : FnScope ["word", "figures"] ["word"] (defScope s_read_number) := ⟨rfl, rfl, rfl, by decide +kernel, rfl, by decide +kernel, by decide +kernel⟩
theorem sc_is_round : FnScope ["n"] ["n"] (defScope s_is_round) := ⟨rfl, rfl, rfl, by decide +kernel, rfl, by decide +kernel, by decide +kernel⟩
theorem sc_read_round : FnScope ["word", "n"] ["word"] (defScope s_read_round) := ⟨rfl, rfl, rfl, by decide +kernel, rfl, by decide +kernel, by decide +kernel⟩
theorem sc_read_numbers : FnScope ["text", "words"] ["text"] (defScope s_read_numbers) := ⟨rfl, rfl, rfl, by decide +kernel, rfl, by decide +kernel, by decide +kernel⟩
theorem sc_read : FnScope ["text", "parts", "n"] ["text"] (defScope s_read) := ⟨rfl, rfl, rfl, by decide +kernel, rfl, by decide +kernel, by decide +kernel⟩
theorem sc__law_whole : FnScope ["found"] ["found"] (defScope s__law_whole) := ⟨rfl, rfl, rfl, by decide +kernel, rfl, by decide +kernel, by decide +kernel⟩
theorem sc__law_is_told : FnScope ["found", "numbers", "n", "number"] ["found", "numbers", "n"] (defScope s__law_is_told) := ⟨rfl, rfl, rfl, by decide +kernel, rfl, by decide +kernel, by decide +kernel⟩
theorem sc_law : FnScope ["script", "n", "count", "numbers", "text", "due", "found", "marks", "e"] ["script"] (defScope s_law) := ⟨rfl, rfl, rfl, by decide +kernel, rfl, by decide +kernel, by decide +kernel⟩
section
variable {P : Program} {w : World} {K : PySem.W.Frag} {mg : Str → Option Value} {base : Heap} {f : Addr} {fd : FuncData}
/- _law_text -/
theorem cal__law_text (D : Dfn K mg "_law_text" s__law_text ["numbers", "n"] f fd) (mb_str : mg "str" = none) : Cal P w K mg base "_law_text" ["numbers", "n"] 1 (spText K) := by
  refine D.cal (D.F.ok sc__law_text (fun vs H Q E h => ?_) (fun cdv A outer s H vs Q E hr h => ?_))
  · obtain ⟨a, ns, n, rfl, _⟩ := h; rfl
  obtain ⟨a, ns, n, rfl, hS, hl, n1, n2, hb, q⟩ := h
  refine ⟨_, (pss_cons (ps_set (i := 2) sc__law_text.nd rfl (Or.inl rfl) (pe_op op_add_str (pe_callTy call_str_int rfl mb_str L3.bt_str (pa_cons (pv 1) pa_nil)) pe_str))
    (pss_cons (ps_for PassesOwn.never rfl (pi_listK K (pv 0)) (pg_name (i := 3) sc__law_text.nd rfl (Or.inl rfl)) (pss_one (ps_set (i := 2) sc__law_text.nd rfl (Or.inl rfl) (pe_op op_add_str (pe_op op_add_str (pv 2) pe_str) (pe_callTy call_str_int rfl mb_str L3.bt_str (pa_cons (pv 3) pa_nil))))))
    (pss_one (ps_ret (pv 2))))), ?_⟩
  have bn : Bd n := ⟨by omega, by omega⟩
  have lx : ∀ x, Bd x → (Str.ofString (toString x)).length ≤ 14 := fun x bx => by have := dec_len bx.1 bx.2; have e := sg_len (Str.ofString (toString x)); unfold dec at this; omega
  have ln := lx n bn
  have fit : ∀ k : Nat, k ≤ 4000 → k ≤ sizeLine := fun k h => small4 h
  have l1 : (":" : Str).length = 1 := by decide +kernel
  have l2 : (" " : Str).length = 1 := by decide +kernel
  refine ⟨_, rfl, n, rfl, log_small bn, _, _, rfl, rfl, fit _ (by omega), ?_⟩
  have tl : ∀ i, (mkS (tx n (ns.take i))).length ≤ 1000 := fun i => by
    have h1 := tail_len (ns := ns.take i) fun j hj => hb j (List.mem_of_mem_take hj)
    have h2 := dec_len bn.1 bn.2
    have h3 := sg_len (mkS (tx n (ns.take i)))
    rw [sg_mk] at h3
    unfold tx at h3
    rw [List.length_append, List.length_cons] at h3
    have h4 := List.length_take_le i ns
    have : (ns.take i).length ≤ 60 := by rw [List.length_take]; omega
    show (mkS (tx n (ns.take i))).length ≤ 1000
    unfold tx
    omega
  refine ⟨_, rfl, a, rfl, ⟨_, hS⟩, ?_⟩
  refine for_list (xs := ns.map V.int) (fun i σ H' => H' = H ∧ ∃ o, σ = [some (.ref a), some (.int n), some (.str (mkS (tx n (ns.take i)))), o]) ⟨rfl, none, ?_⟩ (fun i σ H' _ h => by rw [h.1]; exact hS) (fun i x σ H' hx h => ?_) fun σ H' h => ?_
  · have e : Str.ofString (toString n) ++ ":" = mkS (tx n (ns.take 0)) := sg_inj (by
      rw [sg_app, sg_mk]
      show dec n ++ [58] = dec n ++ 58 :: tail []
      rfl)
    rw [← e]; rfl
  · obtain ⟨rfl, o, rfl⟩ := h
    obtain ⟨y, hy, rfl⟩ : ∃ y, ns[i]? = some y ∧ V.int y = x := by
      rw [List.getElem?_map] at hx
      cases e : ns[i]? with
      | none => rw [e] at hx; cases hx
      | some y => rw [e] at hx; exact ⟨y, rfl, Option.some.inj hx⟩
    have my := List.mem_of_getElem? hy
    have by' := hb y my
    have := lx y by'
    have := tl i
    have la : (mkS (tx n (ns.take i)) ++ (" " : Str)).length = (mkS (tx n (ns.take i))).length + (" " : Str).length := Str.length_append _ _
    refine ⟨_, rfl, _, _, rfl, rfl, fit _ (by omega), _, rfl, y, rfl, log_small by', _, _, rfl, rfl, fit _ (by omega), rfl, some (.int y), ?_⟩
    have e : mkS (tx n (ns.take i)) ++ " " ++ Str.ofString (toString y) = mkS (tx n (ns.take (i + 1))) := sg_inj (by
      rw [sg_app, sg_app, sg_mk, sg_mk, List.take_add_one, hy]
      show (dec n ++ 58 :: tail (ns.take i)) ++ [32] ++ dec y = dec n ++ 58 :: tail (ns.take i ++ [y])
      unfold tail
      rw [List.flatMap_append]
      simp)
    rw [← e]; rfl
  · obtain ⟨rfl, o, rfl⟩ := h
    rw [List.length_map, List.take_length]
    exact ⟨_, rfl, q _ (Same.refl _)⟩
/- _law_figures -/
theorem cal__law_figures (D : Dfn K mg "_law_figures" s__law_figures ["word"] f fd) (mb_len : mg "len" = none) (mb_int : mg "int" = none) : Cal P w K mg base "_law_figures" ["word"] 1 spFigures := by
  refine D.cal (D.F.ok sc__law_figures (fun vs H Q E h => ?_) (fun cdv A outer s H vs Q E hr h => ?_))
  · obtain ⟨z, rfl, _⟩ := h; rfl
  obtain ⟨z, rfl, hl, q⟩ := h
  refine ⟨_, (pss_cons (ps_if (PW.pt (pw_or (pt_cmpR op_lt (pe_callB call_len_str rfl mb_len L3.bt_len (pa_cons (pv 0) pa_nil)) pe_int (nomark _)) (pw_or1 (pt_cmpR op_gt (pe_callB call_len_str rfl mb_len L3.bt_len (pa_cons (pv 0) pa_nil)) pe_int (nomark _))))) (pss_one (ps_ret (pe_un un_neg pe_int))) pss_nil)
    (pss_cons (ps_for PassesOwn.never rfl (pi_str (pv 0)) (pg_name (i := 1) sc__law_figures.nd rfl (Or.inl rfl)) (pss_one (ps_if (pt_cmpR op_notin_str (pv 1) pe_str rfl) (pss_one (ps_ret (pe_un un_neg pe_int))) pss_nil)))
    (pss_cons (ps_if (PW.pt (pw_and (pt_cmpR op_eq (pe_ix ix_str (pv 0) pe_int (fun _ _ => rfl)) pe_str (nomark _)) (pw_and1 (pt_cmpR op_gt (pe_callB call_len_str rfl mb_len L3.bt_len (pa_cons (pv 0) pa_nil)) pe_int (nomark _))))) (pss_one (ps_ret (pe_un un_neg pe_int))) pss_nil)
    (pss_one (ps_ret (pe_callTy call_intT rfl mb_int L3.bt_int (pa_cons (pv 0) pa_nil))))))), ?_⟩
  have hs := sg_len z
  unfold lfig at q
  refine ⟨_, rfl, z, rfl, small4 hl, _, _, rfl, rfl, _, rfl, ite_dec (fun c => ?_) fun c1 => ?_⟩
  · rw [if_pos (.inl (by omega))] at q; exact iteT ⟨_, rfl, q⟩
  refine ⟨_, rfl, z, rfl, small4 hl, _, _, rfl, rfl, _, rfl, ite_dec (fun c => ?_) fun c2 => ?_⟩
  · rw [if_pos (.inr (by omega))] at q; exact ⟨_, rfl, q⟩
  rw [if_neg (by rintro (y | y) <;> omega)] at q
  refine ⟨_, rfl, z, rfl, ?_⟩
  refine for_str (fun i σ H' => H = H' ∧ (∀ c ∈ (sg z).take i, 48 ≤ c ∧ c ≤ 57) ∧ ∃ o, σ = [some (.str z), o]) ⟨rfl, by simp, _, rfl⟩ (fun i c σ H' hc h => ?_) fun σ H' h => ?_
  · obtain ⟨rfl, hd, o, rfl⟩ := h
    refine ⟨_, rfl, _, _, rfl, rfl, _, rfl, ?_⟩
    rw [in_figures]
    by_cases d : 48 ≤ c ∧ c ≤ 57
    · rw [decide_eq_true d]
      refine iteF ⟨rfl, fun y hy => ?_, _, rfl⟩
      rw [List.take_add_one, hc] at hy
      rcases List.mem_append.mp hy with m | m
      · exact hd y m
      · have : y = c := by simpa using m
        rw [this]; exact d
    · rw [decide_eq_false d]
      refine iteT ?_
      rw [if_pos (fun all => d (all c (List.mem_of_getElem? hc)))] at q
      exact ⟨_, rfl, q⟩
  · obtain ⟨rfl, hd, o, rfl⟩ := h
    rw [List.take_length] at hd
    have hdd : NumText.AllDigits (sg z) := hd
    rw [if_neg (not_not_intro hdd)] at q
    obtain ⟨d, r, hz⟩ : ∃ d r, sg z = d :: r := by
      cases e : sg z with
      | nil => rw [e] at hs; simp at hs; omega
      | cons d r => exact ⟨d, r, rfl⟩
    have a0 : atI (sg z) 0 = some d := atI_nat (j := 0) (by rw [hz]; rfl)
    refine ⟨_, rfl, z, 0, d, rfl, rfl, small4 hl, a0, rfl, _, rfl, ?_⟩
    by_cases h48 : d = 48
    · refine iteA (decide_eq_true (by rw [h48]; exact congrArg V.str (by decide +kernel))) ?_
      refine ⟨_, rfl, z, rfl, small4 hl, _, _, rfl, rfl, _, rfl, ite_dec (fun c => ?_) fun c3 => ?_⟩
      · rw [if_pos ⟨by rw [hz, h48]; rfl, by omega⟩] at q; exact ⟨_, rfl, q⟩
      · rw [if_neg (fun y => by have := y.2; omega)] at q
        exact ⟨_, rfl, z, _, rfl, intText_digits hdd (show sg z ≠ [] by rw [hz]; simp) (by omega), by omega, q⟩
    · refine iteB (decide_eq_false fun y => h48 ?_) ?_
      · have y2 := congrArg sg (V.str.inj y)
        have y3 : [d] = [48] := y2.trans (by decide +kernel)
        simpa using y3
      · rw [if_neg (fun y => h48 (by have := y.1; rw [hz] at this; exact Option.some.inj this))] at q
        exact ⟨_, rfl, z, _, rfl, intText_digits hdd (show sg z ≠ [] by rw [hz]; simp) (by omega), by omega, q⟩
/- _law_number_of -/
theorem cal__law_number_of (D : Dfn K mg "_law_number_of" s__law_number_of ["word"] f fd) (C1 : Cal P w K mg base "_law_figures" ["word"] 1 spFigures) (mb_abs : mg "abs" = none) : Cal P w K mg base "_law_number_of" ["word"] 2 spNumberOf := by
  obtain ⟨_, _, G__law_figures, b__law_figures, k__law_figures, m__law_figures⟩ := C1.ex
  refine D.cal (D.F.ok sc__law_number_of (fun vs H Q E h => ?_) (fun cdv A outer s H vs Q E hr h => ?_))
  · obtain ⟨z, rfl, _⟩ := h; rfl
  obtain ⟨z, rfl, hl, q⟩ := h
  refine ⟨_, (pss_cons (ps_set (i := 1) sc__law_number_of.nd rfl (Or.inl rfl) (pe_call G__law_figures hr rfl m__law_figures k__law_figures b__law_figures .nil pass0 (pa_cons (pv 0) pa_nil)))
    (pss_cons (ps_join (ps_if (pt_cmpR op_eq (pe_slice sl_str (pv 0) po_none (po_some pe_int)) pe_str (nomark _)) (pss_cons (ps_set (i := 1) sc__law_number_of.nd rfl (Or.inl rfl) (pe_call G__law_figures hr rfl m__law_figures k__law_figures b__law_figures .nil pass0 (pa_cons (pe_slice sl_str (pv 0) (po_some pe_int) po_none) pa_nil)))
    (pss_cons (ps_if (pt_cmpR op_lt (pv 1) pe_int (nomark _)) (pss_one (ps_ret pe_non)) pss_nil)
    (pss_one (ps_set (i := 1) sc__law_number_of.nd rfl (Or.inl rfl) (pe_un un_neg (pv 1)))))) (pss_one (ps_if (pt_cmpR op_lt (pv 1) pe_int (nomark _)) (pss_one (ps_ret pe_non)) pss_nil))))
    (pss_one (ps_ret (pe_ifExp (pt_cmpR op_gt (pe_callB call_abs rfl mb_abs L3.bt_abs (pa_cons (pv 1) pa_nil)) (pe_op op_pow pe_int pe_int) (nomark _)) pe_non (pv 1)))))), ?_⟩
  have hs := sg_len z
  rw [rd_law] at q
  refine ⟨_, rfl, z, rfl, hl, ?_⟩
  refine ⟨fun σ H' => H = H' ∧ ∃ m : Int, (if 10 ^ 12 < (if m < 0 then -m else m) then Q .non H else Q (.int m) H) ∧ σ = [some (.str z), some (.int m)], fun σ' H' h => ?_, ?_⟩
  · obtain ⟨rfl, m, hm, rfl⟩ := h
    refine ⟨_, rfl, m, rfl, _, _, rfl, rfl, ⟨by decide, by decide, by decide⟩, _, _, rfl, rfl, _, rfl, ite_dec (fun c => ?_) fun c => ?_⟩
    · rw [if_pos (by simpa using c)] at hm; exact hm
    · rw [if_neg (by simpa using c)] at hm; exact ⟨_, rfl, hm⟩
  refine ⟨_, rfl, 1, rfl, z, rfl, hl, rfl, _, rfl, ?_⟩
  have e1 : decide (V.str (StrLaws.sliceText z none (some 1)) = V.str "-") = decide ((sg z).head? = some 45) := by
    rw [decide_eq_decide]
    cases e : sg z with
    | nil =>
      have hz : z = mkS [] := sg_inj (by rw [e, sg_mk])
      constructor
      · intro y
        rw [hz] at y
        exact absurd (V.str.inj y) (by decide +kernel)
      · intro y; cases y
    | cons d r =>
      have hsl : StrLaws.sliceText z none (some ((1 : Nat) : Int)) = mkS ((sg z).take 1) := slice_to (by rw [e]; simp)
      have hsl' : StrLaws.sliceText z none (some 1) = mkS [d] := by rw [e] at hsl; exact hsl
      rw [hsl']
      constructor
      · intro y
        have y2 : [d] = [45] := (congrArg sg (V.str.inj y)).trans (by decide +kernel)
        have : d = 45 := by simpa using y2
        rw [this]; rfl
      · intro y
        have : d = 45 := Option.some.inj y
        rw [this]
        exact congrArg V.str (sg_inj (by decide +kernel))
  rw [e1]
  by_cases c : (sg z).head? = some 45
  · rw [if_pos c] at q
    rw [decide_eq_true c]
    refine iteT ?_
    have hne : 1 ≤ (sg z).length := by
      cases hh : sg z with
      | nil => rw [hh] at c; cases c
      | cons a r => simp
    have hsl : StrLaws.sliceText z (some ((1 : Nat) : Int)) none = mkS ((sg z).drop 1) := slice_from hne
    have hsl' : StrLaws.sliceText z (some 1) none = mkS ((sg z).tail) := by rw [← List.drop_one]; exact hsl
    refine ⟨_, rfl, 1, rfl, z, rfl, hl, ?_⟩
    rw [hsl']
    refine ⟨_, rfl, by rw [mkS_len, List.length_tail]; omega, ?_⟩
    rw [sg_mk]
    refine ⟨_, rfl, _, _, rfl, rfl, _, rfl, ite_dec (fun d => ?_) fun d => ?_⟩
    · rw [if_pos d] at q; exact q
    · replace d : ¬ lfig (sg z).tail < 1 := d
      rw [if_neg d] at q
      refine ⟨_, rfl, _, rfl, rfl, -(lfig (sg z).tail), ?_, rfl⟩
      by_cases d2 : 10 ^ 12 < lfig (sg z).tail
      · rw [if_pos d2] at q
        rw [if_pos (by rw [if_pos (by omega)]; omega)]; exact q
      · rw [if_neg d2] at q
        rw [if_neg (by rw [if_pos (by omega)]; omega)]; exact q
  · rw [if_neg c] at q
    rw [decide_eq_false c]
    refine iteF ?_
    refine ⟨_, rfl, _, _, rfl, rfl, _, rfl, ite_dec (fun d => ?_) fun d => ?_⟩
    · rw [if_pos d] at q; exact q
    · rw [if_neg d] at q
      refine ⟨rfl, _, ?_, rfl⟩
      by_cases d2 : 10 ^ 12 < lfig (sg z)
      · rw [if_pos d2] at q
        rw [if_pos (by rw [if_neg d]; exact d2)]; exact q
      · rw [if_neg d2] at q
        rw [if_neg (by rw [if_neg d]; exact d2)]; exact q
/- _law_due -/
theorem due_none {z a b : List Nat} (hz : z = a ++ 58 :: b) (ha : ¬ 58 ∈ a) (h : lfig a < 1 ∨ 24 < lfig a ∨ rdTail b = none) : rd z = none := by
  cases e : rd z with
  | none => rfl
  | some p =>
    obtain ⟨ns, n⟩ := p
    rw [hz] at e
    obtain ⟨h1, h2, h3, h4⟩ := (due_iff ha ns n).mp e
    rcases h with x | x | x
    · omega
    · omega
    · rw [x] at h4; cases h4
theorem cal__law_due (D : Dfn K mg "_law_due" s__law_due ["text"] f fd) (C1 : Cal P w K mg base "_law_figures" ["word"] 2 spFigures) (C2 : Cal P w K mg base "_law_number_of" ["word"] 2 spNumberOf) (mb_len : mg "len" = none) : Cal P w K mg base "_law_due" ["text"] 3 spDue := by
  obtain ⟨_, _, G__law_figures, b__law_figures, k__law_figures, m__law_figures⟩ := C1.ex
  obtain ⟨_, _, G__law_number_of, b__law_number_of, k__law_number_of, m__law_number_of⟩ := C2.ex
  refine D.cal (D.F.ok sc__law_due (fun vs H Q E h => ?_) (fun cdv A outer s H vs Q E hr h => ?_))
  · obtain ⟨z, rfl, _⟩ := h; rfl
  obtain ⟨z, rfl, hl, q0, q1⟩ := h
  refine ⟨_, (pss_cons (ps_if (pt_cmpR op_lt (pe_bm PySem.F.plainAttrs_str PySem.F.slot_str_find PySem.F.type_str_find mt_find (pv 0) (pa_cons pe_str pa_nil)) pe_int (nomark _)) (pss_one (ps_ret pe_non)) pss_nil)
    (pss_cons (ps_set (i := 1) sc__law_due.nd rfl (Or.inl rfl) (pe_call G__law_figures hr rfl m__law_figures k__law_figures b__law_figures .nil pass0 (pa_cons (pe_slice sl_str (pv 0) po_none (po_some (pe_bm PySem.F.plainAttrs_str PySem.F.slot_str_find PySem.F.type_str_find mt_find (pv 0) (pa_cons pe_str pa_nil)))) pa_nil)))
    (pss_cons (ps_set (i := 2) sc__law_due.nd rfl (Or.inl rfl) (pe_bm PySem.F.plainAttrs_str PySem.F.slot_str_split PySem.F.type_str_split mt_split (pe_slice sl_str (pv 0) (po_some (pe_op op_add (pe_bm PySem.F.plainAttrs_str PySem.F.slot_str_find PySem.F.type_str_find mt_find (pv 0) (pa_cons pe_str pa_nil)) pe_int)) po_none) (pa_cons pe_str pa_nil)))
    (pss_cons (ps_if (PW.pt (pw_or (pt_cmpR op_lt (pv 1) pe_int (nomark _)) (pw_or (pt_cmpR op_gt (pv 1) pe_int (nomark _)) (pw_or (pt_cmpR op_ne (pe_ix (ix_listK K) (pv 2) pe_int (fun _ _ => rfl)) pe_str (nomark _)) (pw_or1 (pt_cmpR op_gt (pe_callB (call_lenK K) rfl mb_len L3.bt_len (pa_cons (pv 2) pa_nil)) pe_int (nomark _))))))) (pss_one (ps_ret pe_non)) pss_nil)
    (pss_cons (ps_setC (i := 3) sc__law_due.nd rfl rfl (cp_mk (N := ["word"]) (ix := []) (pi_listK K (pe_slice (sl_listK K) (pv 2) (po_some pe_int) po_none)) (fun _ _ _ _ => pifs_nil) (fun _ _ _ _ => (pe_call G__law_number_of hr rfl m__law_number_of k__law_number_of b__law_number_of .nil pass0 (pa_cons (pv 0) pa_nil)))))
    (pss_cons (ps_if (pt_cmpR op_gt (pe_callB (call_lenK K) rfl mb_len L3.bt_len (pa_cons (pe_comp (N := ["number"]) (ix := []) (pi_listK K (pv 3)) (fun _ _ _ _ => pifs_one (pt_cmpR op_isN (pv 0) pe_non (nomark _))) (fun _ _ _ _ => (pv 0))) pa_nil)) pe_int (nomark _)) (pss_one (ps_ret pe_non)) pss_nil)
    (pss_one (ps_ret (pe_tup (pa_cons (pv 3) (pa_cons (pv 1) pa_nil))))))))))), ?_⟩
  have hs := sg_len z
  refine ⟨_, rfl, rfl, z, _, rfl, rfl, _, _, rfl, rfl, _, rfl, ?_⟩
  rcases find_colon z with ⟨ef, no⟩ | ⟨i, ef, hi, hz, na⟩
  · rw [ef]
    exact iteA (by decide) (q0 H (Same.refl H) (rd_no_colon no))
  rw [ef]
  refine ite_dec (fun c => by omega) fun _ => ?_
  obtain ⟨a, ea⟩ : ∃ a, a = (sg z).take i := ⟨_, rfl⟩
  obtain ⟨b, eb⟩ : ∃ b, b = (sg z).drop (i + 1) := ⟨_, rfl⟩
  rw [← ea, ← eb] at hz
  rw [← ea] at na
  have la : a.length ≤ 4000 := by rw [ea, List.length_take]; omega
  have lb : b.length ≤ 4000 := by rw [eb, List.length_drop]; omega
  have sA : StrLaws.sliceText z none (some (Txt.find z ":")) = mkS a := by rw [ef, ea]; exact slice_to (by omega)
  have sB : StrLaws.sliceText z (some (Txt.find z ":" + 1)) none = mkS b := by rw [ef, eb]; exact slice_from (i := i + 1) (by omega)
  refine ⟨_, rfl, _, rfl, rfl, z, _, rfl, rfl, _, rfl, z, rfl, hl, ?_⟩
  rw [sA]
  refine ⟨_, rfl, by rw [mkS_len]; exact la, ?_⟩
  rw [sg_mk]
  obtain ⟨n, hn⟩ : ∃ n, n = lfig a := ⟨_, rfl⟩
  rw [← hn]
  refine ⟨_, rfl, _, rfl, rfl, z, _, rfl, rfl, _, _, rfl, rfl, _, rfl, z, rfl, hl, ?_⟩
  rw [sB]
  refine ⟨rfl, _, _, rfl, rfl, by decide +kernel, by rw [mkS_len]; exact lb, fun p hp => ?_⟩
  have es : Txt.split (mkS b) " " = (spl 32 b).map mkS := (split_map (mkS b) 32).trans (by rw [sg_mk])
  rw [es]
  have none_ : (n < 1 ∨ 24 < n ∨ rdTail b = none) → rd (sg z) = none := fun h => due_none hz na (by rw [← hn]; exact h)
  obtain ⟨w0, ws, e32⟩ := spl_cons 32 b
  have et := tail_at e32
  rw [e32]
  have g1 := same_new hp (.lst (((w0 :: ws).map mkS).map V.str))
  have e1 : upd H p (.lst (((w0 :: ws).map mkS).map V.str)) p = some (.lst (((w0 :: ws).map mkS).map V.str)) := upd_same
  generalize upd H p (.lst (((w0 :: ws).map mkS).map V.str)) = H1 at g1 e1 ⊢
  refine ⟨_, rfl, _, _, rfl, rfl, _, rfl, ite_dec (fun c => ?_) fun c1 => ?_⟩
  · exact iteT (q0 H1 g1 (none_ (.inl c)))
  refine ⟨_, rfl, _, _, rfl, rfl, _, rfl, ite_dec (fun c => ?_) fun c2 => ?_⟩
  · exact iteT (q0 H1 g1 (none_ (.inr (.inl c))))
  refine ⟨_, rfl, p, _, 0, .str (mkS w0), rfl, rfl, SqL.of e1, atI_nat (j := 0) rfl, rfl, _, rfl, ?_⟩
  by_cases h0 : w0 = []
  rotate_left
  · refine iteA ?_ (iteT (q0 H1 g1 (none_ (.inr (.inr (by rw [et, if_neg fun y => h0 y.1]))))))
    rw [decide_eq_false]; rfl
    intro y
    have y2 := congrArg sg (V.str.inj y)
    rw [sg_mk] at y2
    exact h0 (y2.trans (by decide +kernel))
  refine iteB (by rw [h0, decide_eq_true (congrArg V.str (show mkS [] = "" by decide +kernel))]; rfl) ?_
  refine ⟨_, rfl, p, _, rfl, .inl (SqL.of e1), _, _, rfl, rfl, _, rfl, ite_dec (fun c => ?_) fun c3 => ?_⟩
  · rw [List.length_map, List.length_map, List.length_cons] at c
    exact q0 H1 g1 (none_ (.inr (.inr (by rw [et, if_neg fun y => by have := y.2; omega]))))
  rw [List.length_map, List.length_map, List.length_cons] at c3
  have hw : ws.length ≤ 60 := by omega
  rw [if_pos ⟨h0, hw⟩] at et
  refine ⟨_, rfl, 1, rfl, p, _, rfl, SqL.of e1, fun r hr2 => ?_⟩
  have ecut : cutV (((w0 :: ws).map mkS).map V.str) (some 1) none = (ws.map mkS).map V.str := by
    unfold cutV
    rw [show (some (1 : Int)) = some (((1 : Nat) : Int)) from rfl, HT.sIx_nat, HT.sIx_none]
    simp only [List.length_map, List.length_cons]
    rw [Nat.min_eq_left (by omega)]
    show List.take _ ((ws.map mkS).map V.str) = _
    exact List.take_of_length_le (by simp)
  rw [ecut]
  have g2 := same_new hr2 (.lst ((ws.map mkS).map V.str))
  refine ⟨r, rfl, ⟨_, SqL.of upd_same⟩, ?_⟩
  have e2 : upd H1 r (.lst ((ws.map mkS).map V.str)) r = some (.lst ((ws.map mkS).map V.str)) := upd_same
  generalize upd H1 r (.lst ((ws.map mkS).map V.str)) = H2 at g2 e2 ⊢
  have lw : ∀ u ∈ ws, u.length ≤ 4000 := fun u hu => by have := spl_len' 32 b u (by rw [e32]; exact List.mem_cons_of_mem _ hu); omega
  refine turns_listI (xs := (ws.map mkS).map V.str) (fun i ys H' => ys = (ws.take i).map (fun u => optV (rdNum u)) ∧ Same H2 H') ⟨rfl, Same.refl H2⟩
    (fun i ys H' _ h => SqL.of (h.2 _ _ e2)) (fun i ys H' hi h => by rw [h.1, List.length_map, List.length_take]; rw [List.length_map, List.length_map] at hi; omega) (fun i x ys H' R1 R2 hx h h1 h2 => ?_) fun ys H' h t ht => ?_
  · obtain ⟨rfl, g⟩ := h
    obtain ⟨wd, hwd, rfl⟩ : ∃ wd, ws[i]? = some wd ∧ V.str (mkS wd) = x := by
      rw [List.getElem?_map, List.getElem?_map] at hx
      cases e : ws[i]? with
      | none => rw [e] at hx; cases hx
      | some b => rw [e] at hx; exact ⟨b, rfl, Option.some.inj hx⟩
    have lwd := lw wd (List.mem_of_getElem? hwd)
    show if (true : Bool) = true then _ else R2 H'
    refine iteA rfl ⟨_, rfl, mkS wd, rfl, by rw [mkS_len]; exact lwd, ?_⟩
    rw [sg_mk]
    refine h1 _ _ ⟨?_, g⟩
    rw [List.take_add_one, hwd, List.map_append]; rfl
  obtain ⟨rfl, g⟩ := h
  have e3 : ws.take ((ws.map mkS).map V.str).length = ws := List.take_of_length_le (by rw [List.length_map, List.length_map]; omega)
  rw [e3]
  obtain ⟨xs, hxs⟩ : ∃ xs, xs = ws.map fun u => optV (rdNum u) := ⟨_, rfl⟩
  rw [← hxs]
  have xl : xs.length ≤ 60 := by rw [hxs, List.length_map]; exact hw
  have G : Same H (upd H' t (.lst xs)) := g1.trans (g2.trans (g.trans (same_new ht _)))
  refine ⟨_, rfl, t, rfl, ⟨_, SqL.of upd_same⟩, ?_⟩
  have e4 : upd H' t (.lst xs) t = some (.lst xs) := upd_same
  generalize upd H' t (.lst xs) = H4 at G e4 ⊢
  refine turns_list (fun x => decide (x = V.non)) (fun x => x) (by omega) (SqL.of e4) (fun x H5 R hx g5 hR => ⟨_, rfl, rfl, _, rfl, hR _ g5⟩) (fun x H5 R hx hb g5 hR => ⟨_, rfl, hR _ g5⟩) fun H5 g5 t5 ht5 => ?_
  have g6 := g5.trans (same_new ht5 (.lst ((xs.filter fun x => decide (x = V.non)).map fun x => x)))
  refine ⟨t5, _, rfl, .inl (SqL.of upd_same), _, _, rfl, rfl, _, rfl, ite_dec (fun c => ?_) fun c => ?_⟩
  · refine q0 _ (G.trans g6) (none_ (.inr (.inr ?_)))
    rw [List.length_map] at c
    obtain ⟨x, hx⟩ := List.exists_mem_of_length_pos (l := xs.filter fun x => decide (x = V.non)) (by omega)
    obtain ⟨m1, m2⟩ := List.mem_filter.mp hx
    rw [hxs] at m1
    obtain ⟨u, hu, eu⟩ := List.mem_map.mp m1
    rw [et]
    refine rdNums_none hu ?_
    cases e : rdNum u with
    | none => rfl
    | some k =>
      rw [e] at eu
      have m3 := of_decide_eq_true m2
      rw [← eu] at m3
      cases m3
  · rw [List.length_map] at c
    have all : ∀ u ∈ ws, rdNum u ≠ none := fun u hu e => by
      apply c
      have : V.non ∈ xs.filter fun x => decide (x = .non) := List.mem_filter.mpr ⟨by rw [hxs]; exact List.mem_map.mpr ⟨u, hu, by rw [e]; rfl⟩, decide_eq_true rfl⟩
      have := List.length_pos_of_mem this
      omega
    obtain ⟨ns, en, em⟩ := rdNums_all all
    have ex : xs = ns.map V.int := by
      have h5 : (ns.map some).map optV = (ws.map rdNum).map optV := by rw [em]
      rw [List.map_map, List.map_map] at h5
      exact hxs.trans h5.symm
    have due : rd (sg z) = some (ns, n) := by rw [hz]; exact (due_iff na ns n).mpr ⟨hn.symm, by omega, by omega, et.trans en⟩
    refine ⟨_, rfl, _, rfl, (by show 2 ≤ sizeLine; decide), fun tt htt => ?_⟩
    have g7 := same_new htt (.tup [.ref t, .int n])
    have e7 := g7 _ _ (g6 _ _ e4)
    exact q1 ns n tt t _ due (G.trans (g6.trans g7)) (e7.trans (congrArg (fun l => some (HO.lst l)) ex)) upd_same
/- _law_cell_at -/
theorem cal__law_cell_at (D : Dfn K mg "_law_cell_at" s__law_cell_at ["script", "k"] f fd) (mb_len : mg "len" = none) : Cal P w K mg base "_law_cell_at" ["script", "k"] 2 (spCell K) := by
  refine D.cal (D.F.ok sc__law_cell_at (fun vs H Q E h => ?_) (fun cdv A outer s H vs Q E hr h => ?_))
  · obtain ⟨a, ns, k, rfl, _⟩ := h; rfl
  obtain ⟨a, ns, k, rfl, hS, h0, q⟩ := h
  refine ⟨_, (pss_cons (ps_if (pt_cmpR op_lt (pv 1) (pe_callB (call_lenK K) rfl mb_len L3.bt_len (pa_cons (pv 0) pa_nil)) (nomark _)) (pss_one (ps_ret (pe_ix (ix_listK K) (pv 0) (pv 1) (fun _ _ => rfl)))) pss_nil)
    (pss_one (ps_ret pe_int))), ?_⟩
  refine ⟨_, rfl, _, rfl, a, _, rfl, .inl hS, _, _, rfl, rfl, _, rfl, ?_⟩
  rw [List.length_map]
  refine ite_dec (fun c => ?_) fun c => ?_
  · have hk : k.toNat < ns.length := by omega
    have e : k = ((k.toNat : Nat) : Int) := by omega
    refine ⟨_, rfl, _, rfl, a, _, k, .int (ns.getD k.toNat 0), rfl, rfl, hS, ?_, q⟩
    have z : atI (ns.map V.int) ((k.toNat : Nat) : Int) = some (.int (ns.getD k.toNat 0)) := atI_nat (by rw [List.getElem?_map]; simp [hk])
    rw [← e] at z
    exact z
  · have e : ns.getD k.toNat 0 = 0 := by
      rw [List.getD_eq_getElem?_getD, List.getElem?_eq_none (by omega)]; rfl
    rw [e] at q
    exact q
/- _law_number_by -/
theorem cal__law_number_by (D : Dfn K mg "_law_number_by" s__law_number_by ["cell", "way"] f fd) : Cal P w K mg base "_law_number_by" ["cell", "way"] 2 spNumByB := by
  refine D.cal (D.F.ok sc__law_number_by (fun vs H Q E h => ?_) (fun cdv A outer s H vs Q E hr h => ?_))
  · obtain ⟨c, y, rfl, _⟩ := h; rfl
  obtain ⟨c, y, rfl, q⟩ := h
  refine ⟨_, (pss_cons (ps_if (pt_cmpR op_eq (pv 1) pe_int (nomark _)) (pss_one (ps_ret (pe_op op_sub (pe_op op_mod (pv 0) pe_int) pe_int))) pss_nil)
    (pss_cons (ps_if (pt_cmpR op_eq (pv 1) pe_int (nomark _)) (pss_one (ps_ret (pe_op op_mod (pv 0) pe_int))) pss_nil)
    (pss_cons (ps_if (pt_cmpR op_eq (pv 1) pe_int (nomark _)) (pss_one (ps_ret (pe_op op_sub (pe_op op_mod (pv 0) (pe_op op_add (pe_op op_mul pe_int (pe_op op_pow pe_int pe_int)) pe_int)) (pe_op op_pow pe_int pe_int)))) pss_nil)
    (pss_one (ps_ret (pe_ix (ix_listK K) (pe_lst (pa_cons (pe_op op_pow pe_int pe_int) (pa_cons (pe_un un_neg (pe_op op_pow pe_int pe_int)) (pa_cons (pe_op op_sub (pe_op op_pow pe_int pe_int) (pe_op op_mod (pe_op op_fdiv (pv 0) pe_int) pe_int)) pa_nil)))) (pe_op op_mod (pv 0) pe_int) (fun _ _ => rfl))))))), ?_⟩
  refine ⟨_, rfl, rfl, _, rfl, ite2 (fun _ => ?_) (fun _ => ?_)⟩
  · exact ⟨_, rfl, _, _, rfl, rfl, (by show (0 : Int) < _; decide), _, _, rfl, rfl, q _ _ ⟨by omega, by omega⟩ (Same.refl H)⟩
  refine ⟨_, rfl, rfl, _, rfl, ite2 (fun _ => ?_) (fun _ => ?_)⟩
  · exact ⟨_, rfl, _, _, rfl, rfl, (by show (0 : Int) < _; decide), q _ _ ⟨by omega, by omega⟩ (Same.refl H)⟩
  refine ⟨_, rfl, rfl, _, rfl, ite2 (fun _ => ?_) (fun _ => ?_)⟩
  · refine ⟨_, rfl, _, _, rfl, rfl, ⟨by decide, by decide, by decide⟩, _, _, rfl, rfl, .inl ⟨by decide, by decide⟩, _, _, rfl, rfl, _, _, rfl, rfl, (by show (0 : Int) < _; decide), _, _, rfl, rfl, ⟨by decide, by decide, by decide⟩, _, _, rfl, rfl, q _ _ ?_ (Same.refl H)⟩
    have e : (10 : Int) ^ Int.toNat 12 = 10 ^ 12 := rfl
    refine ⟨?_, ?_⟩
    · rw [e]; omega
    · rw [e]; omega
  · refine ⟨_, _, rfl, rfl, ⟨by decide, by decide, by decide⟩, _, _, rfl, rfl, ⟨by decide, by decide, by decide⟩, _, rfl, _, _, rfl, rfl, ⟨by decide, by decide, by decide⟩, _, rfl, _, _, rfl, rfl, ⟨by decide, by decide⟩, _, _, rfl, rfl, (by show (0 : Int) < _; decide), _, _, rfl, rfl, (by show 3 ≤ sizeLine; decide), fun p hp => ?_⟩
    refine ⟨_, rfl, _, _, rfl, rfl, (by show (0 : Int) < _; decide), ?_⟩
    have e12 : (10 : Int) ^ Int.toNat 12 = 10 ^ 12 := rfl
    have h3 : c % 3 = 0 ∨ c % 3 = 1 ∨ c % 3 = 2 := by omega
    rcases h3 with e | e | e
    · exact ⟨p, _, 0, _, rfl, congrArg V.int e, SqL.of upd_same, rfl, q _ _ ⟨by rw [e12]; omega, by rw [e12]; omega⟩ (same_new hp _)⟩
    · exact ⟨p, _, 1, _, rfl, congrArg V.int e, SqL.of upd_same, rfl, q _ _ ⟨by rw [e12]; omega, by rw [e12]; omega⟩ (same_new hp _)⟩
    · exact ⟨p, _, 2, _, rfl, congrArg V.int e, SqL.of upd_same, rfl, q _ _ ⟨by rw [e12]; omega, by rw [e12]; omega⟩ (same_new hp _)⟩
/- _law_word_by -/
theorem body__law_word_by : ∃ p1 p2 p3 p4 p5 p6 p7 p8 p9 p10 p11 p12 p13 p14 r1 r2 r3 r4 r5 r6 r7 r8 r9 r10 r11 r12 r13 r14 : Pos, defBody s__law_word_by = [.Assign [.Name "some" r1] (.List [.Constant (.str "-0") 0 p1, .Constant (.str "00") 0 p2, .Constant (.str "01") 0 p3, .Constant (.str "-01") 0 p4, .Constant (.str "+1") 0 p5, .Constant (.str "1_0") 0 p6, .Constant (.str "") 0 p7, .Constant (.str "-") 0 p8, .Constant (.str "1000000000000") 0 p9, .Constant (.str "1000000000001") 0 p10] r2) r3, .Assign [.Name "some" r4] (.BinOp (.Name "some" r5) .Add (.List [.Constant (.str "-1000000000000") 0 p11, .Constant (.str "-1000000000001") 0 p12, .Constant (.str "10000000000000") 0 p13, .Constant (.str "7") 0 p14] r6) r7) r8, .Return (some (.Subscript (.Name "some" r9) (.BinOp (.Name "cell" r10) .Mod (.Constant (.int 14) 0 r11) r12) r13)) r14] := ⟨_, _, _, _, _, _, _, _, _, _, _, _, _, _, _, _, _, _, _, _, _, _, _, _, _, _, _, _, rfl⟩
theorem body2__law_word_by : ∃ (zs ys : List (Str × Pos)) (r1 r2 r3 r4 r5 r6 r7 r8 r9 r10 r11 r12 r13 r14 : Pos), defBody s__law_word_by = [.Assign [.Name "some" r1] (.List (zs.map fun z => Expr.Constant (.str z.1) 0 z.2) r2) r3, .Assign [.Name "some" r4] (.BinOp (.Name "some" r5) .Add (.List (ys.map fun z => Expr.Constant (.str z.1) 0 z.2) r6) r7) r8, .Return (some (.Subscript (.Name "some" r9) (.BinOp (.Name "cell" r10) .Mod (.Constant (.int 14) 0 r11) r12) r13)) r14] ∧ zs.length = 10 ∧ ys.length = 4 ∧ (∀ z ∈ zs, z.1.length ≤ 16) ∧ ∀ z ∈ ys, z.1.length ≤ 16 := by
  obtain ⟨p1, p2, p3, p4, p5, p6, p7, p8, p9, p10, p11, p12, p13, p14, r1, r2, r3, r4, r5, r6, r7, r8, r9, r10, r11, r12, r13, r14, hb⟩ := body__law_word_by
  refine ⟨[("-0", p1), ("00", p2), ("01", p3), ("-01", p4), ("+1", p5), ("1_0", p6), ("", p7), ("-", p8), ("1000000000000", p9), ("1000000000001", p10)], [("-1000000000000", p11), ("-1000000000001", p12), ("10000000000000", p13), ("7", p14)], r1, r2, r3, r4, r5, r6, r7, r8, r9, r10, r11, r12, r13, r14, hb, rfl, rfl, ?_, ?_⟩
  · intro z hz
    simp only [List.mem_cons, List.not_mem_nil, or_false] at hz
    rcases hz with rfl | rfl | rfl | rfl | rfl | rfl | rfl | rfl | rfl | rfl <;> (dsimp only; decide +kernel)
  · intro z hz
    simp only [List.mem_cons, List.not_mem_nil, or_false] at hz
    rcases hz with rfl | rfl | rfl | rfl <;> (dsimp only; decide +kernel)
theorem cal__law_word_by (D : Dfn K mg "_law_word_by" s__law_word_by ["cell"] f fd) : Cal P w K mg base "_law_word_by" ["cell"] 1 (spSome 16) := by
  refine D.cal (D.F.ok sc__law_word_by (fun vs H Q E h => ?_) (fun cdv A outer s H vs Q E hr h => ?_))
  · obtain ⟨c, rfl, _⟩ := h; rfl
  obtain ⟨c, rfl, q⟩ := h
  obtain ⟨zs, ys, r1, r2, r3, r4, r5, r6, r7, r8, r9, r10, r11, r12, r13, r14, hb, z10, y4, hz, hy⟩ := body2__law_word_by
  rw [hb]
  refine ⟨_, (pss_cons (ps_set (i := 1) sc__law_word_by.nd rfl (Or.inl rfl) (pe_lst (pa_strs zs)))
    (pss_cons (ps_set (i := 1) sc__law_word_by.nd rfl (Or.inl rfl) (pe_op op_cat (pv 1) (pe_lst (pa_strs ys))))
    (pss_one (ps_ret (pe_ix (ix_listK K) (pv 1) (pe_op op_mod (pv 0) pe_int) (fun _ _ => rfl)))))), ?_⟩
  obtain ⟨us, hus⟩ : ∃ us : List V, us = zs.map fun z => V.str z.1 := ⟨_, rfl⟩
  obtain ⟨vs, hvs⟩ : ∃ vs : List V, vs = ys.map fun z => V.str z.1 := ⟨_, rfl⟩
  have u10 : us.length = 10 := by rw [hus, List.length_map]; exact z10
  have v4 : vs.length = 4 := by rw [hvs, List.length_map]; exact y4
  refine ⟨small4 (by rw [List.length_map]; omega), fun p hp => ?_⟩
  refine ⟨_, rfl, small4 (by rw [List.length_map]; omega), fun p2 hp2 => ?_⟩
  rw [← hus, ← hvs]
  rw [← hus] at hp2
  have ne : p ≠ p2 := fun z => by subst z; rw [upd_same] at hp2; cases hp2
  refine ⟨p, p2, _, _, rfl, rfl, (by rw [upd_ne ne]; exact upd_same), upd_same, small4 (by omega), fun l hl => ?_⟩
  refine ⟨_, rfl, _, rfl, _, _, rfl, rfl, (by show (0 : Int) < _; decide), ?_⟩
  refine ix_pick (n := 14) (by rw [List.length_append]; omega) (by omega) (by omega) fun v hv => ?_
  have hG := (same_new hp (.lst us)).trans ((same_new hp2 (.lst vs)).trans (same_new hl (.lst (us ++ vs))))
  rcases List.mem_append.mp hv with m | m
  · rw [hus] at m
    obtain ⟨z, mz, rfl⟩ := List.mem_map.mp m
    exact q _ _ (hz z mz) hG
  · rw [hvs] at m
    obtain ⟨z, mz, rfl⟩ := List.mem_map.mp m
    exact q _ _ (hy z mz) hG
/- _law_round_by -/
theorem body__law_round_by : ∃ p1 p2 p3 p4 p5 p6 p7 p8 p9 p10 p11 p12 p13 p14 p15 p16 p17 p18 : Pos, defBody s__law_round_by = [.Return (some (.Subscript (.List [.Constant (.str "0") 0 p1, .Constant (.str "25") 0 p2, .Constant (.str "24") 0 p3, .Constant (.str "1") 0 p4, .Constant (.str "-1") 0 p5, .Constant (.str "01") 0 p6, .Constant (.str "") 0 p7, .Constant (.str "1_0") 0 p8, .Constant (.str "+7") 0 p9, .Constant (.str "100") 0 p10, .Constant (.str " 7") 0 p11, .Constant (.str "7 ") 0 p12] p13) (.BinOp (.Name "cell" p14) .Mod (.Constant (.int 12) 0 p15) p16) p17)) p18] := ⟨_, _, _, _, _, _, _, _, _, _, _, _, _, _, _, _, _, _, rfl⟩
theorem body2__law_round_by : ∃ (zs : List (Str × Pos)) (p13 p14 p15 p16 p17 p18 : Pos), defBody s__law_round_by = [.Return (some (.Subscript (.List (zs.map fun z => Expr.Constant (.str z.1) 0 z.2) p13) (.BinOp (.Name "cell" p14) .Mod (.Constant (.int 12) 0 p15) p16) p17)) p18] ∧ zs.length = 12 ∧ ∀ z ∈ zs, z.1.length ≤ 16 := by
  obtain ⟨p1, p2, p3, p4, p5, p6, p7, p8, p9, p10, p11, p12, p13, p14, p15, p16, p17, p18, hb⟩ := body__law_round_by
  refine ⟨[("0", p1), ("25", p2), ("24", p3), ("1", p4), ("-1", p5), ("01", p6), ("", p7), ("1_0", p8), ("+7", p9), ("100", p10), (" 7", p11), ("7 ", p12)], p13, p14, p15, p16, p17, p18, hb, rfl, ?_⟩
  intro z hz
  simp only [List.mem_cons, List.not_mem_nil, or_false] at hz
  rcases hz with rfl | rfl | rfl | rfl | rfl | rfl | rfl | rfl | rfl | rfl | rfl | rfl <;> (dsimp only; decide +kernel)
theorem cal__law_round_by (D : Dfn K mg "_law_round_by" s__law_round_by ["cell"] f fd) : Cal P w K mg base "_law_round_by" ["cell"] 1 (spSome 16) := by
  refine D.cal (D.F.ok sc__law_round_by (fun vs H Q E h => ?_) (fun cdv A outer s H vs Q E hr h => ?_))
  · obtain ⟨c, rfl, _⟩ := h; rfl
  obtain ⟨c, rfl, q⟩ := h
  obtain ⟨zs, p13, p14, p15, p16, p17, p18, hb, h12, hz⟩ := body2__law_round_by
  rw [hb]
  refine ⟨_, pss_one (ps_ret (pe_ix (ix_listK K) (pe_lst (pa_strs zs)) (pe_op op_mod (pv 0) pe_int) (fun _ _ => rfl))), ?_⟩
  refine ⟨small4 (by rw [List.length_map]; omega), fun p hp => ?_⟩
  refine ⟨_, rfl, _, _, rfl, rfl, (by show (0 : Int) < _; decide), ?_⟩
  refine ix_pick (n := 12) (by rw [List.length_map]; exact h12) (by omega) (by omega) fun v hv => ?_
  obtain ⟨z, m, rfl⟩ := List.mem_map.mp hv
  exact q _ _ (hz z m) (same_new hp _)
/- _law_sign_by -/
theorem cal__law_sign_by (D : Dfn K mg "_law_sign_by" s__law_sign_by ["cell"] f fd) : Cal P w K mg base "_law_sign_by" ["cell"] 1 (spSome 16) := by
  refine D.cal (D.F.ok sc__law_sign_by (fun vs H Q E h => ?_) (fun cdv A outer s H vs Q E hr h => ?_))
  · obtain ⟨c, rfl, _⟩ := h; rfl
  obtain ⟨c, rfl, q⟩ := h
  refine ⟨_, (pss_cons (ps_set (i := 1) sc__law_sign_by.nd rfl (Or.inl rfl) pe_str)
    (pss_cons (ps_set (i := 1) sc__law_sign_by.nd rfl (Or.inl rfl) (pe_op op_add_str (pv 1) pe_str))
    (pss_one (ps_ret (pe_ix ix_str (pv 1) (pe_op op_mod (pv 0) pe_int) (fun _ _ => rfl)))))), ?_⟩
  refine ⟨_, rfl, _, _, rfl, rfl, small4 (by decide +kernel), ?_⟩
  refine ⟨_, rfl, _, rfl, _, _, rfl, rfl, (by show (0 : Int) < _; decide), ?_⟩
  generalize hz : ((_ : Str) ++ (_ : Str)) = z
  have hl : (sg z).length = 94 := by rw [← hz]; decide +kernel
  have hlen := sg_len z
  have h0 : 0 ≤ c % 94 := by omega
  have hi : (c % 94).toNat < (sg z).length := by omega
  obtain ⟨y, hy⟩ : ∃ y, (sg z)[(c % 94).toNat]? = some y := ⟨_, List.getElem?_eq_getElem hi⟩
  have e : atI (sg z) (c % 94) = some y := by
    have := atI_nat (xs := sg z) hy
    rw [show (((c % 94).toNat : Nat) : Int) = c % 94 by omega] at this
    exact this
  exact ⟨z, c % 94, y, rfl, rfl, small4 (by omega), e, q _ _ (by show 1 ≤ 16; decide) (Same.refl H)⟩
/- _law_spoiled -/
theorem cal__law_spoiled (D : Dfn K mg "_law_spoiled" s__law_spoiled ["text", "cell"] f fd) (C1 : Cal P w K mg base "_law_sign_by" ["cell"] 1 (spSome 16)) (C2 : Cal P w K mg base "_law_word_by" ["cell"] 1 (spSome 16)) (C3 : Cal P w K mg base "_law_round_by" ["cell"] 1 (spSome 16))
    (mb_len : mg "len" = none) : Cal P w K mg base "_law_spoiled" ["text", "cell"] 2 spSpoiled := by
  obtain ⟨_, _, G__law_sign_by, b__law_sign_by, k__law_sign_by, m__law_sign_by⟩ := C1.ex
  obtain ⟨_, _, G__law_word_by, b__law_word_by, k__law_word_by, m__law_word_by⟩ := C2.ex
  obtain ⟨_, _, G__law_round_by, b__law_round_by, k__law_round_by, m__law_round_by⟩ := C3.ex
  refine D.cal (D.F.ok sc__law_spoiled (fun vs H Q E h => ?_) (fun cdv A outer s H vs Q E hr h => ?_))
  · obtain ⟨z, c, rfl, _⟩ := h; rfl
  obtain ⟨z, c, rfl, hl, q⟩ := h
  refine ⟨_, (pss_cons (ps_set (i := 2) sc__law_spoiled.nd rfl (Or.inl rfl) (pe_op op_mod (pe_op op_fdiv (pv 1) pe_int) (pe_op op_add (pe_callB call_len_str rfl mb_len L3.bt_len (pa_cons (pv 0) pa_nil)) pe_int)))
    (pss_cons (ps_set (i := 3) sc__law_spoiled.nd rfl (Or.inl rfl) (pe_op op_fdiv (pe_op op_fdiv (pv 1) pe_int) (pe_op op_add (pe_callB call_len_str rfl mb_len L3.bt_len (pa_cons (pv 0) pa_nil)) pe_int)))
    (pss_cons (ps_set (i := 4) sc__law_spoiled.nd rfl (Or.inl rfl) (pe_op op_mod (pv 1) pe_int))
    (pss_cons (ps_if (pt_cmpR op_eq (pv 4) pe_int (nomark _)) (pss_one (ps_ret (pe_op op_add_str (pe_op op_add_str (pe_slice sl_str (pv 0) po_none (po_some (pv 2))) (pe_call G__law_sign_by hr rfl m__law_sign_by k__law_sign_by b__law_sign_by .nil pass0 (pa_cons (pv 3) pa_nil))) (pe_slice sl_str (pv 0) (po_some (pv 2)) po_none)))) pss_nil)
    (pss_cons (ps_if (pt_cmpR op_eq (pv 4) pe_int (nomark _)) (pss_one (ps_ret (pe_op op_add_str (pe_op op_add_str (pe_slice sl_str (pv 0) po_none (po_some (pv 2))) (pe_call G__law_sign_by hr rfl m__law_sign_by k__law_sign_by b__law_sign_by .nil pass0 (pa_cons (pv 3) pa_nil))) (pe_slice sl_str (pv 0) (po_some (pe_op op_add (pv 2) pe_int)) po_none)))) pss_nil)
    (pss_cons (ps_if (pt_cmpR op_eq (pv 4) pe_int (nomark _)) (pss_one (ps_ret (pe_op op_add_str (pe_op op_add_str (pe_slice sl_str (pv 0) po_none (po_some (pv 2))) pe_str) (pe_slice sl_str (pv 0) (po_some (pv 2)) po_none)))) pss_nil)
    (pss_cons (ps_if (pt_cmpR op_eq (pv 4) pe_int (nomark _)) (pss_one (ps_ret (pe_op op_add_str (pe_slice sl_str (pv 0) po_none (po_some (pv 2))) (pe_slice sl_str (pv 0) (po_some (pe_op op_add (pv 2) pe_int)) po_none)))) pss_nil)
    (pss_cons (ps_if (pt_cmpR op_eq (pv 4) pe_int (nomark _)) (pss_one (ps_ret (pe_op op_add_str (pe_call G__law_round_by hr rfl m__law_round_by k__law_round_by b__law_round_by .nil pass0 (pa_cons (pv 3) pa_nil)) (pe_slice sl_str (pv 0) (po_some (pe_bm PySem.F.plainAttrs_str PySem.F.slot_str_find PySem.F.type_str_find mt_find (pv 0) (pa_cons pe_str pa_nil))) po_none)))) pss_nil)
    (pss_cons (ps_if (pt_cmpR op_eq (pv 4) pe_int (nomark _)) (pss_one (ps_ret (pe_op op_add_str (pv 0) (pe_op op_rep_str pe_str (pe_op op_mod (pv 3) pe_int))))) pss_nil)
    (pss_cons (ps_if (pt_cmpR op_eq (pv 4) pe_int (nomark _)) (pss_one (ps_ret (pe_op op_add_str (pe_op op_add_str (pe_slice sl_str (pv 0) po_none (po_some (pv 2))) (pe_ix ix_str pe_str (pe_op op_mod (pv 3) pe_int) (fun _ _ => rfl))) (pe_slice sl_str (pv 0) (po_some (pv 2)) po_none)))) pss_nil)
    (pss_cons (ps_set (i := 5) sc__law_spoiled.nd rfl (Or.inl rfl) (pe_bm PySem.F.plainAttrs_str PySem.F.slot_str_split PySem.F.type_str_split mt_split (pv 0) (pa_cons pe_str pa_nil)))
    (pss_cons (ps_expr (pe_bm PySem.F.plainAttrs_list PySem.F.slot_list_insert PySem.F.type_list_insert mt_insert (pv 5) (pa_cons (pe_op op_add pe_int (pe_op op_mod (pv 2) (pe_callB (call_lenK K) rfl mb_len L3.bt_len (pa_cons (pv 5) pa_nil)))) (pa_cons (pe_call G__law_word_by hr rfl m__law_word_by k__law_word_by b__law_word_by .nil pass0 (pa_cons (pv 3) pa_nil)) pa_nil))))
    (pss_one (ps_ret (pe_bm PySem.F.plainAttrs_str PySem.F.slot_str_join PySem.F.type_str_join (mt_joinK K) pe_str (pa_cons (pv 5) pa_nil)))))))))))))))), ?_⟩
  have la : ∀ x y : Str, (x ++ y).length = x.length + y.length := Str.length_append
  have sl : ∀ lo hi, (StrLaws.sliceText z lo hi).length ≤ 1000 := fun lo hi => Nat.le_trans (slice_len z lo hi) hl
  refine ⟨_, rfl, _, _, rfl, rfl, ⟨by decide, by decide⟩, _, rfl, z, rfl, small4 (by omega), _, _, rfl, rfl, _, _, rfl, rfl, (by show (0 : Int) < _; omega), ?_⟩
  refine ⟨_, rfl, _, _, rfl, rfl, ⟨by decide, by decide⟩, _, rfl, z, rfl, small4 (by omega), _, _, rfl, rfl, _, _, rfl, rfl, ⟨(by show (0 : Int) < _; omega), (by show (_ : Int) < 1073741824; omega)⟩, ?_⟩
  refine ⟨_, rfl, _, _, rfl, rfl, (by show (0 : Int) < _; decide), ?_⟩
  obtain ⟨place, hp⟩ : ∃ p : Int, p = c / 8 % ((z.length : Int) + 1) := ⟨_, rfl⟩
  obtain ⟨rest, hrs⟩ : ∃ p : Int, p = c / 8 / ((z.length : Int) + 1) := ⟨_, rfl⟩
  have p0 : 0 ≤ place := by rw [hp]; exact Int.emod_nonneg _ (by omega)
  have p1 : place ≤ z.length := by have := Int.emod_lt_of_pos (c / 8) (show 0 < (z.length : Int) + 1 by omega); omega
  dsimp only
  rw [← hp, ← hrs]
  refine ⟨_, rfl, rfl, _, rfl, ite2 (fun _ => ?_) fun _ => ?_⟩
  · refine ⟨_, rfl, _, rfl, place, rfl, z, rfl, by omega, _, rfl, rest, rfl, fun y H1 hy g1 => ?_⟩
    have s1 := sl none (some place)
    have s2 := sl (some place) none
    exact ⟨_, _, rfl, rfl, small4 (by omega), _, rfl, _, rfl, place, rfl, z, rfl, by omega, _, _, rfl, rfl, small4 (by rw [la]; omega), q _ _ (by rw [la, la]; omega) g1⟩
  refine ⟨_, rfl, rfl, _, rfl, ite2 (fun _ => ?_) fun _ => ?_⟩
  · refine ⟨_, rfl, _, rfl, place, rfl, z, rfl, by omega, _, rfl, rest, rfl, fun y H1 hy g1 => ?_⟩
    have s1 := sl none (some place)
    have s2 := sl (some (place + 1)) none
    exact ⟨_, _, rfl, rfl, small4 (by omega), _, rfl, _, rfl, _, _, rfl, rfl, _, rfl, z, rfl, by omega, _, _, rfl, rfl, small4 (by rw [la]; omega), q _ _ (by rw [la, la]; omega) g1⟩
  refine ⟨_, rfl, rfl, _, rfl, ite2 (fun _ => ?_) fun _ => ?_⟩
  · have s1 := sl none (some place)
    have s2 := sl (some place) none
    have l1 : ("\n" : Str).length = 1 := by decide +kernel
    exact ⟨_, rfl, _, rfl, place, rfl, z, rfl, by omega, _, _, rfl, rfl, small4 (by omega), _, rfl, _, rfl, place, rfl, z, rfl, by omega, _, _, rfl, rfl, small4 (by rw [la]; omega), q _ _ (by rw [la, la]; omega) (Same.refl H)⟩
  refine ⟨_, rfl, rfl, _, rfl, ite2 (fun _ => ?_) fun _ => ?_⟩
  · have s1 := sl none (some place)
    have s2 := sl (some (place + 1)) none
    exact ⟨_, rfl, _, rfl, place, rfl, z, rfl, by omega, _, rfl, _, rfl, _, _, rfl, rfl, _, rfl, z, rfl, by omega, _, _, rfl, rfl, small4 (by omega), q _ _ (by rw [la]; omega) (Same.refl H)⟩
  refine ⟨_, rfl, rfl, _, rfl, ite2 (fun _ => ?_) fun _ => ?_⟩
  · refine ⟨_, rfl, rest, rfl, fun y H1 hy g1 => ?_⟩
    have s2 := sl (some (Txt.find z ":")) none
    exact ⟨_, rfl, _, rfl, rfl, z, _, rfl, rfl, _, rfl, z, rfl, by omega, _, _, rfl, rfl, small4 (by omega), q _ _ (by rw [la]; omega) g1⟩
  refine ⟨_, rfl, rfl, _, rfl, ite2 (fun _ => ?_) fun _ => ?_⟩
  · refine ⟨_, rfl, _, rfl, _, _, rfl, rfl, (by show (0 : Int) < _; decide), ?_⟩
    have h4 : rest % 4 = 0 ∨ rest % 4 = 1 ∨ rest % 4 = 2 ∨ rest % 4 = 3 := by omega
    have ok : ∀ k : Int, k = 0 ∨ k = 1 ∨ k = 2 ∨ k = 3 → MulOk " 5" k ∧ (Txt.mul " 5" k).length ≤ 8 := by
      rintro k (rfl | rfl | rfl | rfl) <;> exact ⟨⟨by decide +kernel, by decide +kernel, by decide +kernel⟩, by decide +kernel⟩
    obtain ⟨o1, o2⟩ := ok _ h4
    exact ⟨_, _, rfl, rfl, o1, _, _, rfl, rfl, small4 (by omega), q _ _ (by rw [la]; omega) (Same.refl H)⟩
  refine ⟨_, rfl, rfl, _, rfl, ite2 (fun _ => ?_) fun _ => ?_⟩
  · have s1 := sl none (some place)
    have s2 := sl (some place) none
    have h6 : (sg ("_ :-+0" : Str)).length = 6 := by decide +kernel
    have h0 : 0 ≤ rest % 6 := by omega
    obtain ⟨y, hy⟩ : ∃ y, (sg ("_ :-+0" : Str))[(rest % 6).toNat]? = some y := ⟨_, List.getElem?_eq_getElem (by omega)⟩
    have e : atI (sg ("_ :-+0" : Str)) (rest % 6) = some y := by
      have := atI_nat (xs := sg ("_ :-+0" : Str)) hy
      rw [show (((rest % 6).toNat : Nat) : Int) = rest % 6 by omega] at this
      exact this
    have l1 : (⟨#[y]⟩ : Str).length = 1 := rfl
    exact ⟨_, rfl, _, rfl, place, rfl, z, rfl, by omega, _, rfl, _, _, rfl, rfl, (by show (0 : Int) < _; decide), _, rest % 6, y, rfl, rfl, small4 (by decide +kernel), e, _, _, rfl, rfl, small4 (by omega), _, rfl, _, rfl, place, rfl, z, rfl, by omega, _, _, rfl, rfl, small4 (by rw [la]; omega), q _ _ (by rw [la, la]; omega) (Same.refl H)⟩
  -- a word put in
  refine ⟨_, rfl, rfl, z, _, rfl, rfl, by decide +kernel, by omega, fun p hpn => ?_⟩
  have es : Txt.split z " " = (spl 32 (sg z)).map mkS := split_map z 32
  rw [es]
  obtain ⟨ts, hts⟩ : ∃ ts, ts = (spl 32 (sg z)).map mkS := ⟨_, rfl⟩
  rw [← hts]
  have hs := sg_len z
  have cnt : ts.length ≤ 1001 := by rw [hts, List.length_map]; have := spl_count 32 (sg z); omega
  have pos : 0 < ts.length := by rw [hts, List.length_map]; exact List.length_pos_iff.mpr (spl_ne 32 _)
  have tl : ∀ y ∈ ts, y.length ≤ 1000 := fun y hy => by
    rw [hts] at hy
    obtain ⟨w, hw, rfl⟩ := List.mem_map.mp hy
    rw [mkS_len]
    have := spl_len' 32 (sg z) w hw
    omega
  have tot : (ts.map (·.length)).sum ≤ 1001 := by
    have h1 := spl_sum 32 (sg z)
    have h2 : ts.map (·.length) = (spl 32 (sg z)).map List.length := by
      rw [hts, List.map_map]
      exact List.map_congr_left fun w _ => mkS_len w
    rw [h2]; omega
  have e1 : upd H p (.lst (ts.map V.str)) p = some (.lst (ts.map V.str)) := upd_same
  have g1 := same_new hpn (.lst (ts.map V.str))
  generalize upd H p (.lst (ts.map V.str)) = H1 at e1 g1 ⊢
  refine ⟨_, rfl, .inl ⟨rfl, _, SqL.of e1⟩, _, rfl, _, rfl, p, _, rfl, .inl (SqL.of e1), _, _, rfl, rfl, (by show (0 : Int) < _; rw [List.length_map]; omega), _, _, rfl, rfl, _, rfl, rest, rfl, fun y H2 hy g2 => ?_⟩
  rw [List.length_map]
  obtain ⟨i, hi⟩ : ∃ i : Int, i = 1 + place % (ts.length : Int) := ⟨_, rfl⟩
  have i0 : 0 ≤ i := by have := Int.emod_nonneg place (show (ts.length : Int) ≠ 0 by omega); omega
  have i1 : i ≤ ts.length := by have := Int.emod_lt_of_pos place (show 0 < (ts.length : Int) by omega); omega
  dsimp only
  rw [← hi]
  refine ⟨p, _, i, _, rfl, rfl, g2 _ _ e1, i0, by rw [List.length_map]; exact i1, by rw [List.length_map]; omega, ?_⟩
  have em : (ts.map V.str).take i.toNat ++ V.str y :: (ts.map V.str).drop i.toNat = (ts.take i.toNat ++ y :: ts.drop i.toNat).map V.str := by
    rw [List.map_append, List.map_cons, List.map_take, List.map_drop]
  rw [em]
  have us : ∀ x ∈ ts.take i.toNat ++ y :: ts.drop i.toNat, x.length ≤ 1000 := fun x hx => by
    rcases List.mem_append.mp hx with m | m
    · exact tl x (List.mem_of_mem_take m)
    · rcases List.mem_cons.mp m with m | m
      · rw [m]; omega
      · exact tl x (List.mem_of_mem_drop m)
  have ul : (ts.take i.toNat ++ y :: ts.drop i.toNat).length = ts.length + 1 := by
    rw [List.length_append, List.length_cons, List.length_take, List.length_drop]; omega
  have usum : ((ts.take i.toNat ++ y :: ts.drop i.toNat).map (·.length)).sum ≤ 1017 := by
    rw [List.map_append, List.map_cons, List.sum_append, List.sum_cons]
    have h3 : ((ts.take i.toNat).map (·.length)).sum + ((ts.drop i.toNat).map (·.length)).sum = (ts.map (·.length)).sum := by
      rw [← List.sum_append, ← List.map_append, List.take_append_drop]
    omega
  have l1 : (" " : Str).length = 1 := by decide +kernel
  refine ⟨rfl, _, rfl, " ", p, _, rfl, rfl, SqL.of upd_same, ?_, q _ _ ?_ (same_upd (g1.trans g2) hpn)⟩
  · unfold JoinOk
    rw [StrLaws.joinFits (B := 1000) us (by rw [ul, l1]; omega)]
    rfl
  · have h4 := StrLaws.join_length_le " " (ts.take i.toNat ++ y :: ts.drop i.toNat)
    show (Builtin.Str.glued " " _).length ≤ 4000
    rw [StrLaws.glued_eq_join]
    rw [ul, l1] at h4
    omega
/- read_number -/
theorem calx_read_number (D : Dfn K mg "read_number" s_read_number ["word"] f fd) {t1 t2 t3 : Tok} (mc_GREATEST_NUMBER : mg "GREATEST_NUMBER" = some (.int 1000000000000 t1)) (mc_MOST_FIGURES : mg "MOST_FIGURES" = some (.int 13 t2)) (mc_FIGURES : mg "FIGURES" = some (.str "0123456789" t3)) (mb_all : mg "all" = none) (mb_len : mg "len" = none) (mb_int : mg "int" = none) {CB CT CR : Addr} (ER : Errs K mg CB CT CR) :
    CalX P w K mg base "read_number" ["word"] 1 (spReadNumX CT) := by
  refine D.calX (okX D.F sc_read_number (fun vs H Q E h => ?_) (fun cdv A outer s H vs Q E hr h => ?_))
  · obtain ⟨w, rfl, _⟩ := h; rfl
  obtain ⟨w, rfl, hl, q, bad⟩ := h
  refine ⟨_, (pss_cons (ps_set (i := 1) sc_read_number.nd rfl (Or.inl rfl) (pe_figs (K := K) (pe_ifExp (pt_val (pe_bm PySem.F.plainAttrs_str PySem.F.slot_str_startswith PySem.F.type_str_startswith mt_startswith (pv 0) (pa_cons pe_str pa_nil))) (pe_slice sl_str (pv 0) (po_some pe_int) po_none) (pv 0))))
    (pss_cons (ps_if (PW.pt (pw_or (pt_cmpR op_eq (pv 1) pe_str (nomark _)) (pw_or1 (pt_not (pt_val (pe_callB (call_allK K rfl) rfl mb_all L3.bt_all (pa_cons (pe_comp (N := ["sign"]) (ix := []) (pi_str (pv 1)) (fun _ _ _ _ => pifs_nil) (fun _ _ _ _ => (pe_cmpR op_in_str (pv 0) (pe_globS rfl mc_FIGURES) rfl))) pa_nil))))))) (pss_one (ps_raise rfl ER.mT ER.xT rfl (pa_cons pe_str pa_nil))) pss_nil)
    (pss_cons (ps_if (PW.pt (pw_and (pt_val (pe_bm PySem.F.plainAttrs_str PySem.F.slot_str_startswith PySem.F.type_str_startswith mt_startswith (pv 1) (pa_cons pe_str pa_nil))) (pw_and1 (pt_cmpR op_ne (pv 0) pe_str (nomark _))))) (pss_one (ps_raise rfl ER.mT ER.xT rfl (pa_cons pe_str pa_nil))) pss_nil)
    (pss_cons (ps_if (PW.pt (pw_or (pt_cmpR op_gt (pe_callB call_len_str rfl mb_len L3.bt_len (pa_cons (pv 1) pa_nil)) (pe_globI rfl mc_MOST_FIGURES) (nomark _)) (pw_or1 (pt_cmpR op_gt (pe_callTy call_intT rfl mb_int L3.bt_int (pa_cons (pv 1) pa_nil)) (pe_globI rfl mc_GREATEST_NUMBER) (nomark _))))) (pss_one (ps_raise rfl ER.mT ER.xT rfl (pa_cons (pe_joined (pj_cons pe_str (pj_cons (pe_fmt (pe_globI rfl mc_GREATEST_NUMBER)) (pj_cons pe_str (pj_cons (pe_fmt (pe_globI rfl mc_GREATEST_NUMBER)) pj_nil))))) pa_nil))) pss_nil)
    (pss_one (ps_ret (pe_callTy call_intT rfl mb_int L3.bt_int (pa_cons (pv 0) pa_nil)))))))), ?_⟩
  have hsw := sg_len w
  obtain ⟨F, hF⟩ : ∃ F, F = figs (sg w) := ⟨_, rfl⟩
  obtain ⟨fg, hfg⟩ : ∃ fg, fg = mkS (figs (sg w)) := ⟨_, rfl⟩
  have sf : sg fg = F := by rw [hfg, sg_mk, hF]
  have lF : F.length ≤ (sg w).length ∧ (sg w).length ≤ F.length + 1 := by
    rw [hF]; unfold figs
    split
    · rw [List.length_tail]; omega
    · omega
  have lf : fg.length = F.length := by have := sg_len fg; rw [sf] at this; omega
  have key : (F = [] ∨ ¬ NumText.AllDigits F ∨ (F.head? = some 48 ∧ sg w ≠ [48]) ∨ 13 < F.length ∨ 10 ^ 12 < NumText.digitsVal F) → rdNum (sg w) = none := fun h => by
    unfold rdNum
    rw [← hF]
    by_cases c1 : F = [] ∨ ¬ NumText.AllDigits F
    · rw [if_pos c1]
    rw [if_neg c1]
    by_cases c2 : F.head? = some 48 ∧ sg w ≠ [48]
    · rw [if_pos c2]
    rw [if_neg c2, if_pos]
    rcases h with h | h | h | h | h
    · exact absurd (.inl h) c1
    · exact absurd (.inr h) c1
    · exact absurd h c2
    · exact .inl h
    · exact .inr h
  have good : F ≠ [] → NumText.AllDigits F → ¬ (F.head? = some 48 ∧ sg w ≠ [48]) → F.length ≤ 13 → NumText.digitsVal F ≤ 10 ^ 12 → ∃ i, rdNum (sg w) = some i := fun h1 h2 h3 h4 h5 => by
    unfold rdNum
    rw [← hF, if_neg (by rintro (y | y); exact h1 y; exact y h2), if_neg h3, if_neg (by rintro (y | y) <;> omega)]
    exact ⟨_, rfl⟩
  refine ⟨w, rfl, hl, ?_⟩
  rw [← hfg]
  by_cases c0 : F = []
  · refine ⟨_, rfl, rfl, _, rfl, iteA (decide_eq_true ?_) (iteT ⟨by decide, bad (key (.inl c0)) _ (Same.refl H)⟩)⟩
    exact congrArg V.str (sg_inj (by rw [sf, c0]; decide +kernel))
  refine ⟨_, rfl, rfl, _, rfl, iteB (decide_eq_false fun z => ?_) ?_⟩
  · have z2 : fg = "" := V.str.inj z
    have : sg fg = [] := by rw [z2]; decide +kernel
    rw [sf] at this; exact c0 this
  refine ⟨_, rfl, fg, rfl, ?_⟩
  refine turns_str (fun c => V.bl (decide (48 ≤ c ∧ c ≤ 57))) (by omega) (fun c H' R hc g hR => hR _ g) (fun c H' R hc g hR => ⟨_, rfl, _, _, rfl, rfl, by rw [in_figures]; exact hR _ g⟩) fun H1 g1 p hp => ?_
  have em : (sg fg).map (fun c => V.bl (decide (48 ≤ c ∧ c ≤ 57))) = ((sg fg).map fun c => decide (48 ≤ c ∧ c ≤ 57)).map V.bl := by rw [List.map_map]; rfl
  rw [em]
  have G := g1.trans (same_new hp (.lst (((sg fg).map fun c => decide (48 ≤ c ∧ c ≤ 57)).map V.bl)))
  refine ⟨p, _, rfl, SqL.of upd_same, _, rfl, ?_⟩
  by_cases c1 : NumText.AllDigits F
  rotate_left
  · have hall : (((sg fg).map fun c => decide (48 ≤ c ∧ c ≤ 57)).all id) = false := by
      rw [Bool.eq_false_iff]
      intro y
      rw [List.all_map, List.all_eq_true] at y
      exact c1 fun c hc => of_decide_eq_true (y c (by rw [sf]; exact hc))
    rw [hall]
    exact iteT ⟨by decide, bad (key (.inr (.inl c1))) _ G⟩
  have hall : (((sg fg).map fun c => decide (48 ≤ c ∧ c ≤ 57)).all id) = true := by
    rw [List.all_map, List.all_eq_true]
    intro c hc
    rw [sf] at hc
    exact decide_eq_true (c1 c hc)
  rw [hall]
  refine iteF ?_
  refine ⟨_, rfl, rfl, fg, _, rfl, rfl, _, rfl, ?_⟩
  have e0 : Txt.startswith fg "0" = decide ((sg fg).head? = some 48) := starts_one fg 48
  rw [e0]
  by_cases c2 : F.head? = some 48 ∧ sg w ≠ [48]
  · rw [decide_eq_true (show (sg fg).head? = some 48 by rw [sf]; exact c2.1)]
    refine iteT ⟨_, rfl, rfl, _, rfl, iteA ?_ ⟨by decide, bad (key (.inr (.inr (.inl c2)))) _ G⟩⟩
    rw [decide_eq_false]
    · rfl
    · intro y; exact c2.2 ((congrArg sg (V.str.inj y)).trans (by decide +kernel))
  have rest : ∀ (R C : Prop), C → (if decide ((sg fg).head? = some 48) = true then (∃ v, some (some (V.str w)) = some (some v) ∧ scal v (V.str "0") = true ∧ ∃ k, V.bl (!decide (v = V.str "0")) = V.bl k ∧ (if k = true then R else C)) else C) := fun R C c => by
    by_cases h0 : (sg fg).head? = some 48
    · rw [decide_eq_true h0]
      refine iteT ⟨_, rfl, rfl, _, rfl, iteB ?_ c⟩
      rw [sf] at h0
      have h1 : sg w = [48] := Decidable.byContradiction fun y => c2 ⟨h0, y⟩
      have : w = "0" := sg_inj (by rw [h1]; decide +kernel)
      rw [this, decide_eq_true rfl]; rfl
    · rw [decide_eq_false h0]
      exact iteF c
  refine rest _ _ ?_
  refine ⟨_, rfl, fg, rfl, small4 (by omega), _, _, rfl, rfl, _, rfl, ite_dec (fun c => ?_) fun c3 => ?_⟩
  · exact iteT ⟨_, rfl, by decide +kernel, 1000000000000, rfl, by decide +kernel, _, rfl, by decide +kernel, _, rfl, by decide +kernel, 1000000000000, rfl, by decide +kernel, _, rfl, by decide +kernel, by decide +kernel, by decide, bad (key (.inr (.inr (.inr (.inl (by omega)))))) _ G⟩
  have a2 := intText_digits (x := fg) (by show NumText.AllDigits (sg fg); rw [sf]; exact c1) (by show sg fg ≠ []; rw [sf]; exact c0) (by omega)
  rw [show fg.cps.toList = F from sf] at a2
  refine ⟨_, rfl, fg, _, rfl, a2, by omega, _, _, rfl, rfl, _, rfl, ite_dec (fun c => ?_) fun c4 => ?_⟩
  · exact ⟨_, rfl, by decide +kernel, 1000000000000, rfl, by decide +kernel, _, rfl, by decide +kernel, _, rfl, by decide +kernel, 1000000000000, rfl, by decide +kernel, _, rfl, by decide +kernel, by decide +kernel, by decide, bad (key (.inr (.inr (.inr (.inr (by omega)))))) _ G⟩
  obtain ⟨i, hi⟩ := good c0 c1 c2 (by omega) (by omega)
  obtain ⟨a1, _⟩ := int_of hi (by omega)
  exact ⟨_, rfl, w, i, rfl, a1, by omega, q i hi _ G⟩
/- is_round -/
theorem cal_is_round (D : Dfn K mg "is_round" s_is_round ["n"] f fd) {t1 t2 : Tok} (mc_LEAST_ROUND : mg "LEAST_ROUND" = some (.int 1 t1)) (mc_GREATEST_ROUND : mg "GREATEST_ROUND" = some (.int 24 t2)) :
    Cal P w K mg base "is_round" ["n"] 1 spIsRound := by
  refine D.cal (D.F.ok sc_is_round (fun vs H Q E h => ?_) (fun cdv A outer s H vs Q E hr h => ?_))
  · obtain ⟨n, rfl, _⟩ := h; rfl
  obtain ⟨n, rfl, q⟩ := h
  refine ⟨_, (pss_one (ps_ret (pe_and (pe_cmpR op_ge (pv 0) (pe_globI rfl mc_LEAST_ROUND) (nomark _)) (pe_one (pe_cmpR op_le (pv 0) (pe_globI rfl mc_GREATEST_ROUND) (nomark _)))))), ?_⟩
  refine ⟨_, rfl, _, _, rfl, rfl, _, rfl, ?_⟩
  refine ite_dec (fun c => ?_) fun c => ?_
  · refine ⟨_, rfl, _, _, rfl, rfl, ?_⟩
    have e : decide (n ≤ 24) = decide (1 ≤ n ∧ n ≤ 24) := by rw [decide_eq_decide]; exact ⟨fun h => ⟨c, h⟩, fun h => h.2⟩
    show Q (.bl (decide (n ≤ 24))) H
    rw [e]; exact q
  · have e : false = decide (1 ≤ n ∧ n ≤ 24) := by symm; rw [decide_eq_false_iff_not]; exact fun h => c h.1
    show Q (.bl false) H
    rw [e]; exact q
/- read_round -/
theorem calx_read_round (D : Dfn K mg "read_round" s_read_round ["word"] f fd) (C2 : Cal P w K mg base "is_round" ["n"] 1 spIsRound) {CB CT CR : Addr} (C1 : CalX P w K mg base "read_number" ["word"] 1 (spReadNumX CT)) (ER : Errs K mg CB CT CR) : CalX P w K mg base "read_round" ["word"] 2 (spReadRoundX CT) := by
  obtain ⟨_, _, X_read_number, bX_read_number, kX_read_number, mX_read_number⟩ := C1.ex
  obtain ⟨_, _, G_is_round, b_is_round, k_is_round, m_is_round⟩ := C2.ex
  refine D.calX (okX D.F sc_read_round (fun vs H Q E h => ?_) (fun cdv A outer s H vs Q E hr h => ?_))
  · obtain ⟨w, rfl, _⟩ := h; rfl
  obtain ⟨w, rfl, hl, q, bad⟩ := h
  refine ⟨_, (pss_cons (ps_set (i := 1) sc_read_round.nd rfl (Or.inl rfl) (pe_call X_read_number hr rfl mX_read_number kX_read_number bX_read_number .nil pass_exc (pa_cons (pv 0) pa_nil)))
    (pss_cons (ps_if (pt_not (pt_val (pe_call G_is_round hr rfl m_is_round k_is_round b_is_round .nil pass0 (pa_cons (pv 1) pa_nil)))) (pss_one (ps_raise rfl ER.mT ER.xT rfl (pa_cons pe_str pa_nil))) pss_nil)
    (pss_one (ps_ret (pv 1))))), ?_⟩
  refine ⟨_, rfl, w, rfl, hl, fun i hi H1 g1 => ?_, fun hn H1 g1 => bad (by unfold rdRound; rw [hn]) H1 g1⟩
  refine ⟨_, rfl, i, rfl, _, rfl, ?_⟩
  by_cases c : 1 ≤ i ∧ i ≤ 24
  · rw [decide_eq_true c]
    exact iteF ⟨_, rfl, q i (by unfold rdRound; rw [hi]; exact if_pos c) H1 g1⟩
  · rw [decide_eq_false c]
    exact iteT ⟨by decide, bad (by unfold rdRound; rw [hi]; exact if_neg c) H1 g1⟩
/- read_numbers -/
theorem calx_read_numbers (D : Dfn K mg "read_numbers" s_read_numbers ["text"] f fd) {CB CT CR : Addr} (C1 : CalX P w K mg base "read_number" ["word"] 1 (spReadNumX CT)) {t1 : Tok} (mc_MOST_NUMBERS : mg "MOST_NUMBERS" = some (.int 60 t1)) (mb_len : mg "len" = none) (ER : Errs K mg CB CT CR) : CalX P w K mg base "read_numbers" ["text"] 2 (spReadNumsX CT) := by
  obtain ⟨_, _, X_read_number, bX_read_number, kX_read_number, mX_read_number⟩ := C1.ex
  refine D.calX (okX D.F sc_read_numbers (fun vs H Q E h => ?_) (fun cdv A outer s H vs Q E hr h => ?_))
  · obtain ⟨z, rfl, _⟩ := h; rfl
  obtain ⟨z, rfl, hl, q, bad⟩ := h
  refine ⟨_, (pss_cons (ps_set (i := 1) sc_read_numbers.nd rfl (Or.inl rfl) (pe_bm PySem.F.plainAttrs_str PySem.F.slot_str_split PySem.F.type_str_split mt_split (pv 0) (pa_cons pe_str pa_nil)))
    (pss_cons (ps_if (pt_cmpR op_ne (pe_ix (ix_listK K) (pv 1) pe_int (fun _ _ => rfl)) pe_str (nomark _)) (pss_one (ps_raise rfl ER.mT ER.xT rfl (pa_cons pe_str pa_nil))) pss_nil)
    (pss_cons (ps_if (pt_cmpR op_gt (pe_op op_sub (pe_callB (call_lenK K) rfl mb_len L3.bt_len (pa_cons (pv 1) pa_nil)) pe_int) (pe_globI rfl mc_MOST_NUMBERS) (nomark _)) (pss_one (ps_raise rfl ER.mT ER.xT rfl (pa_cons (pe_joined (pj_cons pe_str (pj_cons (pe_fmt (pe_globI rfl mc_MOST_NUMBERS)) (pj_cons pe_str pj_nil)))) pa_nil))) pss_nil)
    (pss_one (ps_ret (pe_compX (N := ["word"]) (ix := []) (pi_listK K (pe_slice (sl_listK K) (pv 1) (po_some pe_int) po_none)) (fun _ _ _ _ _ => pifs_nil) (fun _ _ _ _ _ hx => (pe_call X_read_number hr rfl mX_read_number kX_read_number bX_read_number .nil hx (pa_cons (pv 0) pa_nil))))))))), ?_⟩
  have hsz := sg_len z
  refine ⟨_, rfl, rfl, z, _, rfl, rfl, by decide +kernel, hl, fun p hp => ?_⟩
  have es : Txt.split z " " = (spl 32 (sg z)).map mkS := split_map z 32
  rw [es]
  obtain ⟨w0, ws, e32⟩ := spl_cons 32 (sg z)
  have et := tail_at e32
  rw [e32]
  have g1 := same_new hp (.lst (((w0 :: ws).map mkS).map V.str))
  have e1 : upd H p (.lst (((w0 :: ws).map mkS).map V.str)) p = some (.lst (((w0 :: ws).map mkS).map V.str)) := upd_same
  generalize upd H p (.lst (((w0 :: ws).map mkS).map V.str)) = H1 at g1 e1 ⊢
  refine ⟨_, rfl, p, _, 0, .str (mkS w0), rfl, rfl, SqL.of e1, atI_nat (j := 0) rfl, rfl, _, rfl, ?_⟩
  by_cases h0 : w0 = []
  rotate_left
  · refine iteA ?_ ⟨by decide, bad (by rw [et, if_neg fun y => h0 y.1]) _ g1⟩
    rw [decide_eq_false]
    · rfl
    · intro y
      have y2 := congrArg sg (V.str.inj y)
      rw [sg_mk] at y2
      exact h0 (y2.trans (by decide +kernel))
  refine iteB (by rw [h0, decide_eq_true (congrArg V.str (show mkS [] = "" by decide +kernel))]; rfl) ?_
  refine ⟨_, rfl, p, _, rfl, .inl (SqL.of e1), _, _, rfl, rfl, _, _, rfl, rfl, _, rfl, ite_dec (fun c => ?_) fun c3 => ?_⟩
  · rw [List.length_map, List.length_map, List.length_cons] at c
    exact ⟨_, rfl, by decide +kernel, 60, rfl, by decide +kernel, _, rfl, by decide +kernel, _, rfl, by decide +kernel, by decide +kernel, by decide, bad (by rw [et, if_neg fun y => by have := y.2; omega]) _ g1⟩
  rw [List.length_map, List.length_map, List.length_cons] at c3
  have hw : ws.length ≤ 60 := by omega
  rw [if_pos ⟨h0, hw⟩] at et
  refine ⟨_, rfl, 1, rfl, p, _, rfl, SqL.of e1, fun r hr2 => ?_⟩
  have ecut : cutV (((w0 :: ws).map mkS).map V.str) (some 1) none = (ws.map mkS).map V.str := by
    unfold cutV
    rw [show (some (1 : Int)) = some (((1 : Nat) : Int)) from rfl, HT.sIx_nat, HT.sIx_none]
    simp only [List.length_map, List.length_cons]
    rw [Nat.min_eq_left (by omega)]
    show List.take _ ((ws.map mkS).map V.str) = _
    exact List.take_of_length_le (by simp)
  rw [ecut]
  have g2 := same_new hr2 (.lst ((ws.map mkS).map V.str))
  refine ⟨r, rfl, ⟨_, SqL.of upd_same⟩, ?_⟩
  have e2 : upd H1 r (.lst ((ws.map mkS).map V.str)) r = some (.lst ((ws.map mkS).map V.str)) := upd_same
  generalize upd H1 r (.lst ((ws.map mkS).map V.str)) = H2 at g2 e2 ⊢
  have lw : ∀ u ∈ ws, u.length ≤ 4000 := fun u hu => by have := spl_len' 32 (sg z) u (by rw [e32]; exact List.mem_cons_of_mem _ hu); omega
  refine turns_listI (xs := (ws.map mkS).map V.str) (fun i ys H' => ∃ ns, rdNums (ws.take i) = some ns ∧ ys = ns.map V.int ∧ Same H2 H') ⟨[], rfl, rfl, Same.refl H2⟩
    (fun i ys H' _ h => by obtain ⟨ns, _, _, g⟩ := h; exact SqL.of (g _ _ e2)) (fun i ys H' hi h => by obtain ⟨ns, e, rfl, _⟩ := h; have := rdNums_len e; rw [List.length_take] at this; rw [List.length_map]; omega) (fun i x ys H' R1 R2 hx h h1 h2 => ?_) fun ys H' h t ht => ?_
  · obtain ⟨ns, en, rfl, g⟩ := h
    obtain ⟨wd, hwd, rfl⟩ : ∃ wd, ws[i]? = some wd ∧ V.str (mkS wd) = x := by
      rw [List.getElem?_map, List.getElem?_map] at hx
      cases e : ws[i]? with
      | none => rw [e] at hx; cases hx
      | some b => rw [e] at hx; exact ⟨b, rfl, Option.some.inj hx⟩
    have mw := List.mem_of_getElem? hwd
    have lwd := lw wd mw
    show if (true : Bool) = true then _ else R2 H'
    refine iteA rfl ⟨_, rfl, mkS wd, rfl, by rw [mkS_len]; exact lwd, fun y hy H3 g3 => ?_, fun hn H3 g3 => ?_⟩
    · rw [sg_mk] at hy
      refine h1 _ _ ⟨ns ++ [y], ?_, by rw [List.map_append]; rfl, g.trans g3⟩
      rw [List.take_add_one, hwd]
      show rdNums (ws.take i ++ [wd]) = _
      rw [rdNums_app, en, hy]
    · rw [sg_mk] at hn
      exact bad (by rw [et]; exact rdNums_none mw hn) _ (g1.trans (g2.trans (g.trans g3)))
  · obtain ⟨ns, en, rfl, g⟩ := h
    have e3 : ws.take ((ws.map mkS).map V.str).length = ws := List.take_of_length_le (by rw [List.length_map, List.length_map]; omega)
    rw [e3] at en
    exact q ns (by rw [et, en]) t _ (g1.trans (g2.trans (g.trans (same_new ht _)))) ((g1.trans (g2.trans g)).free ht) upd_same
/- read -/
theorem calx_read (D : Dfn K mg "read" s_read ["text"] f fd) {CB CT CR : Addr} (C1 : CalX P w K mg base "read_round" ["word"] 2 (spReadRoundX CT)) (C2 : CalX P w K mg base "read_numbers" ["text"] 2 (spReadNumsX CT)) (mb_len : mg "len" = none) (ER : Errs K mg CB CT CR) : CalX P w K mg base "read" ["text"] 3 (spReadX CT) := by
  obtain ⟨_, _, X_read_round, bX_read_round, kX_read_round, mX_read_round⟩ := C1.ex
  obtain ⟨_, _, X_read_numbers, bX_read_numbers, kX_read_numbers, mX_read_numbers⟩ := C2.ex
  refine D.calX (okX D.F sc_read (fun vs H Q E h => ?_) (fun cdv A outer s H vs Q E hr h => ?_))
  · obtain ⟨z, rfl, _⟩ := h; rfl
  obtain ⟨z, rfl, hl, q, bad⟩ := h
  refine ⟨_, (pss_cons (ps_set (i := 1) sc_read.nd rfl (Or.inl rfl) (pe_bm PySem.F.plainAttrs_str PySem.F.slot_str_split PySem.F.type_str_split mt_split (pv 0) (pa_cons pe_str pa_nil)))
    (pss_cons (ps_if (pt_cmpR op_ne (pe_callB (call_lenK K) rfl mb_len L3.bt_len (pa_cons (pv 1) pa_nil)) pe_int (nomark _)) (pss_one (ps_raise rfl ER.mT ER.xT rfl (pa_cons pe_str pa_nil))) pss_nil)
    (pss_cons (ps_set (i := 2) sc_read.nd rfl (Or.inl rfl) (pe_call X_read_round hr rfl mX_read_round kX_read_round bX_read_round .nil pass_exc (pa_cons (pe_ix (ix_listK K) (pv 1) pe_int (fun _ _ => rfl)) pa_nil)))
    (pss_one (ps_ret (pe_tup (pa_cons (pe_call X_read_numbers hr rfl mX_read_numbers kX_read_numbers bX_read_numbers .nil pass_exc (pa_cons (pe_ix (ix_listK K) (pv 1) pe_int (fun _ _ => rfl)) pa_nil)) (pa_cons (pv 2) pa_nil)))))))), ?_⟩
  have hsz := sg_len z
  refine ⟨_, rfl, rfl, z, _, rfl, rfl, by decide +kernel, hl, fun p hp => ?_⟩
  have es : Txt.split z ":" = (spl 58 (sg z)).map mkS := split_map z 58
  rw [es]
  obtain ⟨ps, hps⟩ : ∃ ps, ps = spl 58 (sg z) := ⟨_, rfl⟩
  rw [← hps]
  have g1 := same_new hp (.lst ((ps.map mkS).map V.str))
  have e1 : upd H p (.lst ((ps.map mkS).map V.str)) p = some (.lst ((ps.map mkS).map V.str)) := upd_same
  generalize upd H p (.lst ((ps.map mkS).map V.str)) = H1 at g1 e1 ⊢
  by_cases c2 : ps.length = 2
  rotate_left
  · refine ⟨_, rfl, p, _, rfl, .inl (SqL.of e1), rfl, _, rfl, iteA ?_ ⟨by decide, bad (rd_not_two (by rw [← hps]; exact c2)) _ g1⟩⟩
    rw [decide_eq_false]
    · rfl
    · intro y
      have y2 := V.int.inj y
      rw [List.length_map, List.length_map] at y2
      omega
  obtain ⟨a, b, hab⟩ : ∃ a b, ps = [a, b] := match ps, c2 with | [a, b], _ => ⟨a, b, rfl⟩
  rw [hab] at hps e1
  have e58 := hps.symm
  have eb := rd_by e58
  have e2 : H1 p = some (.lst [.str (mkS a), .str (mkS b)]) := e1
  have la : (mkS a).length ≤ 4000 := by rw [mkS_len]; have := spl_len' 58 (sg z) a (by rw [e58]; simp); omega
  have lb : (mkS b).length ≤ 4000 := by rw [mkS_len]; have := spl_len' 58 (sg z) b (by rw [e58]; simp); omega
  refine ⟨_, rfl, p, _, rfl, .inl (SqL.of e2), rfl, _, rfl, iteB (by show (!decide (V.int ((2 : Nat) : Int) = V.int 2)) = false; decide) ?_⟩
  refine ⟨_, rfl, p, _, 0, .str (mkS a), rfl, rfl, SqL.of e2, rfl, mkS a, rfl, la, fun n hn H2 g2 => ?_, fun hn H2 g2 => ?_⟩
  · rw [sg_mk] at hn
    refine ⟨_, rfl, p, _, 1, .str (mkS b), rfl, rfl, SqL.of (g2 _ _ e2), rfl, mkS b, rfl, lb, fun ns ht l H3 g3 f3 e3 => ?_, fun ht H3 g3 => ?_⟩
    · rw [sg_mk] at ht
      refine ⟨_, rfl, (by show 2 ≤ sizeLine; decide), fun t ht2 => ?_⟩
      exact q (ns, n) (by rw [eb, hn, ht]) t l _ (g1.trans (g2.trans (g3.trans (same_new ht2 _)))) (by rw [upd_ne (ne_of_none e3 ht2)]; exact e3) upd_same
    · rw [sg_mk] at ht
      exact bad (by rw [eb, hn, ht]) H3 (g1.trans (g2.trans g3))
  · rw [sg_mk] at hn
    exact bad (by rw [eb, hn]) H2 (g1.trans g2)
/- _law_whole -/
theorem cal__law_whole (D : Dfn K mg "_law_whole" s__law_whole ["found"] f fd) (mb_isinstance : mg "isinstance" = none) (mb_int : mg "int" = none) (mb_bool : mg "bool" = none) : Cal P w K mg base "_law_whole" ["found"] 2 spWhole := by
  refine D.cal (D.F.ok sc__law_whole (fun vs H Q E h => ?_) (fun cdv A outer s H vs Q E hr h => ?_))
  · obtain ⟨i, rfl, _⟩ := h; rfl
  obtain ⟨i, rfl, q⟩ := h
  refine ⟨_, (pss_one (ps_ret (pe_and (pe_callB (call_isiK K) rfl mb_isinstance L3.bt_isinstance (pa_cons (pv 0) (pa_cons (pe_ty rfl mb_int L3.bt_int) pa_nil))) (pe_one (pe_not (pe_callB (call_isiK K) rfl mb_isinstance L3.bt_isinstance (pa_cons (pv 0) (pa_cons (pe_ty rfl mb_bool L3.bt_bool) pa_nil)))))))), ?_⟩
  refine ⟨_, rfl, _, _, _, true, rfl, .int i, rfl, true, rfl, ?_⟩
  refine iteT ?_
  exact ⟨_, rfl, _, _, _, false, rfl, .int i, rfl, false, rfl, q⟩
/- _law_is_told -/
theorem cal__law_is_told (D : Dfn K mg "_law_is_told" s__law_is_told ["found", "numbers", "n"] f fd) (C1 : Cal P w K mg base "_law_whole" ["found"] 2 spWhole) (mb_isinstance : mg "isinstance" = none) (mb_tuple : mg "tuple" = none) (mb_len : mg "len" = none) (mb_list : mg "list" = none) : Cal P w K mg base "_law_is_told" ["found", "numbers", "n"] 3 (spIsTold K) := by
  obtain ⟨_, _, G__law_whole, b__law_whole, k__law_whole, m__law_whole⟩ := C1.ex
  refine D.cal (D.F.ok sc__law_is_told (fun vs H Q E h => ?_) (fun cdv A outer s H vs Q E hr h => ?_))
  · obtain ⟨t, l, a, ns, n, rfl, _⟩ := h; rfl
  obtain ⟨t, l, a, ns, n, rfl, et, el, ha, q⟩ := h
  refine ⟨_, (pss_cons (ps_if (PW.pt (pw_or (pt_not (pt_val (pe_callB (call_isiK K) rfl mb_isinstance L3.bt_isinstance (pa_cons (pv 0) (pa_cons (pe_ty rfl mb_tuple L3.bt_tuple) pa_nil))))) (pw_or (pt_cmpR op_ne (pe_callB (call_lenK K) rfl mb_len L3.bt_len (pa_cons (pv 0) pa_nil)) pe_int (nomark _)) (pw_or1 (pt_not (pt_val (pe_callB (call_isiK K) rfl mb_isinstance L3.bt_isinstance (pa_cons (pe_ix (ix_tupK K) (pv 0) pe_int (fun _ _ => rfl)) (pa_cons (pe_ty rfl mb_list L3.bt_list) pa_nil))))))))) (pss_one (ps_ret pe_bl)) pss_nil)
    (pss_cons (ps_for PassesOwn.never rfl (pi_listK K (pe_ix (ix_tupK K) (pv 0) pe_int (fun _ _ => rfl))) (pg_name (i := 3) sc__law_is_told.nd rfl (Or.inl rfl)) (pss_one (ps_if (pt_not (pt_val (pe_call G__law_whole hr rfl m__law_whole k__law_whole b__law_whole .nil pass0 (pa_cons (pv 3) pa_nil)))) (pss_one (ps_ret pe_bl)) pss_nil)))
    (pss_one (ps_ret (pe_and (pe_call G__law_whole hr rfl m__law_whole k__law_whole b__law_whole .nil pass0 (pa_cons (pe_ix (ix_tupK K) (pv 0) pe_int (fun _ _ => rfl)) pa_nil)) (pe_and (pe_cmpR (op_eqLK K hr.units0) (pe_ix (ix_tupK K) (pv 0) pe_int (fun _ _ => rfl)) (pv 1) (nomark _)) (pe_one (pe_cmpR op_eq (pe_ix (ix_tupK K) (pv 0) pe_int (fun _ _ => rfl)) (pv 2) (nomark _))))))))), ?_⟩
  have a0 : atI [V.ref l, V.int n] 0 = some (.ref l) := rfl
  have a1 : atI [V.ref l, V.int n] 1 = some (.int n) := rfl
  refine ⟨_, rfl, _, _, _, true, rfl, .tup et, rfl, true, rfl, iteF ?_⟩
  refine ⟨_, rfl, t, _, rfl, .inr (SqT.of et), rfl, _, rfl, iteB (by show (!decide (V.int ((2 : Nat) : Int) = V.int 2)) = false; decide) ?_⟩
  refine ⟨_, rfl, t, _, 0, _, rfl, rfl, SqT.of et, a0, _, _, _, true, rfl, .lst el, rfl, true, rfl, iteF ?_⟩
  refine ⟨_, rfl, t, _, 0, _, rfl, rfl, SqT.of et, a0, l, rfl, ⟨_, SqL.of el⟩, ?_⟩
  refine for_list (xs := ns.map V.int) (fun i σ H' => H' = H ∧ ∃ o, σ = [some (.ref t), some (.ref a), some (.int n), o]) ⟨rfl, _, rfl⟩ (fun i σ H' _ h => by rw [h.1]; exact SqL.of el) (fun i x σ H' hx h => ?_) fun σ H' h => ?_
  · obtain ⟨rfl, o, rfl⟩ := h
    obtain ⟨y, hy, rfl⟩ : ∃ y, y ∈ ns ∧ V.int y = x := by
      have := List.mem_of_getElem? hx
      simpa using this
    exact ⟨_, rfl, y, rfl, true, rfl, iteF ⟨rfl, _, rfl⟩⟩
  · obtain ⟨rfl, o, rfl⟩ := h
    refine ⟨_, rfl, t, _, 1, _, rfl, rfl, SqT.of et, a1, n, rfl, true, rfl, iteT ?_⟩
    refine ⟨_, rfl, t, _, 0, _, rfl, rfl, SqT.of et, a0, _, rfl, l, a, ns, ns, rfl, rfl, SqL.of el, ha, _, rfl, iteA (by simp) ?_⟩
    refine ⟨_, rfl, t, _, 1, _, rfl, rfl, SqT.of et, a1, _, rfl, rfl, ?_⟩
    rw [decide_eq_true rfl]
    exact q
/- law -/
theorem ok_law (F : Fun K "law" "law" s_law f fd) (C1 : Cal P w K mg base "_law_cell_at" ["script", "k"] 3 (spCell K)) (C2 : Cal P w K mg base "_law_number_by" ["cell", "way"] 3 spNumByB) (C3 : Cal P w K mg base "_law_text" ["numbers", "n"] 3 (spText K)) (C4 : Cal P w K mg base "_law_spoiled" ["text", "cell"] 3 spSpoiled)
    (C5 : Cal P w K mg base "_law_due" ["text"] 3 spDue) (C6 : Cal P w K mg base "_law_is_told" ["found", "numbers", "n"] 3 (spIsTold K)) {CB CT CR : Addr} (C7 : CalX P w K mg base "read" ["text"] 3 (spReadX CT))
    (mb_range : mg "range" = none) (mb_isinstance : mg "isinstance" = none) (mb_ValueError : mg "ValueError" = none) (ER : Errs K mg CB CT CR) : FnOk P w K mg base CX0 4 f fd ["script"] (spLaw K) := by
  obtain ⟨_, _, G__law_cell_at, b__law_cell_at, k__law_cell_at, m__law_cell_at⟩ := C1.ex
  obtain ⟨_, _, G__law_number_by, b__law_number_by, k__law_number_by, m__law_number_by⟩ := C2.ex
  obtain ⟨_, _, G__law_text, b__law_text, k__law_text, m__law_text⟩ := C3.ex
  obtain ⟨_, _, G__law_spoiled, b__law_spoiled, k__law_spoiled, m__law_spoiled⟩ := C4.ex
  obtain ⟨_, _, G__law_due, b__law_due, k__law_due, m__law_due⟩ := C5.ex
  obtain ⟨_, _, G__law_is_told, b__law_is_told, k__law_is_told, m__law_is_told⟩ := C6.ex
  obtain ⟨_, _, X_read, bX_read, kX_read, mX_read⟩ := C7.ex
  obtain ⟨Ew, eEw⟩ : ∃ Ew : Prop × Hp → XK, Ew = fun p c _ H' => c = .ref CT ∧ p.1 ∧ Same p.2 H' := ⟨_, rfl⟩
  have hEw : ∀ (p : Prop × Hp) c d H', Ew p c d H' → PySem.W.exmOne K c (.ref CR) = some true := fun p c d H' h => by rw [eEw] at h; rw [h.1]; exact ER.eT
  have look : ∀ (p : Prop × Hp) C, (∃ H', Ew p (.ref C) none H') → ExcLook K C := fun p C ⟨H', h⟩ => by rw [eEw] at h; cases h.1; exact ER.lT
  refine F.ok sc_law (fun vs H Q E h => ?_) (fun cdv A outer s H vs Q E hr h => ?_)
  · obtain ⟨a, ns, rfl, _⟩ := h; rfl
  obtain ⟨a, ns, rfl, hS, h63, q⟩ := h
  refine ⟨_, (pss_cons (ps_set (i := 1) sc_law.nd rfl (Or.inl rfl) (pe_op op_add pe_int (pe_op op_mod (pe_call G__law_cell_at hr rfl m__law_cell_at k__law_cell_at b__law_cell_at .nil pass0 (pa_cons (pv 0) (pa_cons pe_int pa_nil))) pe_int)))
    (pss_cons (ps_set (i := 2) sc_law.nd rfl (Or.inr rfl) (pe_op op_mod (pe_call G__law_cell_at hr rfl m__law_cell_at k__law_cell_at b__law_cell_at .nil pass0 (pa_cons (pv 0) (pa_cons pe_int pa_nil))) pe_int))
    (pss_cons (ps_join (ps_if (pt_cmpR op_eq (pe_op op_mod (pe_op op_fdiv (pe_call G__law_cell_at hr rfl m__law_cell_at k__law_cell_at b__law_cell_at .nil pass0 (pa_cons (pv 0) (pa_cons pe_int pa_nil))) pe_int) pe_int) pe_int (nomark _)) (pss_one (ps_set (i := 2) sc_law.nd rfl (Or.inr rfl) (pe_op op_add pe_int (pe_op op_mod (pe_op op_fdiv (pe_call G__law_cell_at hr rfl m__law_cell_at k__law_cell_at b__law_cell_at .nil pass0 (pa_cons (pv 0) (pa_cons pe_int pa_nil))) pe_int) pe_int)))) pss_nil))
    (pss_cons (ps_setC (i := 3) sc_law.nd rfl rfl (cp_mk (N := ["k", "script", "count"]) (ix := [0, 2]) (pi_range1 rfl mb_range (pa_cons (pv 2) pa_nil)) (fun _ _ _ _ => pifs_nil) (fun _ _ _ _ => (pe_call G__law_number_by hr rfl m__law_number_by k__law_number_by b__law_number_by .nil pass0 (pa_cons (pe_call G__law_cell_at hr rfl m__law_cell_at k__law_cell_at b__law_cell_at .nil pass0 (pa_cons (pv 1) (pa_cons (pe_op op_add pe_int (pv 0)) pa_nil))) (pa_cons (pe_op op_mod (pe_op op_add (pv 2) (pv 0)) pe_int) pa_nil))))))
    (pss_cons (ps_set (i := 4) sc_law.nd rfl (Or.inl rfl) (pe_call G__law_text hr rfl m__law_text k__law_text b__law_text .nil pass0 (pa_cons (pv 3) (pa_cons (pv 1) pa_nil))))
    (pss_cons (ps_join (ps_if (pt_cmpR op_gt (pe_op op_mod (pe_call G__law_cell_at hr rfl m__law_cell_at k__law_cell_at b__law_cell_at .nil pass0 (pa_cons (pv 0) (pa_cons pe_int pa_nil))) pe_int) pe_int (nomark _)) (pss_one (ps_set (i := 4) sc_law.nd rfl (Or.inl rfl) (pe_call G__law_spoiled hr rfl m__law_spoiled k__law_spoiled b__law_spoiled .nil pass0 (pa_cons (pv 4) (pa_cons (pe_op op_mod (pe_op op_fdiv (pe_call G__law_cell_at hr rfl m__law_cell_at k__law_cell_at b__law_cell_at .nil pass0 (pa_cons (pv 0) (pa_cons pe_int pa_nil))) pe_int) (pe_op op_pow pe_int pe_int)) pa_nil))))) pss_nil))
    (pss_cons (ps_set (i := 5) sc_law.nd rfl (Or.inl rfl) (pe_call G__law_due hr rfl m__law_due k__law_due b__law_due .nil pass0 (pa_cons (pv 4) pa_nil)))
    (pss_cons (ps_set (i := 6) sc_law.nd rfl (Or.inl rfl) pe_non)
    (pss_cons (ps_set (i := 7) sc_law.nd rfl (Or.inl rfl) (pe_lst pa_nil))
    (pss_cons (ps_ex fun p : Prop × Hp => ps_tryC (i := 8) (j := 6) (n := "e") (Ew := Ew p) rfl rfl sc_law.nd rfl rfl rfl (Or.inl rfl) rfl ER.mR (hEw p) X_read hr rfl mX_read kX_read bX_read (fun _ _ => (pa_cons (pv 4) pa_nil)) (fun _ _ ea C oe h1 h2 h4 => (pss_one (ps_set (i := 7) sc_law.nd rfl (Or.inl rfl) (pe_lst (pa_cons (pe_callB (call_isiX h1 h2 K (look p C h4)) rfl mb_isinstance L3.bt_isinstance (pa_cons (pv 8) (pa_cons (pe_cls rfl ER.mT) pa_nil))) (pa_cons (pe_callB (call_isiX h1 h2 K (look p C h4)) rfl mb_isinstance L3.bt_isinstance (pa_cons (pv 8) (pa_cons (pe_ty rfl mb_ValueError PyProof.Rows.Boot.«ValueError») pa_nil))) (pa_cons (pe_callB (call_isiX h1 h2 K (look p C h4)) rfl mb_isinstance L3.bt_isinstance (pa_cons (pv 8) (pa_cons (pe_cls rfl ER.mB) pa_nil))) pa_nil))))))))
    (pss_cons (ps_if (pt_cmpR op_isN (pv 5) pe_non (nomark _)) (pss_one (ps_ret (pe_cmpR (op_eqBK K hr.units0) (pv 7) (pe_lst (pa_cons pe_bl (pa_cons pe_bl (pa_cons pe_bl pa_nil)))) (nomark _)))) pss_nil)
    (pss_one (ps_ret (pe_and (pe_cmpR (op_eqLK K hr.units0) (pv 7) (pe_lst pa_nil) (nomark _)) (pe_one (pe_call G__law_is_told hr rfl m__law_is_told k__law_is_told b__law_is_told .nil pass0 (pa_cons (pv 6) (pa_cons (pe_ix (ix_tupK K) (pv 5) pe_int (fun _ _ => rfl)) (pa_cons (pe_ix (ix_tupK K) (pv 5) pe_int (fun _ _ => rfl)) pa_nil))))))))))))))))))), ?_⟩
  refine ⟨_, rfl, a, ns, 0, rfl, hS, by decide, _, _, rfl, rfl, (by show (0 : Int) < _; decide), _, _, rfl, rfl, ?_⟩
  obtain ⟨n, hn⟩ : ∃ n : Int, n = 1 + ns.getD (Int.toNat 0) 0 % 24 := ⟨_, rfl⟩
  have n1 : 1 ≤ n := by omega
  have n2 : n ≤ 24 := by omega
  dsimp only
  rw [← hn]
  refine ⟨_, rfl, a, ns, 1, rfl, hS, by decide, _, _, rfl, rfl, (by show (0 : Int) < _; decide), ?_⟩
  refine ⟨fun σ H' => H = H' ∧ ∃ count : Int, 0 ≤ count ∧ count ≤ 60 ∧ σ = [some (.ref a), some (.int n), some (.int count), none, none, none, none, none, none], fun σ' H' h => ?_, ?_⟩
  rotate_left
  · refine ⟨_, rfl, a, ns, 1, rfl, hS, by decide, _, _, rfl, rfl, ⟨by decide, by decide⟩, _, _, rfl, rfl, (by show (0 : Int) < _; decide), rfl, _, rfl, ite2 (fun _ => ?_) (fun _ => ?_)⟩
    · refine ⟨_, rfl, a, ns, 1, rfl, hS, by decide, _, _, rfl, rfl, ⟨by decide, by decide⟩, _, _, rfl, rfl, (by show (0 : Int) < _; decide), _, _, rfl, rfl, rfl, _, ?_, ?_, rfl⟩
      · omega
      · omega
    · refine ⟨rfl, _, ?_, ?_, rfl⟩
      · omega
      · omega
  obtain ⟨rfl, count, c0, c1, rfl⟩ := h
  refine ⟨_, rfl, count, rfl, by omega, by omega, ?_⟩
  refine turns_rangeI (fun i ys H' => ∃ zs : List Int, ys = zs.map V.int ∧ zs.length = i ∧ (∀ x ∈ zs, Bd x) ∧ Same H H') ⟨[], rfl, rfl, by simp, Same.refl H⟩
    (fun i ys H' hi h => by obtain ⟨zs, rfl, e, _⟩ := h; rw [List.length_map]; omega) (fun i ys H' R1 R2 hi h h1 h2 => ?_) fun ys H1 h p hp => ?_
  · obtain ⟨zs, rfl, e, hb, g⟩ := h
    show if (true : Bool) = true then _ else R2 H'
    refine iteA rfl ⟨_, rfl, _, rfl, _, _, rfl, rfl, a, ns, _, rfl, g.seq hS, by omega, _, rfl, _, rfl, _, _, rfl, rfl, _, _, rfl, rfl, (by show (0 : Int) < _; decide), _, _, rfl, fun v H3 bv g3 => ?_⟩
    refine h1 _ _ ⟨zs ++ [v], by rw [List.map_append]; rfl, by rw [List.length_append, e]; rfl, fun x hx => ?_, g.trans g3⟩
    rcases List.mem_append.mp hx with m | m
    · exact hb x m
    · have : x = v := by simpa using m
      rw [this]; exact bv
  obtain ⟨zs, rfl, e, hb, g1⟩ := h
  have zl : zs.length ≤ 60 := by omega
  have g2 := same_new hp (.lst (zs.map V.int))
  refine ⟨_, rfl, _, rfl, p, zs, n, rfl, SqL.of upd_same, zl, n1, n2, hb, fun H3 g3 => ?_⟩
  have G := g1.trans (g2.trans g3)
  have tl : (mkS (tx n zs)).length ≤ 1000 := by
    have h1 := tail_len hb
    have h2 := dec_len (i := n) (by omega) (by omega)
    have h3 := sg_len (mkS (tx n zs))
    rw [sg_mk] at h3
    unfold tx at h3 ⊢
    rw [List.length_append, List.length_cons] at h3
    omega
  refine ⟨fun σ H' => ∃ z : Str, z.length ≤ 4000 ∧ σ = [some (.ref a), some (.int n), some (.int count), some (.ref p), some (.str z), none, none, none, none], fun σ' H' h => ?_, ?_⟩
  rotate_left
  · refine ⟨_, rfl, a, ns, 2, rfl, G.seq hS, by decide, _, _, rfl, rfl, (by show (0 : Int) < _; decide), _, _, rfl, rfl, _, rfl, ite_dec (fun _ => ?_) fun _ => ?_⟩
    · exact ⟨_, rfl, _, rfl, a, ns, 2, rfl, G.seq hS, by decide, _, _, rfl, rfl, ⟨by decide, by decide⟩, _, _, rfl, rfl, ⟨by decide, by decide, by decide⟩, _, _, rfl, rfl, (by show (0 : Int) < _; decide), _, _, rfl, tl, fun z' H4 hz' g4 => ⟨z', hz', rfl⟩⟩
    · exact ⟨_, by omega, rfl⟩
  obtain ⟨z, hz, rfl⟩ := h
  refine ⟨_, rfl, z, rfl, hz, fun H5 g5 hno => ?_, fun ms m t5 l5 H5 hrd g5 e5 et5 => ?_⟩
  · refine ⟨(by show 0 ≤ sizeLine; decide), fun l hl => ⟨(rd (sg z) = none, upd H5 l (.lst [])), ⟨_, rfl, z, rfl, hz, fun x hx => ?_, fun hn' H7 g7 => ?_⟩, fun ea C H' h hea => ?_⟩⟩
    · rw [hno] at hx; cases hx
    · rw [eEw]; exact ⟨rfl, hn', g7⟩
    · rw [eEw] at h
      obtain ⟨e, hn', g'⟩ := h
      cases e
      refine ⟨_, rfl, true, ⟨_, rfl, true, ⟨_, rfl, false, ⟨(by show 3 ≤ sizeLine; decide), fun r hr' => ?_⟩, .inl ⟨CB, rfl, ER.tb⟩⟩, .inr ⟨"ValueError", rfl, ER.vT⟩⟩, .inl ⟨CT, rfl, kit_self⟩⟩
      refine ⟨_, rfl, rfl, _, rfl, iteA rfl ?_⟩
      exact ⟨_, rfl, (by show 3 ≤ sizeLine; decide), fun t ht => ⟨r, t, [true, true, false], rfl, rfl, SqL.of (same_new ht _ _ _ upd_same), SqL.of upd_same, q _⟩⟩
  · refine ⟨(by show 0 ≤ sizeLine; decide), fun l hl => ⟨(rd (sg z) = none, upd H5 l (.lst [])), ⟨_, rfl, z, rfl, hz, fun x hx t lf H7 g7 el et => ?_, fun hn' H7 g7 => ?_⟩, fun ea C H' h hea => ?_⟩⟩
    · rw [hrd] at hx
      cases hx
      have gl := same_new hl (.lst [])
      have ll := g7 _ _ (upd_same (H := H5) (a := l) (o := .lst []))
      refine ⟨_, rfl, rfl, _, rfl, iteB rfl ?_⟩
      refine ⟨_, rfl, (by show 0 ≤ sizeLine; decide), fun t' ht' => ⟨l, t', [], [], rfl, rfl, SqL.of (same_new ht' _ _ _ ll), SqL.of upd_same, _, rfl, iteA (by simp) ?_⟩⟩
      have gt := same_new ht' (.lst [])
      have k5 := gt _ _ (g7 _ _ (gl _ _ et5))
      have a0 : atI [V.ref l5, V.int m] 0 = some (.ref l5) := rfl
      have a1 : atI [V.ref l5, V.int m] 1 = some (.int m) := rfl
      exact ⟨_, rfl, _, rfl, t5, _, 0, _, rfl, rfl, SqT.of k5, a0, _, rfl, t5, _, 1, _, rfl, rfl, SqT.of k5, a1, t, lf, l5, ms, m, rfl, gt _ _ et, gt _ _ el, SqL.of (gt _ _ (g7 _ _ (gl _ _ e5))), q _⟩
    · rw [eEw]; exact ⟨rfl, hn', g7⟩
    · rw [eEw] at h
      obtain ⟨e, hn', g'⟩ := h
      rw [hrd] at hn'; cases hn'
end
theorem all_mk {l : PySem.W.OpenLaw} {w : World} {K : PySem.W.Frag} {h : Heap} {mg : Str → Option Value} {fa f1 f2 f3 f4 f5 f6 f7 f8 f9 f10 f11 f12 f13 f14 f15 f16 f17 f18 : Addr} (X : K.In h) (G : h.Ns mainGlobals mg) (hfa : mg "law" = some (.ref fa))
    {od1 an1 od2 an2 od3 an3 od4 an4 od5 an5 od6 an6 od7 an7 od8 an8 od9 an9 od10 an10 od11 an11 od12 an12 od13 an13 od14 an14 od15 an15 od16 an16 od17 an17 od18 an18 : Option Addr} {sl1 sl2 sl3 sl4 sl5 sl6 sl7 sl8 sl9 sl10 sl11 sl12 sl13 sl14 sl15 sl16 sl17 sl18 : Array (Option Value)} {oc1 kV1 dc1 pm1 cd1 ct1 oc2 kV2 dc2 pm2 cd2 ct2 oc3 kV3 dc3 pm3 cd3 ct3 oc4 kV4 dc4 pm4 cd4 ct4 oc5 kV5 dc5 pm5 cd5 ct5 oc6 kV6 dc6 pm6 cd6 ct6 oc7 kV7 dc7 pm7 cd7 ct7 oc8 kV8 dc8 pm8 cd8 ct8 oc9 kV9 dc9 pm9 cd9 ct9 oc10 kV10 dc10 pm10 cd10 ct10 oc11 kV11 dc11 pm11 cd11 ct11 oc12 kV12 dc12 pm12 cd12 ct12 oc13 kV13 dc13 pm13 cd13 ct13 oc14 kV14 dc14 pm14 cd14 ct14 oc15 kV15 dc15 pm15 cd15 ct15 oc16 kV16 dc16 pm16 cd16 ct16 oc17 kV17 dc17 pm17 cd17 ct17 oc18 kV18 dc18 pm18 cd18 ct18 : Value} {t_GREATEST_NUMBER t_MOST_FIGURES t_FIGURES t_LEAST_ROUND t_GREATEST_ROUND t_MOST_NUMBERS : Tok} {CB CT CR : Addr}
    (a1 : PySem.W.nsIn K mainGlobals "_law_text" = some (some (.ref f1))) (l1 : K.lookup f1 = some ⟨oc1, od1, .func (PySem.W.fnOf "_law_text" "_law_text" (defArgs s__law_text) (defBody s__law_text) (defScope s__law_text) .none kV1 dc1 pm1 an1 cd1 ct1), sl1⟩) (c1 : PySem.W.codeIn K cd1 "_law_text" = true) (k1 : PySem.W.keepIn K (.ref f1) = true)
    (a2 : PySem.W.nsIn K mainGlobals "_law_figures" = some (some (.ref f2))) (l2 : K.lookup f2 = some ⟨oc2, od2, .func (PySem.W.fnOf "_law_figures" "_law_figures" (defArgs s__law_figures) (defBody s__law_figures) (defScope s__law_figures) .none kV2 dc2 pm2 an2 cd2 ct2), sl2⟩) (c2 : PySem.W.codeIn K cd2 "_law_figures" = true) (k2 : PySem.W.keepIn K (.ref f2) = true)
    (a3 : PySem.W.nsIn K mainGlobals "_law_number_of" = some (some (.ref f3))) (l3 : K.lookup f3 = some ⟨oc3, od3, .func (PySem.W.fnOf "_law_number_of" "_law_number_of" (defArgs s__law_number_of) (defBody s__law_number_of) (defScope s__law_number_of) .none kV3 dc3 pm3 an3 cd3 ct3), sl3⟩) (c3 : PySem.W.codeIn K cd3 "_law_number_of" = true) (k3 : PySem.W.keepIn K (.ref f3) = true)
    (a4 : PySem.W.nsIn K mainGlobals "_law_due" = some (some (.ref f4))) (l4 : K.lookup f4 = some ⟨oc4, od4, .func (PySem.W.fnOf "_law_due" "_law_due" (defArgs s__law_due) (defBody s__law_due) (defScope s__law_due) .none kV4 dc4 pm4 an4 cd4 ct4), sl4⟩) (c4 : PySem.W.codeIn K cd4 "_law_due" = true) (k4 : PySem.W.keepIn K (.ref f4) = true)
    (a5 : PySem.W.nsIn K mainGlobals "_law_cell_at" = some (some (.ref f5))) (l5 : K.lookup f5 = some ⟨oc5, od5, .func (PySem.W.fnOf "_law_cell_at" "_law_cell_at" (defArgs s__law_cell_at) (defBody s__law_cell_at) (defScope s__law_cell_at) .none kV5 dc5 pm5 an5 cd5 ct5), sl5⟩) (c5 : PySem.W.codeIn K cd5 "_law_cell_at" = true) (k5 : PySem.W.keepIn K (.ref f5) = true)
    (a6 : PySem.W.nsIn K mainGlobals "_law_number_by" = some (some (.ref f6))) (l6 : K.lookup f6 = some ⟨oc6, od6, .func (PySem.W.fnOf "_law_number_by" "_law_number_by" (defArgs s__law_number_by) (defBody s__law_number_by) (defScope s__law_number_by) .none kV6 dc6 pm6 an6 cd6 ct6), sl6⟩) (c6 : PySem.W.codeIn K cd6 "_law_number_by" = true) (k6 : PySem.W.keepIn K (.ref f6) = true)
    (a7 : PySem.W.nsIn K mainGlobals "_law_word_by" = some (some (.ref f7))) (l7 : K.lookup f7 = some ⟨oc7, od7, .func (PySem.W.fnOf "_law_word_by" "_law_word_by" (defArgs s__law_word_by) (defBody s__law_word_by) (defScope s__law_word_by) .none kV7 dc7 pm7 an7 cd7 ct7), sl7⟩) (c7 : PySem.W.codeIn K cd7 "_law_word_by" = true) (k7 : PySem.W.keepIn K (.ref f7) = true)
    (a8 : PySem.W.nsIn K mainGlobals "_law_round_by" = some (some (.ref f8))) (l8 : K.lookup f8 = some ⟨oc8, od8, .func (PySem.W.fnOf "_law_round_by" "_law_round_by" (defArgs s__law_round_by) (defBody s__law_round_by) (defScope s__law_round_by) .none kV8 dc8 pm8 an8 cd8 ct8), sl8⟩) (c8 : PySem.W.codeIn K cd8 "_law_round_by" = true) (k8 : PySem.W.keepIn K (.ref f8) = true)
    (a9 : PySem.W.nsIn K mainGlobals "_law_sign_by" = some (some (.ref f9))) (l9 : K.lookup f9 = some ⟨oc9, od9, .func (PySem.W.fnOf "_law_sign_by" "_law_sign_by" (defArgs s__law_sign_by) (defBody s__law_sign_by) (defScope s__law_sign_by) .none kV9 dc9 pm9 an9 cd9 ct9), sl9⟩) (c9 : PySem.W.codeIn K cd9 "_law_sign_by" = true) (k9 : PySem.W.keepIn K (.ref f9) = true)
    (a10 : PySem.W.nsIn K mainGlobals "_law_spoiled" = some (some (.ref f10))) (l10 : K.lookup f10 = some ⟨oc10, od10, .func (PySem.W.fnOf "_law_spoiled" "_law_spoiled" (defArgs s__law_spoiled) (defBody s__law_spoiled) (defScope s__law_spoiled) .none kV10 dc10 pm10 an10 cd10 ct10), sl10⟩) (c10 : PySem.W.codeIn K cd10 "_law_spoiled" = true) (k10 : PySem.W.keepIn K (.ref f10) = true)
    (a11 : PySem.W.nsIn K mainGlobals "read_number" = some (some (.ref f11))) (l11 : K.lookup f11 = some ⟨oc11, od11, .func (PySem.W.fnOf "read_number" "read_number" (defArgs s_read_number) (defBody s_read_number) (defScope s_read_number) .none kV11 dc11 pm11 an11 cd11 ct11), sl11⟩) (c11 : PySem.W.codeIn K cd11 "read_number" = true) (k11 : PySem.W.keepIn K (.ref f11) = true)
    (a12 : PySem.W.nsIn K mainGlobals "is_round" = some (some (.ref f12))) (l12 : K.lookup f12 = some ⟨oc12, od12, .func (PySem.W.fnOf "is_round" "is_round" (defArgs s_is_round) (defBody s_is_round) (defScope s_is_round) .none kV12 dc12 pm12 an12 cd12 ct12), sl12⟩) (c12 : PySem.W.codeIn K cd12 "is_round" = true) (k12 : PySem.W.keepIn K (.ref f12) = true)
    (a13 : PySem.W.nsIn K mainGlobals "read_round" = some (some (.ref f13))) (l13 : K.lookup f13 = some ⟨oc13, od13, .func (PySem.W.fnOf "read_round" "read_round" (defArgs s_read_round) (defBody s_read_round) (defScope s_read_round) .none kV13 dc13 pm13 an13 cd13 ct13), sl13⟩) (c13 : PySem.W.codeIn K cd13 "read_round" = true) (k13 : PySem.W.keepIn K (.ref f13) = true)
    (a14 : PySem.W.nsIn K mainGlobals "read_numbers" = some (some (.ref f14))) (l14 : K.lookup f14 = some ⟨oc14, od14, .func (PySem.W.fnOf "read_numbers" "read_numbers" (defArgs s_read_numbers) (defBody s_read_numbers) (defScope s_read_numbers) .none kV14 dc14 pm14 an14 cd14 ct14), sl14⟩) (c14 : PySem.W.codeIn K cd14 "read_numbers" = true) (k14 : PySem.W.keepIn K (.ref f14) = true)
    (a15 : PySem.W.nsIn K mainGlobals "read" = some (some (.ref f15))) (l15 : K.lookup f15 = some ⟨oc15, od15, .func (PySem.W.fnOf "read" "read" (defArgs s_read) (defBody s_read) (defScope s_read) .none kV15 dc15 pm15 an15 cd15 ct15), sl15⟩) (c15 : PySem.W.codeIn K cd15 "read" = true) (k15 : PySem.W.keepIn K (.ref f15) = true)
    (a16 : PySem.W.nsIn K mainGlobals "_law_whole" = some (some (.ref f16))) (l16 : K.lookup f16 = some ⟨oc16, od16, .func (PySem.W.fnOf "_law_whole" "_law_whole" (defArgs s__law_whole) (defBody s__law_whole) (defScope s__law_whole) .none kV16 dc16 pm16 an16 cd16 ct16), sl16⟩) (c16 : PySem.W.codeIn K cd16 "_law_whole" = true) (k16 : PySem.W.keepIn K (.ref f16) = true)
    (a17 : PySem.W.nsIn K mainGlobals "_law_is_told" = some (some (.ref f17))) (l17 : K.lookup f17 = some ⟨oc17, od17, .func (PySem.W.fnOf "_law_is_told" "_law_is_told" (defArgs s__law_is_told) (defBody s__law_is_told) (defScope s__law_is_told) .none kV17 dc17 pm17 an17 cd17 ct17), sl17⟩) (c17 : PySem.W.codeIn K cd17 "_law_is_told" = true) (k17 : PySem.W.keepIn K (.ref f17) = true)
    (a18 : PySem.W.nsIn K mainGlobals "law" = some (some (.ref f18))) (l18 : K.lookup f18 = some ⟨oc18, od18, .func (PySem.W.fnOf "law" "law" (defArgs s_law) (defBody s_law) (defScope s_law) .none kV18 dc18 pm18 an18 cd18 ct18), sl18⟩) (c18 : PySem.W.codeIn K cd18 "law" = true) (k18 : PySem.W.keepIn K (.ref f18) = true)
    (q_GREATEST_NUMBER : PySem.W.nsIn K mainGlobals "GREATEST_NUMBER" = some (some (.int 1000000000000 t_GREATEST_NUMBER)))
    (q_MOST_FIGURES : PySem.W.nsIn K mainGlobals "MOST_FIGURES" = some (some (.int 13 t_MOST_FIGURES)))
    (q_FIGURES : PySem.W.nsIn K mainGlobals "FIGURES" = some (some (.str "0123456789" t_FIGURES)))
    (q_LEAST_ROUND : PySem.W.nsIn K mainGlobals "LEAST_ROUND" = some (some (.int 1 t_LEAST_ROUND)))
    (q_GREATEST_ROUND : PySem.W.nsIn K mainGlobals "GREATEST_ROUND" = some (some (.int 24 t_GREATEST_ROUND)))
    (q_MOST_NUMBERS : PySem.W.nsIn K mainGlobals "MOST_NUMBERS" = some (some (.int 60 t_MOST_NUMBERS)))
    (z_str : PySem.W.nsIn K mainGlobals "str" = some none)
    (z_len : PySem.W.nsIn K mainGlobals "len" = some none)
    (z_int : PySem.W.nsIn K mainGlobals "int" = some none)
    (z_abs : PySem.W.nsIn K mainGlobals "abs" = some none)
    (z_all : PySem.W.nsIn K mainGlobals "all" = some none)
    (z_isinstance : PySem.W.nsIn K mainGlobals "isinstance" = some none)
    (z_bool : PySem.W.nsIn K mainGlobals "bool" = some none)
    (z_tuple : PySem.W.nsIn K mainGlobals "tuple" = some none)
    (z_list : PySem.W.nsIn K mainGlobals "list" = some none)
    (z_range : PySem.W.nsIn K mainGlobals "range" = some none)
    (z_ValueError : PySem.W.nsIn K mainGlobals "ValueError" = some none)
    (qB : PySem.W.nsIn K mainGlobals "BadRound" = some (some (.ref CB)))
    (qT : PySem.W.nsIn K mainGlobals "BadText" = some (some (.ref CT)))
    (qR : PySem.W.nsIn K mainGlobals "RestError" = some (some (.ref CR)))
    (xB : PySem.W.excIn K CB [.type "ValueError", .type "Exception", .type "BaseException", .type "object"] "ValueError.__new__" = true)
    (gB1 : PySem.W.findIn K (.ref CB) "__getattribute__" = some (some (.builtin "BaseException.__getattribute__")))
    (gB2 : PySem.W.findIn K (.ref CB) "__getattr__" = some none)
    (gB3 : PySem.W.findIn K (.ref CB) "__class__" = some (some (.builtin "object.__class__")))
    (gB4 : PySem.W.subIn K (.ref CB) (.type "object") = some true)
    (gB5 : PySem.W.subIn K (.ref CB) (.type "BaseException") = some true)
    (gB6 : PySem.W.isClsIn K CB = true)
    (eB : PySem.W.exmOne K (.ref CB) (.ref CR) = some true)
    (vB : PySem.W.kitOne K (.ref CB) (.type "ValueError") = some true)
    (wB : PySem.W.kitOne K (.ref CB) (.ref CT) = some false)
    (xT : PySem.W.excIn K CT [.type "ValueError", .type "Exception", .type "BaseException", .type "object"] "ValueError.__new__" = true)
    (gT1 : PySem.W.findIn K (.ref CT) "__getattribute__" = some (some (.builtin "BaseException.__getattribute__")))
    (gT2 : PySem.W.findIn K (.ref CT) "__getattr__" = some none)
    (gT3 : PySem.W.findIn K (.ref CT) "__class__" = some (some (.builtin "object.__class__")))
    (gT4 : PySem.W.subIn K (.ref CT) (.type "object") = some true)
    (gT5 : PySem.W.subIn K (.ref CT) (.type "BaseException") = some true)
    (gT6 : PySem.W.isClsIn K CT = true)
    (eT : PySem.W.exmOne K (.ref CT) (.ref CR) = some true)
    (vT : PySem.W.kitOne K (.ref CT) (.type "ValueError") = some true)
    (wT : PySem.W.kitOne K (.ref CT) (.ref CB) = some false) :
    ∃ fd : FuncData, (∀ (s : Shared) (v : Value), BindsTo s fd ⟨[v], []⟩ [("script", v)]) ∧ ∀ base : Heap, K.In base → base.Ns mainGlobals mg → FnOk l.prog w K mg base CX0 4 fa fd ["script"] (spLaw K) := by
  have e := hfa.symm.trans (PySem.W.mg_of X G a18)
  cases e
  have F1 := fun_mk (st := s__law_text) l1 c1 k1
  have D__law_text : Dfn K mg "_law_text" s__law_text ["numbers", "n"] f1 _ := ⟨F1, F1.binds fun _ _ _ _ _ _ us hl => match us, hl with | [_, _], _ => rfl, PySem.W.mg_of X G a1⟩
  have F2 := fun_mk (st := s__law_figures) l2 c2 k2
  have D__law_figures : Dfn K mg "_law_figures" s__law_figures ["word"] f2 _ := ⟨F2, F2.binds fun _ _ _ _ _ _ us hl => match us, hl with | [_], _ => rfl, PySem.W.mg_of X G a2⟩
  have F3 := fun_mk (st := s__law_number_of) l3 c3 k3
  have D__law_number_of : Dfn K mg "_law_number_of" s__law_number_of ["word"] f3 _ := ⟨F3, F3.binds fun _ _ _ _ _ _ us hl => match us, hl with | [_], _ => rfl, PySem.W.mg_of X G a3⟩
  have F4 := fun_mk (st := s__law_due) l4 c4 k4
  have D__law_due : Dfn K mg "_law_due" s__law_due ["text"] f4 _ := ⟨F4, F4.binds fun _ _ _ _ _ _ us hl => match us, hl with | [_], _ => rfl, PySem.W.mg_of X G a4⟩
  have F5 := fun_mk (st := s__law_cell_at) l5 c5 k5
  have D__law_cell_at : Dfn K mg "_law_cell_at" s__law_cell_at ["script", "k"] f5 _ := ⟨F5, F5.binds fun _ _ _ _ _ _ us hl => match us, hl with | [_, _], _ => rfl, PySem.W.mg_of X G a5⟩
  have F6 := fun_mk (st := s__law_number_by) l6 c6 k6
  have D__law_number_by : Dfn K mg "_law_number_by" s__law_number_by ["cell", "way"] f6 _ := ⟨F6, F6.binds fun _ _ _ _ _ _ us hl => match us, hl with | [_, _], _ => rfl, PySem.W.mg_of X G a6⟩
  have F7 := fun_mk (st := s__law_word_by) l7 c7 k7
  have D__law_word_by : Dfn K mg "_law_word_by" s__law_word_by ["cell"] f7 _ := ⟨F7, F7.binds fun _ _ _ _ _ _ us hl => match us, hl with | [_], _ => rfl, PySem.W.mg_of X G a7⟩
  have F8 := fun_mk (st := s__law_round_by) l8 c8 k8
  have D__law_round_by : Dfn K mg "_law_round_by" s__law_round_by ["cell"] f8 _ := ⟨F8, F8.binds fun _ _ _ _ _ _ us hl => match us, hl with | [_], _ => rfl, PySem.W.mg_of X G a8⟩
  have F9 := fun_mk (st := s__law_sign_by) l9 c9 k9
  have D__law_sign_by : Dfn K mg "_law_sign_by" s__law_sign_by ["cell"] f9 _ := ⟨F9, F9.binds fun _ _ _ _ _ _ us hl => match us, hl with | [_], _ => rfl, PySem.W.mg_of X G a9⟩
  have F10 := fun_mk (st := s__law_spoiled) l10 c10 k10
  have D__law_spoiled : Dfn K mg "_law_spoiled" s__law_spoiled ["text", "cell"] f10 _ := ⟨F10, F10.binds fun _ _ _ _ _ _ us hl => match us, hl with | [_, _], _ => rfl, PySem.W.mg_of X G a10⟩
  have F11 := fun_mk (st := s_read_number) l11 c11 k11
  have D_read_number : Dfn K mg "read_number" s_read_number ["word"] f11 _ := ⟨F11, F11.binds fun _ _ _ _ _ _ us hl => match us, hl with | [_], _ => rfl, PySem.W.mg_of X G a11⟩
  have F12 := fun_mk (st := s_is_round) l12 c12 k12
  have D_is_round : Dfn K mg "is_round" s_is_round ["n"] f12 _ := ⟨F12, F12.binds fun _ _ _ _ _ _ us hl => match us, hl with | [_], _ => rfl, PySem.W.mg_of X G a12⟩
  have F13 := fun_mk (st := s_read_round) l13 c13 k13
  have D_read_round : Dfn K mg "read_round" s_read_round ["word"] f13 _ := ⟨F13, F13.binds fun _ _ _ _ _ _ us hl => match us, hl with | [_], _ => rfl, PySem.W.mg_of X G a13⟩
  have F14 := fun_mk (st := s_read_numbers) l14 c14 k14
  have D_read_numbers : Dfn K mg "read_numbers" s_read_numbers ["text"] f14 _ := ⟨F14, F14.binds fun _ _ _ _ _ _ us hl => match us, hl with | [_], _ => rfl, PySem.W.mg_of X G a14⟩
  have F15 := fun_mk (st := s_read) l15 c15 k15
  have D_read : Dfn K mg "read" s_read ["text"] f15 _ := ⟨F15, F15.binds fun _ _ _ _ _ _ us hl => match us, hl with | [_], _ => rfl, PySem.W.mg_of X G a15⟩
  have F16 := fun_mk (st := s__law_whole) l16 c16 k16
  have D__law_whole : Dfn K mg "_law_whole" s__law_whole ["found"] f16 _ := ⟨F16, F16.binds fun _ _ _ _ _ _ us hl => match us, hl with | [_], _ => rfl, PySem.W.mg_of X G a16⟩
  have F17 := fun_mk (st := s__law_is_told) l17 c17 k17
  have D__law_is_told : Dfn K mg "_law_is_told" s__law_is_told ["found", "numbers", "n"] f17 _ := ⟨F17, F17.binds fun _ _ _ _ _ _ us hl => match us, hl with | [_, _, _], _ => rfl, PySem.W.mg_of X G a17⟩
  have F18 := fun_mk (st := s_law) l18 c18 k18
  have mc_GREATEST_NUMBER := PySem.W.mg_of X G q_GREATEST_NUMBER
  have mc_MOST_FIGURES := PySem.W.mg_of X G q_MOST_FIGURES
  have mc_FIGURES := PySem.W.mg_of X G q_FIGURES
  have mc_LEAST_ROUND := PySem.W.mg_of X G q_LEAST_ROUND
  have mc_GREATEST_ROUND := PySem.W.mg_of X G q_GREATEST_ROUND
  have mc_MOST_NUMBERS := PySem.W.mg_of X G q_MOST_NUMBERS
  have mb_str := PySem.W.mg_none_of X G z_str
  have mb_len := PySem.W.mg_none_of X G z_len
  have mb_int := PySem.W.mg_none_of X G z_int
  have mb_abs := PySem.W.mg_none_of X G z_abs
  have mb_all := PySem.W.mg_none_of X G z_all
  have mb_isinstance := PySem.W.mg_none_of X G z_isinstance
  have mb_bool := PySem.W.mg_none_of X G z_bool
  have mb_tuple := PySem.W.mg_none_of X G z_tuple
  have mb_list := PySem.W.mg_none_of X G z_list
  have mb_range := PySem.W.mg_none_of X G z_range
  have mb_ValueError := PySem.W.mg_none_of X G z_ValueError
  have ER : Errs K mg CB CT CR := ⟨PySem.W.mg_of X G qB, PySem.W.mg_of X G qT, PySem.W.mg_of X G qR, xB, xT, ⟨gB1, gB2, gB3, gB4, gB5, gB6⟩, ⟨gT1, gT2, gT3, gT4, gT5, gT6⟩, eB, eT, vB, vT, wB, wT⟩
  refine ⟨PySem.W.fnOf "law" "law" (defArgs s_law) (defBody s_law) (defScope s_law) .none kV18 dc18 pm18 an18 cd18 ct18, fun s v => .of_eq rfl, fun base _ _ => ?_⟩
  have C__law_text := cal__law_text (P := l.prog) (w := w) (base := base) D__law_text mb_str
  have C__law_figures := cal__law_figures (P := l.prog) (w := w) (base := base) D__law_figures mb_len mb_int
  have C__law_number_of := cal__law_number_of (P := l.prog) (w := w) (base := base) D__law_number_of C__law_figures mb_abs
  have C__law_due := cal__law_due (P := l.prog) (w := w) (base := base) D__law_due (C__law_figures.up (by decide)) C__law_number_of mb_len
  have C__law_cell_at := cal__law_cell_at (P := l.prog) (w := w) (base := base) D__law_cell_at mb_len
  have C__law_number_by := cal__law_number_by (P := l.prog) (w := w) (base := base) D__law_number_by 
  have C__law_word_by := cal__law_word_by (P := l.prog) (w := w) (base := base) D__law_word_by 
  have C__law_round_by := cal__law_round_by (P := l.prog) (w := w) (base := base) D__law_round_by 
  have C__law_sign_by := cal__law_sign_by (P := l.prog) (w := w) (base := base) D__law_sign_by 
  have C__law_spoiled := cal__law_spoiled (P := l.prog) (w := w) (base := base) D__law_spoiled C__law_sign_by C__law_word_by C__law_round_by mb_len
  have CX_read_number := calx_read_number (P := l.prog) (w := w) (base := base) D_read_number mc_GREATEST_NUMBER mc_MOST_FIGURES mc_FIGURES mb_all mb_len mb_int ER
  have C_is_round := cal_is_round (P := l.prog) (w := w) (base := base) D_is_round mc_LEAST_ROUND mc_GREATEST_ROUND
  have CX_read_round := calx_read_round (P := l.prog) (w := w) (base := base) D_read_round C_is_round CX_read_number ER
  have CX_read_numbers := calx_read_numbers (P := l.prog) (w := w) (base := base) D_read_numbers CX_read_number mc_MOST_NUMBERS mb_len ER
  have CX_read := calx_read (P := l.prog) (w := w) (base := base) D_read CX_read_round CX_read_numbers mb_len ER
  have C__law_whole := cal__law_whole (P := l.prog) (w := w) (base := base) D__law_whole mb_isinstance mb_int mb_bool
  have C__law_is_told := cal__law_is_told (P := l.prog) (w := w) (base := base) D__law_is_told C__law_whole mb_isinstance mb_tuple mb_len mb_list
  exact ok_law F18 (C__law_cell_at.up (by decide)) (C__law_number_by.up (by decide)) (C__law_text.up (by decide)) (C__law_spoiled.up (by decide)) C__law_due C__law_is_told CX_read mb_range mb_isinstance mb_ValueError ER
theorem walk {l : PySem.W.OpenLaw} {q : Program} {loose : List Str} {XP : (Str → Option Value) → Heap → Prop} {YP : World → Heap → Prop} {d : DefRec} {K : Params → PySem.W.Frag} (hn : l.most = some 63) (hdf : d.params.defaults = [])
    (hY : ∀ (w : World) (h : Heap), YP w h → (K w.params).In h)
    (F : ∀ (w : World) (mg : Str → Option Value) (fa : Addr) (h : Heap), (K w.params).In h → h.Ns mainGlobals mg → mg d.name = some (.ref fa) →
      ∃ fd : FuncData, (∀ (s : Shared) (u : Value), BindsTo s fd ⟨[u], []⟩ [("script", u)]) ∧ ∀ base : Heap, (K w.params).In base → base.Ns mainGlobals mg → FnOk l.prog w (K w.params) mg base CX0 4 fa fd ["script"] (spLaw (K w.params))) :
    PySem.W.WalkO q loose XP YP l.row.toRowW d [] (fun f vs => PySem.call f vs) :=
  L2.walk_of (n := 63) (k := 4) (x := "script") (CX := fun _ => CX0) (sp := fun w => spLaw (K w.params)) hn (by decide) hdf ⟨rfl, by decide, by decide⟩ hY F (fun _ _ a ns hl _ hS => ⟨a, ns, rfl, hS, hl, fun _ => rfl⟩) fun _ _ _ _ _ z => z
end K13
open PySem PySem.W PyProof.Rows
set_option maxRecDepth 100000 in
set_option maxHeartbeats 0 in
theorem PySem.Challenge.cw_sumrests_k13_lists_read_or_refused_holds : PySem.Challenge.rw_sumrests_k13_lists_read_or_refused.Holds := by
  w_on; o_law; k_head; (case hw => w_witness2)
  k_fill
  refine K13.walk (l := PySem.Challenge.rw_sumrests_k13_lists_read_or_refused) rfl rfl (fun w h Y => PySem.W.kIn_of Y) ?F
  case F =>
    intro w mg fa h KX G hmg
    refine' K13.all_mk KX G hmg ?a1 ?l1 ?c1 ?k1 ?a2 ?l2 ?c2 ?k2 ?a3 ?l3 ?c3 ?k3 ?a4 ?l4 ?c4 ?k4 ?a5 ?l5 ?c5 ?k5 ?a6 ?l6 ?c6 ?k6 ?a7 ?l7 ?c7 ?k7 ?a8 ?l8 ?c8 ?k8 ?a9 ?l9 ?c9 ?k9 ?a10 ?l10 ?c10 ?k10 ?a11 ?l11 ?c11 ?k11 ?a12 ?l12 ?c12 ?k12 ?a13 ?l13 ?c13 ?k13 ?a14 ?l14 ?c14 ?k14 ?a15 ?l15 ?c15 ?k15 ?a16 ?l16 ?c16 ?k16 ?a17 ?l17 ?c17 ?k17 ?a18 ?l18 ?c18 ?k18 ?q_GREATEST_NUMBER ?q_MOST_FIGURES ?q_FIGURES ?q_LEAST_ROUND ?q_GREATEST_ROUND ?q_MOST_NUMBERS ?z_str ?z_len ?z_int ?z_abs ?z_all ?z_isinstance ?z_bool ?z_tuple ?z_list ?z_range ?z_ValueError ?qB ?qT ?qR ?xB ?gB1 ?gB2 ?gB3 ?gB4 ?gB5 ?gB6 ?eB ?vB ?wB ?xT ?gT1 ?gT2 ?gT3 ?gT4 ?gT5 ?gT6 ?eT ?vT ?wT
    (case a1 => k_is)
    (case l1 => k_is)
    (case c1 => k_is)
    (case k1 => k_is)
    (case a2 => k_is)
    (case l2 => k_is)
    (case c2 => k_is)
    (case k2 => k_is)
    (case a3 => k_is)
    (case l3 => k_is)
    (case c3 => k_is)
    (case k3 => k_is)
    (case a4 => k_is)
    (case l4 => k_is)
    (case c4 => k_is)
    (case k4 => k_is)
    (case a5 => k_is)
    (case l5 => k_is)
    (case c5 => k_is)
    (case k5 => k_is)
    (case a6 => k_is)
    (case l6 => k_is)
    (case c6 => k_is)
    (case k6 => k_is)
    (case a7 => k_is)
    (case l7 => k_is)
    (case c7 => k_is)
    (case k7 => k_is)
    (case a8 => k_is)
    (case l8 => k_is)
    (case c8 => k_is)
    (case k8 => k_is)
    (case a9 => k_is)
    (case l9 => k_is)
    (case c9 => k_is)
    (case k9 => k_is)
    (case a10 => k_is)
    (case l10 => k_is)
    (case c10 => k_is)
    (case k10 => k_is)
    (case a11 => k_is)
    (case l11 => k_is)
    (case c11 => k_is)
    (case k11 => k_is)
    (case a12 => k_is)
    (case l12 => k_is)
    (case c12 => k_is)
    (case k12 => k_is)
    (case a13 => k_is)
    (case l13 => k_is)
    (case c13 => k_is)
    (case k13 => k_is)
    (case a14 => k_is)
    (case l14 => k_is)
    (case c14 => k_is)
    (case k14 => k_is)
    (case a15 => k_is)
    (case l15 => k_is)
    (case c15 => k_is)
    (case k15 => k_is)
    (case a16 => k_is)
    (case l16 => k_is)
    (case c16 => k_is)
    (case k16 => k_is)
    (case a17 => k_is)
    (case l17 => k_is)
    (case c17 => k_is)
    (case k17 => k_is)
    (case a18 => k_is)
    (case l18 => k_is)
    (case c18 => k_is)
    (case k18 => k_is)
    (case q_GREATEST_NUMBER => k_is)
    (case q_MOST_FIGURES => k_is)
    (case q_FIGURES => k_is)
    (case q_LEAST_ROUND => k_is)
    (case q_GREATEST_ROUND => k_is)
    (case q_MOST_NUMBERS => k_is)
    (case z_str => k_is)
    (case z_len => k_is)
    (case z_int => k_is)
    (case z_abs => k_is)
    (case z_all => k_is)
    (case z_isinstance => k_is)
    (case z_bool => k_is)
    (case z_tuple => k_is)
    (case z_list => k_is)
    (case z_range => k_is)
    (case z_ValueError => k_is)
    (case qB => k_is)
    (case qT => k_is)
    (case qR => k_is)
    (case xB => k_exc)
    (case gB1 => k_is)
    (case gB2 => k_is)
    (case gB3 => k_is)
    (case gB4 => k_is)
    (case gB5 => k_is)
    (case gB6 => k_is)
    (case eB => kts_exm)
    (case vB => kit_is)
    (case wB => kit_is)
    (case xT => k_exc)
    (case gT1 => k_is)
    (case gT2 => k_is)
    (case gT3 => k_is)
    (case gT4 => k_is)
    (case gT5 => k_is)
    (case gT6 => k_is)
    (case eT => kts_exm)
    (case vT => kit_is)
    (case wT => kit_is)
#print axioms PySem.Challenge.cw_sumrests_k13_lists_read_or_refused_holds
