import PyProof.Rows.All
import Wide.All
import OpenK.AllK
import Wide.FinOn
import Lean
import PyProof.EqAt
import PyProof.EqKinds
import PyProof.TupleCall
import PySem.Challenge.RW_ballotin_k18_whole_friends_and_foes
set_option Elab.async false
set_option linter.all false
set_option maxRecDepth 100000
set_option maxHeartbeats 4000000
-- CHANGE: your row's module here, as the last of these rows
/-! THE HAND LAYER, for ints, bools, texts, own classes, LISTS and tuples (index, slices, in, append, pop ..), calls, loops. Paste it whole ahead of your own text; what your proof does not reach may be deleted. -/
namespace L2
open PySem PySem.Spec PyProof.Rows

/-- a key: an int or a str -/
abbrev Key := Sum Int Str
def keyIs : Key → Value → Bool
  | .inl k, v => Value.isInt k v
  | .inr x, v => Value.isStrOf x v
def keyH (w : World) : Key → Int
  | .inl k => hashInt k
  | .inr x => hashStr w x
theorem keyIs_shape : ∀ {k : Key} {v : Value}, keyIs k v = true → (∃ i t, k = Sum.inl i ∧ v = Value.int i t) ∨ (∃ x t, k = Sum.inr x ∧ v = Value.str x t)
  | .inl i, v, h => by
    obtain ⟨t, e⟩ := Value.isInt_shape (k := i) (v := v) h
    exact .inl ⟨i, t, rfl, e⟩
  | .inr x, v, h => by
    obtain ⟨t, e⟩ := Value.isStrOf_shape (x := x) (v := v) h
    exact .inr ⟨x, t, rfl, e⟩
theorem keyIs_int (i : Int) (t : Tok) : keyIs (.inl i) (.int i t) = true := by simp [keyIs, Value.isInt]
theorem keyIs_str (x : Str) (t : Tok) : keyIs (.inr x) (.str x t) = true := by simp [keyIs, Value.isStrOf]
theorem key_ll (a b : Int) : decide ((Sum.inl a : Key) = Sum.inl b) = (a == b) := by
  by_cases e : a = b
  · subst e; simp
  · have h : ¬ (Sum.inl a : Key) = Sum.inl b := fun q => e (Sum.inl.inj q)
    rw [decide_eq_false h]
    exact (beq_eq_false_iff_ne.mpr e).symm
theorem key_rr (a b : Str) : decide ((Sum.inr a : Key) = Sum.inr b) = decide (a = b) := by
  by_cases e : a = b
  · subst e; simp
  · have h : ¬ (Sum.inr a : Key) = Sum.inr b := fun q => e (Sum.inr.inj q)
    rw [decide_eq_false h, decide_eq_false e]
theorem key_lr (a : Int) (b : Str) : decide ((Sum.inl a : Key) = Sum.inr b) = false := decide_eq_false (fun q => nomatch q)
theorem key_rl (a : Str) (b : Int) : decide ((Sum.inr a : Key) = Sum.inl b) = false := decide_eq_false (fun q => nomatch q)

def mixKind (prog : Program) (w : World) : PySem.KeyKind prog w Key where
  is := keyIs
  hash := keyH w
  inj := fun v a b ha hb => by
    rcases keyIs_shape ha with ⟨i, t, rfl, rfl⟩ | ⟨x, t, rfl, rfl⟩
    · rcases keyIs_shape hb with ⟨j, u, rfl, e⟩ | ⟨y, u, rfl, e⟩
      · injection e with e1 _; rw [e1]
      · exact nomatch e
    · rcases keyIs_shape hb with ⟨j, u, rfl, e⟩ | ⟨y, u, rfl, e⟩
      · exact nomatch e
      · injection e with e1 _; rw [e1]
  byValue := fun k v h => by
    rcases keyIs_shape h with ⟨i, t, rfl, rfl⟩ | ⟨x, t, rfl, rfl⟩ <;> rfl
  pyHash := fun hv h => by
    rcases keyIs_shape hv with ⟨i, t, rfl, rfl⟩ | ⟨x, t, rfl, rfl⟩
    · exact wpAny_pyHash_int h
    · exact wpAny_pyHash_str h
  eqBool := fun hu hv h => by
    rcases keyIs_shape hu with ⟨i, t, rfl, rfl⟩ | ⟨x, t, rfl, rfl⟩
    · rcases keyIs_shape hv with ⟨j, u, rfl, rfl⟩ | ⟨y, u, rfl, rfl⟩
      · rw [key_ll] at h; exact wpAny_eqBool_int h
      · rw [key_lr] at h; exact SeqAt.EqAt.int_str i t y u _ _ _ _ h
    · rcases keyIs_shape hv with ⟨j, u, rfl, rfl⟩ | ⟨y, u, rfl, rfl⟩
      · rw [key_rl] at h; exact SeqAt.EqAt.str_int x t j u _ _ _ _ h
      · rw [key_rr] at h; exact wpAny_eqBool_str h
  «strs» := fun k x t v h => by
    rcases keyIs_shape h with ⟨i, u, rfl, e⟩ | ⟨y, u, rfl, e⟩
    · exact nomatch e
    · injection e with e1 _
      subst e1
      cases v <;> rfl

theorem mixKind_is (prog : Program) (w : World) (k : Key) (v : Value) : (mixKind prog w).is k v = keyIs k v := rfl
theorem mixKind_int (prog : Program) (w : World) (i : Int) (t : Tok) : (mixKind prog w).is (.inl i) (.int i t) = true := keyIs_int i t
theorem mixKind_str (prog : Program) (w : World) (x : Str) (t : Tok) : (mixKind prog w).is (.inr x) (.str x t) = true := keyIs_str x t
end L2

namespace L2
open PySem PySem.Spec PyProof.Rows

/-- a value, without the heap -/
inductive V where
  | non | bl (b : Bool) | int (i : Int) | str (x : Str) | byt (b : Array UInt8) | flt (b : UInt64) | ref (a : Addr) | ty (n : String)
  deriving DecidableEq

def RelV : V → Value → Prop
  | .non, u => u = Value.none
  | .bl b, u => u = Value.bool b
  | .int i, u => ∃ t, u = Value.int i t
  | .str x, u => ∃ t, u = Value.str x t
  | .byt b, u => ∃ t, u = Value.bytes b t
  | .flt b, u => ∃ t, u = Value.float b t
  | .ref a, u => u = Value.ref a
  | .ty n, u => u = Value.type n

abbrev Vals : List V → List Value → Prop := Paired RelV
theorem Vals.length {xs : List V} {us : List Value} (r : Vals xs us) : xs.length = us.length := Paired.length r
theorem Vals.get : ∀ {xs : List V} {us : List Value} {i : Nat} {x : V}, Vals xs us → xs[i]? = some x → ∃ u, us[i]? = some u ∧ RelV x u
  | _, _, _, _, .nil, e => by simp at e
  | _, _, 0, _, .cons r _, e => by simp at e; subst e; exact ⟨_, rfl, r⟩
  | _, _, i + 1, x, .cons _ t, e => by
    obtain ⟨u, h1, h2⟩ := Vals.get (i := i) (x := x) t (by simpa using e)
    exact ⟨u, by simpa using h1, h2⟩
theorem Vals.set {x : V} {u : Value} (r : RelV x u) : ∀ {xs : List V} {us : List Value} (i : Nat), Vals xs us → Vals (xs.set i x) (us.set i u)
  | _, _, _, .nil => .nil
  | _, _, 0, .cons _ t => .cons r t
  | _, _, i + 1, .cons q t => .cons q (Vals.set r i t)
theorem Vals.append : ∀ {xs ys : List V} {us ws : List Value}, Vals xs us → Vals ys ws → Vals (xs ++ ys) (us ++ ws)
  | _, _, _, _, .nil, s => s
  | _, _, _, _, .cons r t, s => .cons r (Vals.append t s)
theorem Vals.take : ∀ {xs : List V} {us : List Value} (n : Nat), Vals xs us → Vals (xs.take n) (us.take n)
  | _, _, 0, _ => .nil
  | _, _, _ + 1, .nil => .nil
  | _, _, n + 1, .cons r t => .cons r (Vals.take n t)
theorem Vals.drop : ∀ {xs : List V} {us : List Value} (n : Nat), Vals xs us → Vals (xs.drop n) (us.drop n)
  | _, _, 0, r => r
  | _, _, _ + 1, .nil => .nil
  | _, _, n + 1, .cons _ t => Vals.drop n t
theorem Vals.none_of : ∀ {xs : List V} {us : List Value} {i : Nat}, Vals xs us → xs[i]? = none → us[i]? = none := fun {xs us i} r e => by
  have h1 := r.length
  have h2 : xs.length ≤ i := List.getElem?_eq_none_iff.mp e
  exact List.getElem?_eq_none_iff.mpr (by omega)

def RelO : Option V → Option Value → Prop
  | some v, some u => RelV v u
  | none, none => True
  | _, _ => False
def KV {κ : Type} : List (κ × V) → List (κ × Value) → Prop := Paired fun (p : κ × V) (q : κ × Value) => p.1 = q.1 ∧ RelV p.2 q.2

/-- a key of a dict (00_mix): an int or a text -/
def kV : Key → V
  | .inl i => .int i
  | .inr x => .str x

/-- what stands at a tracked address -/
inductive HO where
  /-- a list -/
  | lst (xs : List V)
  /-- a tuple (never changes) -/
  | tup (xs : List V)
  /-- a dict whose keys are ints and texts; one whose keys are tuples of ints and texts (the empty one is both) -/
  | dK (kvs : List (Key × V)) | dT (kvs : List (List Key × V))
  /-- a set of ints: its members, its size -/
  | set (S : Int → Bool) (n : Nat)
  /-- an instance of the class at C, its dict at dx, its attributes -/
  | ins (C dx : Addr) (fs : List (Str × V))
  /-- the dict of the instance at x -/
  | own (x : Addr)
  /-- the dict of an exception -/
  | xd (fs : List (Str × V))
  /-- a bound method, f of x -/
  | met (f x : Addr)
  /-- a range object lo, lo + 1, .. below hi -/
  | rng (lo hi : Int)
  /-- a thing that is known to the object (the script; a dict while a loop walks it): read, never written while it is so -/
  | frz (o : Obj) (u : HO)
  /-- a code object's table -/
  | tbl (ps : Array Value)
  /-- any other thing, by what is true of its one object (a def of one's own: SetO a S n := HO.ext fun h => ..) -/
  | ext (φ : Heap → Prop)

abbrev Hp := Addr → Option HO
def upd (H : Hp) (a : Addr) (o : HO) : Hp := fun b => if b = a then some o else H b
theorem upd_same {H : Hp} {a : Addr} {o : HO} : upd H a o a = some o := by unfold upd; rw [if_pos rfl]
theorem upd_ne {H : Hp} {a b : Addr} {o : HO} (h : b ≠ a) : upd H a o b = H b := by unfold upd; rw [if_neg h]
theorem upd_upd {H : Hp} {a : Addr} {o u : HO} : upd (upd H a o) a u = upd H a u := by
  funext b; unfold upd; split <;> rfl
/-- two objects of different content stand apart -/
theorem ne_of {H : Hp} {a b : Addr} {o u : HO} (h : H a = some o) (h' : H b = some u) (d : o ≠ u) : a ≠ b := by
  intro e; subst e; rw [h] at h'; exact d (Option.some.inj h')
theorem ne_of_none {H : Hp} {a b : Addr} {o : HO} (h : H a = some o) (h' : H b = none) : a ≠ b := by
  intro e; subst e; rw [h] at h'; cases h'

section
variable (P : Program) (w : World)
def ObjOk (H : Hp) (h : Heap) (a : Addr) : HO → Prop
  | .lst xs => xs.length ≤ sizeLine ∧ ∃ (its : List Value) (n : Nat), Vals xs its ∧ h.get? a = some { cls := .type "list", data := .seq its.toArray n }
  | .tup xs => xs.length ≤ sizeLine ∧ ∃ its : List Value, Vals xs its ∧ IsTup h a its.toArray
  | .dK kvs => kvs.length ≤ sizeLine ∧ (a == sysModules) = false ∧ ∃ vs, KV kvs vs ∧ h.DictOf (mixKind P w) a vs
  | .dT kvs => kvs.length ≤ sizeLine ∧ (a == sysModules) = false ∧ ∃ xs : List (List Key × Addr × Value),
      Paired (fun (p : List Key × V) (q : List Key × Addr × Value) => p.1 = q.1 ∧ H q.2.1 = some (.tup (p.1.map kV)) ∧ RelV p.2 q.2.2) kvs xs ∧
      ∃ o es ep, h.get? a = some o ∧ o.ExactDict ∧ o.data = .dict es ep ∧ es.toList = xs.map (entryOfKey (tupleKind (mixKind P w))) ∧ (xs.map (·.1)).Nodup
  | .set S n => h.SetOf (intKind P w) a S n
  | .ins C dx fs => H dx = some (.own a) ∧ fs.length ≤ 1000 ∧ dx ≠ a ∧ h.get? a = some (PySem.W.instObj C dx) ∧
      ∃ mA, h.Ns1 dx mA ∧ (∀ f, RelO (fs.lookup f) (mA f)) ∧ PySem.Within mA (fs.map (·.1))
  | .own _ => ∃ o, h.get? a = some o
  | .xd fs => ∃ mA, h.Ns1 a mA ∧ ∀ f, RelO (fs.lookup f) (mA f)
  | .rng lo hi => ∃ t u v, h.get? a = some { cls := .type "range", data := .fields #[.int lo t, .int hi u, .int 1 v] }
  | .frz o u => h.get? a = some o ∧ ObjOk H h a u
  | .tbl ps => h.get? a = some { cls := .none, data := .fields ps }
  | .met f x => h.get? a = some (PySem.W.methodObj (.ref f) (.ref x))
  | .ext φ => φ h ∧ (∃ o, h.get? a = some o) ∧ ∀ h1 h2 : Heap, φ h1 → (∀ o, h1.get? a = some o → h2.get? a = some o) → φ h2
/-- the abstract heap is held -/
def HOk (H : Hp) (h : Heap) : Prop := ∀ a o, H a = some o → ObjOk P w H h a o
end

section
variable {P : Program} {w : World} {H H' : Hp} {h h' : Heap} {a : Addr} {o : HO}
theorem ObjOk.lt (x : ObjOk P w H h a o) : a < h.objs.size := by
  cases o with
  | lst xs => obtain ⟨_, _, _, _, e⟩ := x; exact Heap.lt_size e
  | tup xs => obtain ⟨_, _, _, p⟩ := x; exact p.lt
  | dK kvs => obtain ⟨_, _, _, _, o, _, _, e, _⟩ := x; exact Heap.lt_size e
  | dT kvs => obtain ⟨_, _, _, _, o, _, _, e, _⟩ := x; exact Heap.lt_size e
  | set S n => obtain ⟨o, _, _, _, e, _⟩ := x; exact Heap.lt_size e
  | ins C dx fs => obtain ⟨_, _, _, e, _⟩ := x; exact Heap.lt_size e
  | own y => obtain ⟨_, e⟩ := x; exact Heap.lt_size e
  | xd fs => obtain ⟨_, ⟨_, _, _, e, _⟩, _⟩ := x; exact Heap.lt_size e
  | rng lo hi => obtain ⟨_, _, _, e⟩ := x; exact Heap.lt_size e
  | frz ob u => obtain ⟨e, _⟩ := x; exact Heap.lt_size e
  | tbl ps => exact Heap.lt_size (show h.get? a = some _ from x)
  | met f y => exact Heap.lt_size (show h.get? a = some _ from x)
  | ext φ => obtain ⟨_, ⟨_, e⟩, _⟩ := x; exact Heap.lt_size e
theorem Paired.mapP {α β : Type} {F G : α → β → Prop} : ∀ {l₁ : List α} {l₂ : List β}, Paired F l₁ l₂ → (∀ a b, F a b → G a b) → Paired G l₁ l₂
  | _, _, .nil, _ => .nil
  | _, _, .cons r t, f => .cons (f _ _ r) (Paired.mapP t f)
theorem Paired.imp' {α β : Type} {F G : α → β → Prop} (f : ∀ a b, F a b → G a b) {l₁ : List α} {l₂ : List β} (r : Paired F l₁ l₂) : Paired G l₁ l₂ := Paired.mapP r f
/-- what an object's description leans on: its own object, its own dict, the tuples -/
theorem ObjOk.stay (x : ObjOk P w H h a o) (k : ∀ b u, (b = a ∨ H b = some (.own a)) → h.get? b = some u → h'.get? b = some u)
    (ho : ∀ b, H b = some (.own a) → H' b = some (.own a)) (ht : ∀ b xs, H b = some (.tup xs) → H' b = some (.tup xs)) : ObjOk P w H' h' a o := by
  induction o with
  | lst xs => obtain ⟨z, its, n, r, e⟩ := x; exact ⟨z, its, n, r, k _ _ (.inl rfl) e⟩
  | tup xs => obtain ⟨z, its, r, ob, e, c⟩ := x; exact ⟨z, its, r, ob, k _ _ (.inl rfl) e, c⟩
  | dK kvs => obtain ⟨z, y, vs, r, ob, es, ep, e, c⟩ := x; exact ⟨z, y, vs, r, ob, es, ep, k _ _ (.inl rfl) e, c⟩
  | dT kvs =>
    obtain ⟨z, y, xs, r, ob, es, ep, e, c⟩ := x
    exact ⟨z, y, xs, Paired.mapP r fun p q z => ⟨z.1, ht _ _ z.2.1, z.2.2⟩, ob, es, ep, k _ _ (.inl rfl) e, c⟩
  | set S n => obtain ⟨ob, es, ep, t, e, c⟩ := x; exact ⟨ob, es, ep, t, k _ _ (.inl rfl) e, c⟩
  | ins C dx fs =>
    obtain ⟨d, z, ne, e, mA, ⟨od, es, ep, e2, c⟩, r⟩ := x
    exact ⟨ho _ d, z, ne, k _ _ (.inl rfl) e, mA, ⟨od, es, ep, k _ _ (.inr d) e2, c⟩, r⟩
  | own y => obtain ⟨ob, e⟩ := x; exact ⟨ob, k _ _ (.inl rfl) e⟩
  | xd fs => obtain ⟨mA, ⟨od, es, ep, e, c⟩, r⟩ := x; exact ⟨mA, ⟨od, es, ep, k _ _ (.inl rfl) e, c⟩, r⟩
  | rng lo hi => obtain ⟨t, u, v, e⟩ := x; exact ⟨t, u, v, k _ _ (.inl rfl) e⟩
  | frz ob u ih => obtain ⟨e, q⟩ := x; exact ⟨k _ _ (.inl rfl) e, ih q⟩
  | tbl ps =>
    have e : h.get? a = some { cls := .none, data := .fields ps } := x
    show h'.get? a = some { cls := .none, data := .fields ps }
    exact k a _ (.inl rfl) e
  | met f y =>
    have e : h.get? a = some (PySem.W.methodObj (.ref f) (.ref y)) := x
    show h'.get? a = some (PySem.W.methodObj (.ref f) (.ref y))
    exact k a _ (.inl rfl) e
  | ext φ => obtain ⟨p, ⟨o, e⟩, st⟩ := x; exact ⟨st _ _ p fun o q => k _ _ (.inl rfl) q, ⟨o, k _ _ (.inl rfl) e⟩, st⟩
theorem HOk.lt (x : HOk P w H h) (e : H a = some o) : a < h.objs.size := (x a o e).lt
theorem HOk.fresh (x : HOk P w H h) (e : h.objs.size ≤ a) : H a = none := by
  cases q : H a with
  | none => rfl
  | some u => exact absurd (Nat.lt_of_lt_of_le (x.lt q) e) (Nat.lt_irrefl _)
/-- every object of the heap is kept -/
theorem HOk.kept (x : HOk P w H h) (k : ∀ b u, h.get? b = some u → h'.get? b = some u) : HOk P w H h' := fun a o e =>
  (x a o e).stay (fun b u _ q => k b u q) (fun _ q => q) fun _ _ q => q
/-- a new object is laid and tracked -/
theorem HOk.laid (x : HOk P w H h) (k : ∀ b u, h.get? b = some u → h'.get? b = some u) (hp : h.objs.size ≤ a) (new : ObjOk P w (upd H a o) h' a o) : HOk P w (upd H a o) h' := fun b u e => by
  have hn := x.fresh hp
  by_cases hb : b = a
  · subst hb; rw [upd_same] at e; cases e; exact new
  · rw [upd_ne hb] at e
    exact (x b u e).stay (fun c v _ q => k c v q) (fun c q => by rw [upd_ne (ne_of_none q hn)]; exact q) fun c xs q => by rw [upd_ne (ne_of_none q hn)]; exact q
end

/-- what may be read as u: it is u, or a known u -/
def Rd (H : Hp) (a : Addr) (u : HO) : Prop := H a = some u ∨ ∃ o, H a = some (.frz o u)
theorem Rd.of {H : Hp} {a : Addr} {u : HO} (h : H a = some u) : Rd H a u := .inl h
theorem Rd.ok {P : Program} {w : World} {H : Hp} {h : Heap} {a : Addr} {u : HO} (r : Rd H a u) (x : HOk P w H h) : ObjOk P w H h a u := by
  rcases r with r | ⟨o, r⟩
  · exact x a u r
  · obtain ⟨_, q⟩ := x a _ r
    exact q
/-- what may be written -/
def Mut : Option HO → Prop
  | some (.lst _) => True
  | some (.dK _) => True
  | some (.dT _) => True
  | some (.set _ _) => True
  | some (.ins _ _ _) => True
  | some (.ext _) => True
  | _ => False
section
variable {P : Program} {w : World} {H : Hp} {h h' : Heap} {x e : Addr} {o' : HO}
/-- the object at e is changed: x itself, or the dict of the instance x -/
theorem HOk.write (ok : HOk P w H h) (mu : Mut (H x)) (he : e = x ∨ H e = some (.own x)) (k : ∀ b u, b ≠ e → h.get? b = some u → h'.get? b = some u) (heo : ∃ u, h'.get? e = some u)
    (new : ObjOk P w (upd H x o') h' x o') : HOk P w (upd H x o') h' := fun b u q => by
  have nown : ∀ c y, H c = some (.own y) → c ≠ x := fun c y r z => by subst z; rw [r] at mu; exact mu
  have ntup : ∀ c xs, H c = some (.tup xs) → c ≠ x := fun c xs r z => by subst z; rw [r] at mu; exact mu
  by_cases hb : b = x
  · subst hb; rw [upd_same] at q; cases q; exact new
  · rw [upd_ne hb] at q
    by_cases hbe : b = e
    · have q' : H b = some (.own x) := by
        rcases he with z | z
        · exact absurd (hbe.trans z) hb
        · rw [hbe]; exact z
      rw [q] at q'; cases q'
      obtain ⟨v, hv⟩ := heo
      exact ⟨v, by rw [hbe]; exact hv⟩
    · refine (ok b u q).stay (fun c v hc r => k c v ?_ r) (fun c r => by rw [upd_ne (nown c b r)]; exact r) fun c xs r => by rw [upd_ne (ntup c xs r)]; exact r
      rcases hc with rfl | hc
      · exact hbe
      · rintro rfl
        rcases he with z | z
        · exact nown c b hc z
        · rw [hc] at z; cases z; exact hb rfl
end

/-! ### kept unless tracked; of the frames at fs (the callers') the slots may change (an exception that passes writes there); of the records at ex (iterators) nothing is said -/
structure Un (fs ex : List Addr) (H H' : Hp) (h h' : Heap) : Prop where
  keep : ∀ b o, h.get? b = some o → H b = none → b ∉ fs → b ∉ ex → h'.get? b = some o
  slot : ∀ b o, h.get? b = some o → H b = none → b ∈ fs → b ∉ ex → ∃ sl, h'.get? b = some { o with slots := sl }
  free : ∀ b o, h.get? b = some o → H b = none → b ∉ ex → H' b = none
  there : ∀ b o, h.get? b = some o → b ∉ ex → ∃ o', h'.get? b = some o'
  tups : ∀ b xs, H b = some (.tup xs) → H' b = some (.tup xs)
  frzs : ∀ b o u, H b = some (.frz o u) → H' b = some (.frz o u)
  tbls : ∀ b ps, H b = some (.tbl ps) → ∃ more, H' b = some (.tbl (ps ++ more))
section
variable {fs fs' ex ex' : List Addr} {H H1 H2 : Hp} {h h1 h2 h' : Heap} {a x e : Addr} {o : HO}
theorem Un.any (u : Un fs ex H H1 h h1) {b : Addr} {ob : Obj} (q : h.get? b = some ob) (n : H b = none) (hx : b ∉ ex) : ∃ sl, h1.get? b = some { ob with slots := sl } := by
  by_cases hb : b ∈ fs
  · exact u.slot b ob q n hb hx
  · exact ⟨ob.slots, u.keep b ob q n hb hx⟩
theorem Un.trans (a : Un fs ex H H1 h h1) (b : Un fs ex H1 H2 h1 h2) : Un fs ex H H2 h h2 where
  keep := fun c ob q n hc hx => b.keep c ob (a.keep c ob q n hc hx) (a.free c ob q n hx) hc hx
  slot := fun c ob q n hc hx => by
    obtain ⟨sl, e1⟩ := a.slot c ob q n hc hx
    obtain ⟨sl', e2⟩ := b.slot c _ e1 (a.free c ob q n hx) hc hx
    exact ⟨sl', e2⟩
  free := fun c ob q n hx => by
    obtain ⟨o', e1⟩ := a.there c ob q hx
    exact b.free c o' e1 (a.free c ob q n hx) hx
  there := fun c ob q hx => by
    obtain ⟨o', e1⟩ := a.there c ob q hx
    exact b.there c o' e1 hx
  tups := fun c xs q => b.tups c xs (a.tups c xs q)
  frzs := fun c ob xs q => b.frzs c ob xs (a.frzs c ob xs q)
  tbls := fun c ps q => by
    obtain ⟨m1, e1⟩ := a.tbls c ps q
    obtain ⟨m2, e2⟩ := b.tbls c _ e1
    exact ⟨m1 ++ m2, by rw [e2, Array.append_assoc]⟩
theorem Un.kept (k : ∀ b u, h.get? b = some u → h'.get? b = some u) : Un fs ex H H h h' :=
  ⟨fun b ob q _ _ _ => k b ob q, fun b ob q _ _ _ => ⟨ob.slots, k b ob q⟩, fun _ _ _ n _ => n, fun b ob q _ => ⟨ob, k b ob q⟩, fun _ _ q => q, fun _ _ _ q => q, fun _ ps q => ⟨#[], by rw [q]; simp⟩⟩
theorem Un.refl : Un fs ex H H h h := Un.kept fun _ _ q => q
theorem Un.laid (k : ∀ b u, h.get? b = some u → h'.get? b = some u) (hp : h.objs.size ≤ a) (hn : H a = none) : Un fs ex H (upd H a o) h h' where
  keep := fun b u q _ _ _ => k b u q
  slot := fun b u q _ _ _ => ⟨u.slots, k b u q⟩
  free := fun b u q n _ => by rw [upd_ne (Nat.ne_of_lt (Nat.lt_of_lt_of_le (Heap.lt_size q) hp))]; exact n
  there := fun b u q _ => ⟨u, k b u q⟩
  tups := fun b xs q => by rw [upd_ne (ne_of_none q hn)]; exact q
  frzs := fun b u xs q => by rw [upd_ne (ne_of_none q hn)]; exact q
  tbls := fun b ps q => ⟨#[], by rw [upd_ne (ne_of_none q hn), q]; simp⟩
theorem Un.write (mu : Mut (H x)) (he : e = x ∨ H e = some (.own x)) (k : ∀ b u, b ≠ e → h.get? b = some u → h'.get? b = some u) (heo : ∃ u, h'.get? e = some u) : Un fs ex H (upd H x o) h h' := by
  have hx : ∀ b, H b = none → b ≠ x := fun b n z => by subst z; rw [n] at mu; exact mu
  have hb : ∀ b, H b = none → b ≠ e := fun b n z => by
    subst z
    rcases he with r | r
    · exact hx b n r
    · rw [n] at r; cases r
  have hm : ∀ b u, H b = some u → ¬ Mut (some u) → b ≠ x := fun b u q nm z => by subst z; rw [q] at mu; exact nm mu
  refine ⟨fun b u q n _ _ => k b u (hb b n) q, fun b u q n _ _ => ⟨u.slots, k b u (hb b n) q⟩, fun b u q n _ => by rw [upd_ne (hx b n)]; exact n, fun b u q _ => ?_,
    fun b xs q => by rw [upd_ne (hm b _ q fun z => z)]; exact q, fun b u xs q => by rw [upd_ne (hm b _ q fun z => z)]; exact q, fun b ps q => ⟨#[], by rw [upd_ne (hm b _ q fun z => z), q]; simp⟩⟩
  by_cases hbe : b = e
  · subst hbe; exact heo
  · exact ⟨u, k b u hbe q⟩
theorem Un.mono (u : Un fs ex H H1 h h1) (hs : ∀ b ∈ fs, b ∈ fs') (hx : ∀ b ∈ ex, b ∈ ex') : Un fs' ex' H H1 h h1 :=
  ⟨fun b ob q n hb he => u.keep b ob q n (fun z => hb (hs b z)) fun z => he (hx b z), fun _ _ q n _ he => u.any q n fun z => he (hx _ z), fun b ob q n he => u.free b ob q n fun z => he (hx b z), fun b ob q he => u.there b ob q fun z => he (hx b z), u.tups, u.frzs, u.tbls⟩
end

/-! ### the heap without what is tracked -/
def trk (h : Heap) (H : Hp) : List Addr := (List.range h.objs.size).filter fun a => (H a).isSome
def hidT (h : Heap) (H : Hp) : Heap := PySem.W.hideAll h (trk h H)
theorem hidT_size (h : Heap) (H : Hp) : (hidT h H).objs.size = h.objs.size := PySem.W.hideAll_size _ _
theorem hidT_get {h : Heap} {H : Hp} {b : Addr} {o : Obj} (e : h.get? b = some o) (n : H b = none) : (hidT h H).get? b = some o :=
  PySem.W.hideAll_get _ e fun hm => by
    have q : (H b).isSome = true := (List.mem_filter.mp hm).2
    rw [n] at q; simp at q
theorem of_hidT {h : Heap} {H : Hp} {b : Addr} {o : Obj} (e : (hidT h H).get? b = some o) : h.get? b = some o ∧ H b = none := by
  have e' : h.get? b = some o := PySem.W.of_hideAll (trk h H) e
  refine ⟨e', ?_⟩
  cases q : H b with
  | none => rfl
  | some x =>
    have hm : b ∈ trk h H := List.mem_filter.mpr ⟨List.mem_range.mpr (Heap.lt_size e'), by simp [q]⟩
    have z : (hidT h H).get? b = none := PySem.W.hideAll_none (trk h H) hm
    rw [z] at e; cases e

/-! ### OpenK's ledger, filled with every new object but one -/
def allNews (g h : Heap) (L : Addr) : List (Addr × Obj) := (List.range h.objs.size).filterMap fun a => if a = L ∨ (g.get? a).isSome = true then none else (h.get? a).map fun o => (a, o)
theorem mem_allNews {g h : Heap} {L a : Addr} {o : Obj} (h1 : a ≠ L) (h2 : g.get? a = none) (h3 : h.get? a = some o) : (a, o) ∈ allNews g h L :=
  List.mem_filterMap.mpr ⟨a, List.mem_range.mpr (Heap.lt_size h3), by simp [h1, h2, h3]⟩
theorem of_mem_allNews {g h : Heap} {L : Addr} {p : Addr × Obj} (hp : p ∈ allNews g h L) : p.1 ≠ L ∧ g.get? p.1 = none ∧ h.get? p.1 = some p.2 := by
  obtain ⟨b, _, e⟩ := List.mem_filterMap.mp hp
  split at e
  · cases e
  · rename_i hn
    cases q : h.get? b with
    | none => rw [q] at e; simp at e
    | some u =>
      rw [q] at e
      simp only [Option.map_some, Option.some.injEq] at e
      subst e
      refine ⟨fun z => hn (.inl z), ?_, q⟩
      show g.get? b = none
      cases r : g.get? b with
      | none => rfl
      | some v => exact (hn (.inr (by simp [r]))).elim
def rest (g h : Heap) (L d : Addr) : List (Addr × Obj) := (allNews g h L).filter fun p => decide (p.1 ≠ d)
theorem rest_ne {g h : Heap} {L d : Addr} : ∀ p ∈ rest g h L d, p.1 ≠ d := fun p hp => of_decide_eq_true (List.mem_filter.mp hp).2
theorem mem_rest {g h : Heap} {L d a : Addr} {o : Obj} (h1 : a ≠ L) (h2 : g.get? a = none) (h3 : h.get? a = some o) (h4 : a ≠ d) : (a, o) ∈ rest g h L d :=
  List.mem_filter.mpr ⟨mem_allNews h1 h2 h3, decide_eq_true h4⟩
theorem news_all {g h : Heap} {L : Addr} : News g L h (allNews g h L) := fun p hp => let ⟨a, b, c⟩ := of_mem_allNews hp; ⟨c, a, b⟩
theorem news_at {g h : Heap} {L d : Addr} {o : Obj} (h1 : d ≠ L) (h2 : g.get? d = none) (h3 : h.get? d = some o) : News g L h ((d, o) :: rest g h L d) := fun p hp => by
  rcases List.mem_cons.mp hp with rfl | hp
  · exact ⟨h3, h1, h2⟩
  · exact news_all p (List.mem_filter.mp hp).1
/-- behind a rule that changed d alone: all else but the frame is kept -/
theorem kept_of_news {g h h' : Heap} {L d : Addr} {m : Str → Option Value} (k : ∀ b o, g.get? b = some o → h.get? b = some o) (F : Fr g L h' m) (N : News g L h' (rest g h L d)) :
    ∀ b o, b ≠ L → b ≠ d → h.get? b = some o → h'.get? b = some o := fun b o h1 h2 e => by
  cases q : g.get? b with
  | some u =>
    have := k b u q
    rw [e] at this; cases this
    exact F.keep b _ q
  | none => exact (N (b, o) (mem_rest h1 q e h2)).1
end L2

namespace L2
open PySem PySem.Spec PyProof.Rows

/-- the module's facts, over the base: the heap at the law's entry without what is tracked there -/
structure Mod (K : PySem.W.Frag) (mg : Str → Option Value) (base : Heap) : Prop where
  kin : K.In base
  glob : base.Ns mainGlobals mg
  blt : ∃ mb, base.Ns builtinsNs mb ∧ ∀ x : Str, x ≠ "__name__" → mb x = bootBuiltins x
  nolimit : base.NoLimit

/-- the context: a def's body (or a comprehension's block) running. base: fixed through the whole law; s₀, H₀: the entry; outer: the frames whose slots others may change (a def's callers); stack: all frames that run;
   ex: iterators that were made ahead of the entry and are walked here (a comprehension's); fn: the names whose cells were made at the entry (a def: all; a comprehension's block: its own); calm: not within an except suite; pn: pins that every state bears; xe: what is wanted of an exception that leaves the code -/
structure Cx where
  prog : Program
  w : World
  K : PySem.W.Frag
  mg : Str → Option Value
  base : Heap
  A : Around
  N : List Str
  s₀ : Shared
  H₀ : Hp
  env : Env
  outer : List Env
  stack : List Env
  ex : List Addr
  fn : Str → Bool
  calm : Bool
  pn : List (Addr × Obj)
  xe : Value → Shared → Prop
/-- the callers' frames -/
def frs (l : List Env) : List Addr := l.filterMap (·.frame)
abbrev Cx.fs (X : Cx) : List Addr := frs X.outer

def Vis (sc : Scope) (x : Str) : Prop := sc.names.lookup x = some .local ∨ sc.names.lookup x = some .cell ∨ sc.names.lookup x = some .free
def Loc (sc : Scope) (x : Str) : Prop := sc.names.lookup x = some .local ∨ sc.names.lookup x = some .cell
def Look (env : Env) (h : Heap) (m : Str → Option Value) (x : Str) (u : Value) : Prop :=
  (env.kindOf x = some .local ∧ m x = some u) ∨ ((env.kindOf x = some .cell ∨ env.kindOf x = some .free) ∧ ∃ c, env.cells.lookup x = some c ∧ h.IsCell c (some u))

structure Cx.Ok (X : Cx) : Prop where
  mod : Mod X.K X.mg X.base
  kind : X.env.scope.kind = .function
  glob : X.env.globals = mainGlobals
  blt : X.env.builtins = builtinsNs
  above : X.s₀.heap.objs.size ≤ X.env.locals
  inj : ∀ x y c, X.env.cells.lookup x = some c → X.env.cells.lookup y = some c → x = y
  has : ∀ x, (X.env.kindOf x = some .cell ∨ X.env.kindOf x = some .free) → ∃ c, X.env.cells.lookup x = some c
  cab : ∀ x c, X.fn x = true → X.env.cells.lookup x = some c → X.s₀.heap.objs.size ≤ c
  hd : X.calm = true → X.A.handled = none
  frames : X.A.frames = some X.stack
  stk : X.stack = X.outer ∨ (X.stack = X.env :: X.outer ∧ X.env.frame = some X.env.locals)
  exf : ∀ b ∈ X.ex, b ≠ X.env.locals ∧ ∀ x c, X.env.cells.lookup x = some c → c ≠ b
  bs : ∀ b o, X.base.get? b = some o → X.s₀.heap.get? b = some o ∧ X.H₀ b = none
  bsz : X.base.objs.size ≤ X.s₀.heap.objs.size
  noex : ∀ b o, X.base.get? b = some o → b ∉ X.ex
  exfs : ∀ b ∈ X.ex, b ∉ X.fs
  funs : X.s₀.heap.FunFrames X.base X.outer
  frf : ∀ b ∈ X.fs, X.H₀ b = none

structure Inv (X : Cx) (pins : List (Addr × Obj)) (σ : List (Option V)) (H : Hp) (s : Shared) : Prop where
  ok : X.Ok
  os : s.os = X.s₀.os
  bare : AllBare s.gens
  base : Un X.fs X.ex X.H₀ H X.s₀.heap s.heap
  loc : ∃ m, s.heap.Ns X.env.locals m ∧ ∀ (i : Nat) (x : Str) (v : V), X.N[i]? = some x → σ[i]? = some (some v) → Vis X.env.scope x → ∃ u, RelV v u ∧ Look X.env s.heap m x u
  cell : ∀ x c, X.env.cells.lookup x = some c → ∃ v, s.heap.IsCell c v
  free : H X.env.locals = none
  freeC : ∀ x c, X.env.cells.lookup x = some c → H c = none
  pin : ∀ p ∈ X.pn ++ pins, s.heap.get? p.1 = some p.2 ∧ H p.1 = none ∧ p.1 ≠ X.env.locals ∧ p.1 ∉ X.fs ∧ ∀ v, p.2.data ≠ .cell v
  hok : HOk X.prog X.w H s.heap
  len : σ.length = X.N.length

section
variable {X : Cx} {pins : List (Addr × Obj)} {σ : List (Option V)} {H H' : Hp} {s : Shared} {h' : Heap}

theorem Cx.Ok.nofr (ok : X.Ok) {b : Addr} {o : Obj} (e : X.base.get? b = some o) : b ∉ X.fs := fun hb => by
  have := (ok.funs.mem hb).1
  rw [e] at this; cases this
theorem Inv.bs (I : Inv X pins σ H s) : ∀ b o, X.base.get? b = some o → s.heap.get? b = some o ∧ H b = none := fun b o e =>
  ⟨I.base.keep b o (I.ok.bs b o e).1 (I.ok.bs b o e).2 (I.ok.nofr e) (I.ok.noex b o e), I.base.free b o (I.ok.bs b o e).1 (I.ok.bs b o e).2 (I.ok.noex b o e)⟩
theorem Inv.bk (I : Inv X pins σ H s) : ∀ b o, X.base.get? b = some o → s.heap.get? b = some o := fun b o e => (I.bs b o e).1
theorem Inv.mod (I : Inv X pins σ H s) : Mod X.K X.mg X.base := I.ok.mod
theorem Inv.kIn (I : Inv X pins σ H s) : X.K.In s.heap := I.ok.mod.kin.keeps I.bk
theorem Inv.nolimit (I : Inv X pins σ H s) : s.heap.NoLimit := I.ok.mod.nolimit.keeps I.bk
/-- the frame over the base: for OpenK's rules (K.In X.base is I.mod.kin) -/
theorem Inv.fr (I : Inv X pins σ H s) : ∃ m, Fr X.base X.env.locals s.heap m :=
  let ⟨m, hn, _⟩ := I.loc
  ⟨m, hn, I.bk, Nat.le_trans I.ok.bsz I.ok.above⟩
theorem Inv.lt (I : Inv X pins σ H s) : X.env.locals < s.heap.objs.size := let ⟨_, hn, _⟩ := I.loc; hn.lt
theorem Inv.sz (I : Inv X pins σ H s) : X.s₀.heap.objs.size ≤ s.heap.objs.size := Nat.le_trans I.ok.above (Nat.le_of_lt I.lt)
theorem Inv.nofs (I : Inv X pins σ H s) {a : Addr} (h : s.heap.objs.size ≤ a) : a ∉ X.fs := fun hb => by
  obtain ⟨_, o, ho, _⟩ := I.ok.funs.mem hb
  exact absurd (Nat.lt_of_lt_of_le (Heap.lt_size ho) (Nat.le_trans I.sz h)) (Nat.lt_irrefl _)
theorem Inv.cne (I : Inv X pins σ H s) : ∀ x c, X.env.cells.lookup x = some c → c ≠ X.env.locals := fun x c e z => by
  obtain ⟨v, o, ho, hd⟩ := I.cell x c e
  obtain ⟨m, ⟨o', es, ep, ho', hd', _⟩, _⟩ := I.loc
  rw [z, ho'] at ho; cases ho; rw [hd'] at hd; cases hd
theorem Inv.funs (I : Inv X pins σ H s) : s.heap.FunFrames X.base X.outer := by
  have all : ∀ (l : List Env), (∀ b ∈ frs l, b ∈ X.fs) → X.s₀.heap.FunFrames X.base l → s.heap.FunFrames X.base l := by
    intro l
    induction l with
    | nil => intro _ _; trivial
    | cons env r ih =>
      intro hs hl
      obtain ⟨hk, ⟨L, o, hf, hn, ho, hd⟩, hr⟩ := hl
      have hL : L ∈ X.fs := hs L (by unfold frs; rw [List.filterMap_cons, hf]; exact List.mem_cons_self)
      obtain ⟨sl, e⟩ := I.base.slot L o ho (I.ok.frf L hL) hL fun z => I.ok.exfs L z hL
      exact ⟨hk, ⟨L, _, hf, hn, e, hd⟩, ih (fun b hb => hs b (by unfold frs; rw [List.filterMap_cons, hf]; exact List.mem_cons_of_mem _ hb)) hr⟩
  exact all X.outer (fun _ hb => hb) I.ok.funs

/-- the frames that run, for a call -/
theorem Inv.stack (I : Inv X pins σ H s) : s.heap.FunFrames X.base X.stack := by
  rcases I.ok.stk with e | ⟨e, hf⟩
  · rw [e]; exact I.funs
  · rw [e]
    obtain ⟨m, hn, _⟩ := I.loc
    refine .cons (by rw [I.ok.kind]; decide) hf hn ?_ I.funs
    exact Heap.get?_none_of_le (Nat.le_trans I.ok.bsz I.ok.above)
theorem Inv.stkSub (I : Inv X pins σ H s) : ∀ b ∈ frs X.stack, b ∈ X.env.locals :: X.fs := fun b hb => by
  rcases I.ok.stk with e | ⟨e, hf⟩
  · rw [e] at hb; exact List.mem_cons_of_mem _ hb
  · rw [e] at hb
    unfold frs at hb
    rw [List.filterMap_cons, hf] at hb
    exact hb
theorem Inv.stkFree (I : Inv X pins σ H s) : ∀ b ∈ frs X.stack, H b = none := fun b hb => by
  rcases List.mem_cons.mp (I.stkSub b hb) with e | hb
  · rw [e]; exact I.free
  · obtain ⟨_, o, ho, _⟩ := I.ok.funs.mem hb
    exact I.base.free b o ho (I.ok.frf b hb) fun z => I.ok.exfs b z hb

/-- THE STEP: the untracked objects but the frame and the records at ch are kept (the callers' frames up to slots), the frame's map is kept, the new abstract heap is held -/
theorem Inv.step {g' : Array GenState} {t' : Nat} {d' : Drawn} {ch : List Addr} (I : Inv X pins σ H s)
    (hch : ∀ b ∈ ch, (b ∈ X.ex ∨ X.s₀.heap.objs.size ≤ b) ∧ b ≠ X.env.locals ∧ (∀ x c, X.env.cells.lookup x = some c → c ≠ b) ∧ ∀ p ∈ X.pn ++ pins, p.1 ≠ b)
    (keep : ∀ b o, b ≠ X.env.locals → b ∉ X.fs → b ∉ ch → s.heap.get? b = some o → H b = none → h'.get? b = some o)
    (slot : ∀ b o, b ≠ X.env.locals → b ∈ X.fs → b ∉ ch → s.heap.get? b = some o → H b = none → ∃ sl, h'.get? b = some { o with slots := sl }) (free : ∀ b o, b ∉ ch → s.heap.get? b = some o → H b = none → H' b = none)
    (there : ∀ b o, b ∉ ch → s.heap.get? b = some o → ∃ o', h'.get? b = some o')
    (tups : ∀ b xs, H b = some (.tup xs) → H' b = some (.tup xs)) (frzs : ∀ b o u, H b = some (.frz o u) → H' b = some (.frz o u)) (tbls : ∀ b ps, H b = some (.tbl ps) → ∃ more, H' b = some (.tbl (ps ++ more)))
    (ns : ∀ m, s.heap.Ns X.env.locals m → h'.Ns X.env.locals m) (hok : HOk X.prog X.w H' h') (hg : AllBare g') :
    Inv X pins σ H' { s with heap := h', gens := g', drawn := d', toks := t' } := by
  have neL : ∀ b o, X.s₀.heap.get? b = some o → b ≠ X.env.locals := fun b o e => Nat.ne_of_lt (Nat.lt_of_lt_of_le (Heap.lt_size e) I.ok.above)
  have neC : ∀ b o, X.s₀.heap.get? b = some o → b ∉ X.ex → b ∉ ch := fun b o e hx hb => by
    rcases (hch b hb).1 with z | z
    · exact hx z
    · exact absurd (Nat.lt_of_lt_of_le (Heap.lt_size e) z) (Nat.lt_irrefl _)
  have cellK : ∀ x c, X.env.cells.lookup x = some c → ∀ v, s.heap.IsCell c v → h'.IsCell c v := fun x c e v ⟨o, ho, hd⟩ => by
    have nch : c ∉ ch := fun z => (hch c z).2.2.1 x c e rfl
    by_cases hc : c ∈ X.fs
    · obtain ⟨sl, q⟩ := slot c o (I.cne x c e) hc nch ho (I.freeC x c e)
      exact ⟨_, q, hd⟩
    · exact ⟨o, keep c o (I.cne x c e) hc nch ho (I.freeC x c e), hd⟩
  refine ⟨I.ok, I.os, hg, ⟨fun b o e n hb hx => ?_, fun b o e n hb hx => ?_, fun b o e n hx => ?_, fun b o e hx => ?_, fun b xs e => tups b xs (I.base.tups b xs e), fun b o xs e => frzs b o xs (I.base.frzs b o xs e), fun b ps e => ?_⟩, ?_, fun x c e => ?_, ?_, fun x c e => ?_, fun p hp => ?_, hok, I.len⟩
  · exact keep b o (neL b o e) hb (neC b o e hx) (I.base.keep b o e n hb hx) (I.base.free b o e n hx)
  · obtain ⟨sl, e1⟩ := I.base.slot b o e n hb hx
    obtain ⟨sl', e2⟩ := slot b _ (neL b o e) hb (neC b o e hx) e1 (I.base.free b o e n hx)
    exact ⟨sl', e2⟩
  · obtain ⟨o', e1⟩ := I.base.there b o e hx
    exact free b o' (neC b o e hx) e1 (I.base.free b o e n hx)
  · obtain ⟨o', e1⟩ := I.base.there b o e hx
    exact there b o' (neC b o e hx) e1
  · obtain ⟨m1, e1⟩ := I.base.tbls b ps e
    obtain ⟨m2, e2⟩ := tbls b _ e1
    exact ⟨m1 ++ m2, by rw [e2, Array.append_assoc]⟩
  · obtain ⟨m, hn, hl⟩ := I.loc
    refine ⟨m, ns m hn, fun i x v e1 e2 e3 => ?_⟩
    obtain ⟨u, r, l⟩ := hl i x v e1 e2 e3
    refine ⟨u, r, ?_⟩
    rcases l with l | ⟨k, c, e, z⟩
    · exact .inl l
    · exact .inr ⟨k, c, e, cellK x c e _ z⟩
  · obtain ⟨v, z⟩ := I.cell x c e
    exact ⟨v, cellK x c e v z⟩
  · obtain ⟨m, ⟨o, _, _, ho, _⟩, _⟩ := I.loc
    exact free _ o (fun z => (hch _ z).2.1 rfl) ho I.free
  · obtain ⟨v, o, ho, hd⟩ := I.cell x c e
    exact free c o (fun z => (hch c z).2.2.1 x c e rfl) ho (I.freeC x c e)
  · obtain ⟨e, n, ne, nf, d⟩ := I.pin p hp
    have nch : p.1 ∉ ch := fun z => (hch p.1 z).2.2.2 p hp rfl
    exact ⟨keep p.1 p.2 ne nf nch e n, free p.1 p.2 nch e n, ne, nf, d⟩
/-- .. where the frame's own object is kept too -/
theorem Inv.un {t' : Nat} (I : Inv X pins σ H s) (u : Un X.fs [] H H' s.heap h') (hok : HOk X.prog X.w H' h') : Inv X pins σ H' { s with heap := h', toks := t' } := by
  obtain ⟨m, ⟨o, es, ep, ho, r⟩, _⟩ := id I.loc
  obtain ⟨sl, hL⟩ := u.any ho I.free (by simp)
  exact I.step (g' := s.gens) (d' := s.drawn) (ch := []) (fun _ z => nomatch z) (fun b o _ hb _ e n => u.keep b o e n hb (by simp)) (fun b o _ hb _ e n => u.slot b o e n hb (by simp)) (fun b o _ e n => u.free b o e n (by simp)) (fun b o _ e => u.there b o e (by simp)) u.tups u.frzs u.tbls (fun m' hm => by
    obtain ⟨o', es', ep', ho', r'⟩ := hm
    rw [ho] at ho'; cases ho'
    exact ⟨_, es', ep', hL, r'⟩) hok I.bare
/-- behind a call (or a comprehension's block): the slots of this frame may have changed too, the records at ch may have turned -/
theorem Inv.call {g' : Array GenState} {t' : Nat} {d' : Drawn} {ch : List Addr} (I : Inv X pins σ H s) (u : Un (frs X.stack) ch H H' s.heap h') (hok : HOk X.prog X.w H' h') (hg : AllBare g')
    (hch : ∀ b ∈ ch, (b ∈ X.ex ∨ X.s₀.heap.objs.size ≤ b) ∧ b ≠ X.env.locals ∧ (∀ x c, X.env.cells.lookup x = some c → c ≠ b) ∧ ∀ p ∈ X.pn ++ pins, p.1 ≠ b) :
    Inv X pins σ H' { s with heap := h', gens := g', drawn := d', toks := t' } := by
  obtain ⟨m, ⟨o, es, ep, ho, r⟩, _⟩ := id I.loc
  obtain ⟨sl, hL⟩ := u.any ho I.free fun z => (hch _ z).2.1 rfl
  exact I.step (ch := ch) hch (fun b o hL hb hc e n => u.keep b o e n (fun z => (List.mem_cons.mp (I.stkSub b z)).elim hL hb) hc) (fun b o _ _ hc e n => u.any e n hc) (fun b o hc e n => u.free b o e n hc) (fun b o hc e => u.there b o e hc) u.tups u.frzs u.tbls (fun m' hm => by
    obtain ⟨o', es', ep', ho', r'⟩ := hm
    rw [ho] at ho'; cases ho'
    exact ⟨_, es', ep', hL, r'⟩) hok hg
/-- an untracked record of ours (an iterator) has turned -/
theorem Inv.turned {t' : Nat} {it : Addr} (I : Inv X pins σ H s) (k : ∀ b o, b ≠ it → s.heap.get? b = some o → h'.get? b = some o) (hn : H it = none) (hL : it ≠ X.env.locals)
    (h1 : it ∈ X.ex ∨ X.s₀.heap.objs.size ≤ it) (h2 : ∀ x c, X.env.cells.lookup x = some c → c ≠ it) (h3 : ∀ p ∈ X.pn ++ pins, p.1 ≠ it) : Inv X pins σ H { s with heap := h', toks := t' } := by
  have nit : ∀ b u, H b = some u → b ≠ it := fun b u e z => by rw [z, hn] at e; cases e
  refine I.step (g' := s.gens) (d' := s.drawn) (ch := [it]) (fun b hb => ?_) (fun b o _ _ hc e _ => k b o (fun z => hc (by simp [z])) e) (fun b o _ _ hc e _ => ⟨o.slots, k b o (fun z => hc (by simp [z])) e⟩) (fun _ _ _ _ n => n)
    (fun b o hc e => ⟨o, k b o (fun z => hc (by simp [z])) e⟩) (fun _ _ e => e) (fun _ _ _ e => e) (fun b ps e => ⟨#[], by rw [e]; simp⟩) (fun m hm => ?_) (fun b u e => ?_) I.bare
  · have e : b = it := by simpa using hb
    subst e
    exact ⟨h1, hL, h2, h3⟩
  · obtain ⟨o, es, ep, ho, r⟩ := hm
    exact ⟨o, es, ep, k _ o (Ne.symm hL) ho, r⟩
  · refine (I.hok b u e).stay (fun c v hc q => k c v ?_ q) (fun _ q => q) fun _ _ q => q
    rcases hc with z | z
    · rw [z]; exact nit b u e
    · exact nit c _ z
theorem Inv.tok (I : Inv X pins σ H s) (t : Nat) : Inv X pins σ H { s with toks := t } := I.un (h' := s.heap) (t' := t) Un.refl I.hok
/-- all objects kept -/
theorem Inv.kept {t' : Nat} (I : Inv X pins σ H s) (k : ∀ b u, s.heap.get? b = some u → h'.get? b = some u) : Inv X pins σ H { s with heap := h', toks := t' } := I.un (Un.kept k) (I.hok.kept k)
/-- a new object laid and tracked -/
theorem Inv.laid {a : Addr} {o : HO} {t' : Nat} (I : Inv X pins σ H s) (k : ∀ b u, s.heap.get? b = some u → h'.get? b = some u) (hp : s.heap.objs.size ≤ a) (new : ObjOk X.prog X.w (upd H a o) h' a o) :
    Inv X pins σ (upd H a o) { s with heap := h', toks := t' } := I.un (Un.laid k hp (I.hok.fresh hp)) (I.hok.laid k hp new)
/-- an object written -/
theorem Inv.write {x e : Addr} {o : HO} {t' : Nat} (I : Inv X pins σ H s) (mu : Mut (H x)) (he : e = x ∨ H e = some (.own x)) (k : ∀ b u, b ≠ e → s.heap.get? b = some u → h'.get? b = some u) (heo : ∃ u, h'.get? e = some u)
    (new : ObjOk X.prog X.w (upd H x o) h' x o) : Inv X pins σ (upd H x o) { s with heap := h', toks := t' } := I.un (Un.write mu he k heo) (I.hok.write mu he k heo new)
/-- forgetting slots, pins -/
theorem Inv.weak {σ' : List (Option V)} (I : Inv X pins σ H s) (hl : σ'.length = σ.length) (w : ∀ (i : Nat) v, σ'[i]? = some (some v) → σ[i]? = some (some v)) : Inv X pins σ' H s :=
  ⟨I.ok, I.os, I.bare, I.base, let ⟨m, hn, hl'⟩ := I.loc; ⟨m, hn, fun i x v e1 e2 e3 => hl' i x v e1 (w i v e2) e3⟩, I.cell, I.free, I.freeC, I.pin, I.hok, hl.trans I.len⟩
theorem Inv.pins_of {pins' : List (Addr × Obj)} (I : Inv X pins σ H s) (h : ∀ p ∈ pins', s.heap.get? p.1 = some p.2 ∧ H p.1 = none ∧ p.1 ≠ X.env.locals ∧ p.1 ∉ X.fs ∧ ∀ v, p.2.data ≠ .cell v) : Inv X pins' σ H s :=
  ⟨I.ok, I.os, I.bare, I.base, I.loc, I.cell, I.free, I.freeC, fun p hp => (List.mem_append.mp hp).elim (fun z => I.pin p (List.mem_append_left _ z)) (h p), I.hok, I.len⟩

theorem nodup_ix {N : List Str} (hN : N.Nodup) {i j : Nat} {x : Str} (a : N[i]? = some x) (b : N[j]? = some x) : i = j := by
  obtain ⟨h1, e1⟩ := List.getElem?_eq_some_iff.mp a
  obtain ⟨h2, e2⟩ := List.getElem?_eq_some_iff.mp b
  exact (List.getElem_inj hN).mp (e1.trans e2.symm)

/-- a name is stored; what changed -/
theorem store_ok2 {M : Model} {A : Around} {E : Value → Shared → Prop} {i : Nat} {x : Str} {v : V} {u : Value} {Q : Unit → Shared → Prop} (I : Inv X pins σ H s) (hN : X.N.Nodup) (hi : X.N[i]? = some x) (hx : Loc X.env.scope x) (r : RelV v u)
    (h : ∀ s', Inv X pins (σ.set i (some v)) H s' → (∃ a, Heap.SameBut a s.heap s'.heap ∧ (a = X.env.locals ∨ X.env.cells.lookup x = some a)) → Q () s') (hf : X.fn x = true ∨ X.env.scope.names.lookup x = some .local := by first | exact .inl rfl | exact .inr rfl | assumption) : wpAny M A (storeName X.env x u) Q E s := by
  obtain ⟨m, hn, hl⟩ := id I.loc
  have hcls : (X.env.scope.kind == .class || (X.env.scope.kind == .module && X.env.locals != X.env.globals)) = false := by rw [I.ok.kind]; rfl
  have hiσ : i < σ.length := by rw [I.len]; exact (List.getElem?_eq_some_iff.mp hi).1
  have cne := I.cne
  have tracked : ∀ {a : Addr} {h' : Heap}, (∃ o, s.heap.get? a = some o ∧ H a = none) → Heap.SameBut a s.heap h' → HOk X.prog X.w H h' := fun {a h'} ha hs b ob e => by
    obtain ⟨_, _, hfree⟩ := ha
    refine (I.hok b ob e).stay (fun c w' hc q => (hs.2 c ?_).trans q) (fun _ q => q) fun _ _ q => q
    rintro rfl
    rcases hc with rfl | hc
    · rw [hfree] at e; cases e
    · rw [hfree] at hc; cases hc
  rcases hx with hk | hk
  · refine wpAny_storeName_local hk hn (fun h' hn' hs => ?_) hcls
    obtain ⟨oL, _, _, hoL, _⟩ := id hn
    refine h _ ⟨I.ok, I.os, I.bare, ⟨fun b o e n hb hx => ?_, fun b o e n hb hx => ?_, I.base.free, fun b o e hx => ?_, I.base.tups, I.base.frzs, I.base.tbls⟩, ⟨_, hn', fun j y v' e1 e2 e3 => ?_⟩, fun y c e => ?_, I.free, I.freeC, fun p hp => ?_, tracked ⟨oL, hoL, I.free⟩ hs, by simpa using I.len⟩ ⟨_, hs, .inl rfl⟩
    · exact (hs.2 b (Nat.ne_of_lt (Nat.lt_of_lt_of_le (Heap.lt_size e) I.ok.above))).trans (I.base.keep b o e n hb hx)
    · obtain ⟨sl, e1⟩ := I.base.slot b o e n hb hx
      exact ⟨sl, (hs.2 b (Nat.ne_of_lt (Nat.lt_of_lt_of_le (Heap.lt_size e) I.ok.above))).trans e1⟩
    · obtain ⟨o', e1⟩ := I.base.there b o e hx
      exact ⟨o', (hs.2 b (Nat.ne_of_lt (Nat.lt_of_lt_of_le (Heap.lt_size e) I.ok.above))).trans e1⟩
    · by_cases hj : j = i
      · subst hj
        rw [hi] at e1; cases e1
        rw [List.getElem?_set_self hiσ] at e2
        cases e2
        exact ⟨u, r, .inl ⟨hk, by simp⟩⟩
      · rw [List.getElem?_set_ne (Ne.symm hj)] at e2
        obtain ⟨u', r', q⟩ := hl j y v' e1 e2 e3
        refine ⟨u', r', ?_⟩
        rcases q with ⟨k, e⟩ | ⟨k, c, e, z⟩
        · refine .inl ⟨k, ?_⟩
          have : y ≠ x := fun e => hj (nodup_ix hN e1 (e ▸ hi))
          simp [this, e]
        · exact .inr ⟨k, c, e, z.sameBut hs (cne y c e)⟩
    · obtain ⟨w', z⟩ := I.cell y c e
      exact ⟨w', z.sameBut hs (cne y c e)⟩
    · obtain ⟨e, n, ne, nf, d⟩ := I.pin p hp
      exact ⟨(hs.2 p.1 ne).trans e, n, ne, nf, d⟩
  · have hfn : X.fn x = true := by
      rcases hf with z | z
      · exact z
      · rw [z] at hk; cases hk
    obtain ⟨c, hc⟩ := I.ok.has x (.inl hk)
    obtain ⟨w', z⟩ := I.cell x c hc
    refine wpAny_storeName_cell I.ok.kind hk hc z (fun h' hc' hs => ?_)
    obtain ⟨oc, hoc, hocd⟩ := id z
    refine h { s with heap := h' } ⟨I.ok, I.os, I.bare, ⟨fun b o e n hb hx => ?_, fun b o e n hb hx => ?_, I.base.free, fun b o e hx => ?_, I.base.tups, I.base.frzs, I.base.tbls⟩, ⟨m, hn.sameBut hs (Ne.symm (cne x c hc)), fun j y v' e1 e2 e3 => ?_⟩, fun y c' e => ?_, I.free, I.freeC, fun p hp => ?_, tracked ⟨oc, hoc, I.freeC x c hc⟩ hs, by simpa using I.len⟩ ⟨c, hs, .inr hc⟩
    · exact (hs.2 b (Nat.ne_of_lt (Nat.lt_of_lt_of_le (Heap.lt_size e) (I.ok.cab x c hfn hc)))).trans (I.base.keep b o e n hb hx)
    · obtain ⟨sl, e1⟩ := I.base.slot b o e n hb hx
      exact ⟨sl, (hs.2 b (Nat.ne_of_lt (Nat.lt_of_lt_of_le (Heap.lt_size e) (I.ok.cab x c hfn hc)))).trans e1⟩
    · obtain ⟨o', e1⟩ := I.base.there b o e hx
      exact ⟨o', (hs.2 b (Nat.ne_of_lt (Nat.lt_of_lt_of_le (Heap.lt_size e) (I.ok.cab x c hfn hc)))).trans e1⟩
    · by_cases hj : j = i
      · subst hj
        rw [hi] at e1; cases e1
        rw [List.getElem?_set_self hiσ] at e2
        cases e2
        exact ⟨u, r, .inr ⟨.inl hk, c, hc, hc'⟩⟩
      · rw [List.getElem?_set_ne (Ne.symm hj)] at e2
        obtain ⟨u', r', q⟩ := hl j y v' e1 e2 e3
        refine ⟨u', r', ?_⟩
        rcases q with q | ⟨k, c', e, z'⟩
        · exact .inl q
        · refine .inr ⟨k, c', e, z'.sameBut hs ?_⟩
          rintro rfl
          exact hj (nodup_ix hN e1 (I.ok.inj _ _ _ e hc ▸ hi))
    · by_cases hcc : c' = c
      · subst hcc; exact ⟨_, hc'⟩
      · obtain ⟨w2, z2⟩ := I.cell y c' e
        exact ⟨w2, z2.sameBut hs hcc⟩
    · obtain ⟨e, n, ne, nf, d⟩ := I.pin p hp
      refine ⟨(hs.2 p.1 ?_).trans e, n, ne, nf, d⟩
      intro q
      rw [q, hoc] at e
      have q' : oc = p.2 := Option.some.inj e
      exact d w' (by rw [← q']; exact hocd)
theorem store_ok {M : Model} {A : Around} {E : Value → Shared → Prop} {i : Nat} {x : Str} {v : V} {u : Value} {Q : Unit → Shared → Prop} (I : Inv X pins σ H s) (hN : X.N.Nodup) (hi : X.N[i]? = some x) (hx : Loc X.env.scope x) (r : RelV v u)
    (h : ∀ s', Inv X pins (σ.set i (some v)) H s' → Q () s') (hf : X.fn x = true ∨ X.env.scope.names.lookup x = some .local := by first | exact .inl rfl | exact .inr rfl | assumption) : wpAny M A (storeName X.env x u) Q E s :=
  store_ok2 I hN hi hx r (fun s' I' _ => h s' I') hf
/-- behind a call or a block, the state as it is -/
theorem Inv.call' {s' : Shared} {ch : List Addr} (I : Inv X pins σ H s) (ho : s'.os = s.os) (u : Un (frs X.stack) ch H H' s.heap s'.heap) (hok : HOk X.prog X.w H' s'.heap) (hg : AllBare s'.gens)
    (hch : ∀ b ∈ ch, (b ∈ X.ex ∨ X.s₀.heap.objs.size ≤ b) ∧ b ≠ X.env.locals ∧ (∀ x c, X.env.cells.lookup x = some c → c ≠ b) ∧ ∀ p ∈ X.pn ++ pins, p.1 ≠ b) : Inv X pins σ H' s' := by
  obtain ⟨h', g', d', t', o'⟩ := s'
  have e : o' = s.os := ho
  subst e
  exact I.call (g' := g') (t' := t') (d' := d') u hok hg hch
end

/-! ### the judgements -/
/-- an exception: its class, its own dict's address (where it has one), the abstract heap behind it -/
abbrev XK := Value → Option Addr → Hp → Prop
abbrev St := List (Option V)
abbrev VK := V → Hp → Prop
/-- an expression's reading; a test's; an argument list's -/
abbrev TE := St → Hp → VK → Prop
abbrev TT := St → Hp → (Bool → Hp → Prop) → Prop
abbrev TA := St → Hp → (List V → Hp → Prop) → Prop
/-- what is wanted behind a statement -/
structure Ends where
  nx : St → Hp → Prop
  rt : VK
  bk : St → Hp → Prop := fun _ _ => False
  ct : St → Hp → Prop := fun _ _ => False
abbrev TS := Ends → St → Hp → Prop

def EP (X : Cx) (pins : List (Addr × Obj)) (σ : St) (Q : VK) (u : Value) (s' : Shared) : Prop := ∃ v H', Inv X pins σ H' s' ∧ RelV v u ∧ Q v H'
def TP (X : Cx) (pins : List (Addr × Obj)) (σ : St) (Q : Bool → Hp → Prop) (b : Bool) (s' : Shared) : Prop := ∃ H', Inv X pins σ H' s' ∧ Q b H'
def AP (X : Cx) (pins : List (Addr × Obj)) (σ : St) (Q : List V → Hp → Prop) (us : List Value) (s' : Shared) : Prop := ∃ vs H', Inv X pins σ H' s' ∧ Vals vs us ∧ Q vs H'
def SP (X : Cx) (pins : List (Addr × Obj)) (D : Ends) (f : Flow) (s' : Shared) : Prop :=
  match f with
  | .next => ∃ σ' H', Inv X pins σ' H' s' ∧ D.nx σ' H'
  | .brk => ∃ σ' H', Inv X pins σ' H' s' ∧ D.bk σ' H'
  | .cont => ∃ σ' H', Inv X pins σ' H' s' ∧ D.ct σ' H'
  | .ret u => ∃ v σ' H', Inv X pins σ' H' s' ∧ RelV v u ∧ D.rt v H'

def PE (X : Cx) (e : Expr) (t : TE) : Prop :=
  ∀ (pins : List (Addr × Obj)) (s : Shared) (σ : St) (H : Hp) (Q : VK), Inv X pins σ H s → t σ H Q → wpAny (model X.prog X.w) X.A (eval e X.env) (EP X pins σ Q) X.xe s
def PT (X : Cx) (e : Expr) (t : TT) : Prop :=
  ∀ (pins : List (Addr × Obj)) (s : Shared) (σ : St) (H : Hp) (Q : Bool → Hp → Prop), Inv X pins σ H s → t σ H Q → wpAny (model X.prog X.w) X.A (isTrue e X.env (eval e X.env)) (TP X pins σ Q) X.xe s
/-- a test whatever its 'whole' is (and, or) -/
def PW (X : Cx) (e : Expr) (t : TT) : Prop :=
  ∀ (whole : Sem Value) (pins : List (Addr × Obj)) (s : Shared) (σ : St) (H : Hp) (Q : Bool → Hp → Prop), Inv X pins σ H s → t σ H Q → wpAny (model X.prog X.w) X.A (isTrue e X.env whole) (TP X pins σ Q) X.xe s
theorem PW.pt {X : Cx} {e : Expr} {t : TT} (h : PW X e t) : PT X e t := h _
/-- an argument list (no star), from the left -/
def PA (X : Cx) (es : List Expr) (t : TA) : Prop :=
  ∀ (pos : Pos) (pins : List (Addr × Obj)) (s : Shared) (σ : St) (H : Hp) (Q : List V → Hp → Prop), Inv X pins σ H s → t σ H Q → wpAny (model X.prog X.w) X.A (spliced (backTo pos (starEach es X.env))) (AP X pins σ Q) X.xe s
def PS (X : Cx) (st : Stmt) (t : TS) : Prop :=
  ∀ (pins : List (Addr × Obj)) (s : Shared) (σ : St) (H : Hp) (D : Ends), Inv X pins σ H s → t D σ H → wpAny (model X.prog X.w) X.A (exec st X.env) (SP X pins D) X.xe s
def PSs (X : Cx) (st : List Stmt) (t : TS) : Prop :=
  ∀ (pins : List (Addr × Obj)) (s : Shared) (σ : St) (H : Hp) (D : Ends), Inv X pins σ H s → t D σ H → wpAny (model X.prog X.w) X.A (execs st X.env) (SP X pins D) X.xe s
/-- weaken the end -/
theorem thn {α : Type} {t : Sem α} {Q Q' : α → Shared → Prop} {M : Model} {A : Around} {E : Value → Shared → Prop} {s : Shared} (h : wpAny M A t Q E s) (hQ : ∀ a s, Q a s → Q' a s) : wpAny M A t Q' E s := wpAny_mono h hQ fun _ _ x => x
end L2

namespace L2
open PySem PySem.Spec PyProof.Rows
section
variable {X : Cx}

/-- two expressions in a row -/
theorem bin {a b : Expr} {ta tb : TE} (ha : PE X a ta) (hb : PE X b tb) {pins : List (Addr × Obj)} {s : Shared} {σ : St} {H : Hp} {R : V → V → Hp → Prop} (I : Inv X pins σ H s) (h : ta σ H fun x H1 => tb σ H1 fun y H2 => R x y H2)
    {α : Type} {Q : α → Shared → Prop} {f : Value → Value → Sem α}
    (hf : ∀ v u s2 x y H2, Inv X pins σ H2 s2 → RelV x v → RelV y u → R x y H2 → wpAny (model X.prog X.w) X.A (f v u) Q X.xe s2) :
    wpAny (model X.prog X.w) X.A (eval a X.env) (fun v s₁ => wpAny (model X.prog X.w) X.A (eval b X.env) (fun u s₂ => wpAny (model X.prog X.w) X.A (f v u) Q X.xe s₂) X.xe s₁) X.xe s := by
  refine thn (ha pins s σ H _ I h) fun v s1 ⟨x, H1, I1, r1, q1⟩ => ?_
  refine thn (hb pins s1 σ H1 _ I1 q1) fun u s2 ⟨y, H2, I2, r2, q2⟩ => ?_
  exact hf v u s2 x y H2 I2 r1 r2 q2

/-! ### names and constants -/
def tVar (i : Nat) : TE := fun σ H Q => ∃ v, σ[i]? = some (some v) ∧ Q v H
def tC (v : V) : TE := fun _ H Q => Q v H
theorem pe_var {i : Nat} {x : Str} {pos : Pos} (hN : X.N[i]? = some x) (hv : Vis X.env.scope x) (hd : (x == ("__debug__" : Str)) = false := by decide) (hcd : (x == ("__classdict__" : Str)) = false := by decide) : PE X (.Name x pos) (tVar i) := by
  intro pins s σ H Q I h
  obtain ⟨v, e, h⟩ := h
  obtain ⟨m, hn, hl⟩ := I.loc
  obtain ⟨u, r, l⟩ := hl i x v hN e hv
  have fin : EP X pins σ Q u s := ⟨v, H, I, r, h⟩
  rcases l with ⟨hk, hm⟩ | ⟨hk, c, hc, hcell⟩
  · exact wpAny_Name (wpAny_loadName_local I.ok.kind hk hn hm fin) hd
  · rcases hk with hk | hk
    · exact wpAny_Name (wpAny_loadName_cell I.ok.kind hk hc hcell fin) hd
    · exact wpAny_Name (wpAny_loadName_free I.ok.kind hk hc hcell fin hcd) hd
theorem pe_int {i j pos} : PE X (.Constant (.int i) j pos) (tC (.int i)) := fun _ _ _ H _ I h => wpAny_Constant_int ⟨.int i, H, I.tok _, ⟨_, rfl⟩, h⟩
theorem pe_bl {b j pos} : PE X (.Constant (.bool b) j pos) (tC (.bl b)) := fun _ _ _ H _ I h => Constant_bool ⟨.bl b, H, I, rfl, h⟩
theorem pe_non {j pos} : PE X (.Constant .none j pos) (tC .non) := fun _ _ _ H _ I h => Constant_none ⟨.non, H, I, rfl, h⟩
theorem pe_str {x j pos} : PE X (.Constant (.str x) j pos) (tC (.str x)) := fun _ _ _ H _ I h => Calls.Constant_str ⟨.str x, H, I.tok _, ⟨_, rfl⟩, h⟩

/-- a global name of the def -/
def Gl (X : Cx) (x : Str) : Prop := X.env.kindOf x = some .globalImplicit
theorem ld_glob {E : Value → Shared → Prop} {pins : List (Addr × Obj)} {s : Shared} {σ : St} {H : Hp} {x : Str} {u : Value} {pos : Pos} {Q : Value → Shared → Prop} (I : Inv X pins σ H s) (hg : Gl X x) (hm : X.mg x = some u) (h : Q u s)
    (hd : (x == ("__debug__" : Str)) = false := by decide) : wpAny (model X.prog X.w) X.A (eval (.Name x pos) X.env) Q E s :=
  Calls.Name_function_global I.ok.kind hg (Calls.loadGlobal_global (by rw [I.ok.glob]; exact I.mod.glob.keeps I.bk) hm h) hd
theorem ld_blt {E : Value → Shared → Prop} {pins : List (Addr × Obj)} {s : Shared} {σ : St} {H : Hp} {x : Str} {u : Value} {pos : Pos} {Q : Value → Shared → Prop} (I : Inv X pins σ H s) (hg : Gl X x) (hm : X.mg x = none) (hv : bootBuiltins x = some u) (h : Q u s)
    (hn : x ≠ "__name__" := by decide) (hd : (x == ("__debug__" : Str)) = false := by decide) : wpAny (model X.prog X.w) X.A (eval (.Name x pos) X.env) Q E s := by
  obtain ⟨mb, h1, h2⟩ := I.mod.blt
  exact Calls.Name_function_global I.ok.kind hg (Calls.loadGlobal_builtin (by rw [I.ok.glob]; exact I.mod.glob.keeps I.bk) hm (by rw [I.ok.blt]; exact h1.keeps I.bk) ((h2 x hn).trans hv) h) hd
/-- a module's constant, a class, a function, as a value -/
theorem pe_glob {x : Str} {v : V} {u : Value} {pos : Pos} (hg : Gl X x) (hm : X.mg x = some u) (r : RelV v u) (hd : (x == ("__debug__" : Str)) = false := by decide) : PE X (.Name x pos) (tC v) :=
  fun _ _ _ H _ I h => ld_glob I hg hm ⟨v, H, I, r, h⟩ hd
theorem pe_bltn {x : Str} {v : V} {u : Value} {pos : Pos} (hg : Gl X x) (hm : X.mg x = none) (hv : bootBuiltins x = some u) (r : RelV v u) (hn : x ≠ "__name__" := by decide) (hd : (x == ("__debug__" : Str)) = false := by decide) : PE X (.Name x pos) (tC v) :=
  fun _ _ _ H _ I h => ld_blt I hg hm hv ⟨v, H, I, r, h⟩ hn hd

/-! ### arithmetic -/
/-- two ints -/
def t2I (ta tb : TE) (k : Int → Int → Hp → Prop) : St → Hp → Prop := fun σ H => ta σ H fun x H1 => tb σ H1 fun y H2 => ∃ i j, x = .int i ∧ y = .int j ∧ k i j H2
def tAdd (ta tb : TE) : TE := fun σ H Q => t2I ta tb (fun i j H2 => Q (.int (i + j)) H2) σ H
def tSub (ta tb : TE) : TE := fun σ H Q => t2I ta tb (fun i j H2 => Q (.int (i - j)) H2) σ H
/-- the left factor below 2^64 -/
def tMul (ta tb : TE) : TE := fun σ H Q => t2I ta tb (fun i j H2 => (-(2 ^ 64) < i ∧ i < 2 ^ 64) ∧ Q (.int (i * j)) H2) σ H
variable {a b : Expr} {ta tb : TE} {pos : Pos}
theorem pe_add (ha : PE X a ta) (hb : PE X b tb) : PE X (.BinOp a .Add b pos) (tAdd ta tb) := by
  intro pins s σ H Q I h
  refine wpAny_BinOp (bin ha hb I h fun v u s2 x y H2 I2 rx ry q => ?_)
  obtain ⟨i, j, rfl, rfl, q⟩ := q
  obtain ⟨t, rfl⟩ := rx
  obtain ⟨t', rfl⟩ := ry
  exact add_int ⟨.int _, H2, I2.tok _, ⟨_, rfl⟩, q⟩
theorem pe_sub (ha : PE X a ta) (hb : PE X b tb) : PE X (.BinOp a .Sub b pos) (tSub ta tb) := by
  intro pins s σ H Q I h
  refine wpAny_BinOp (bin ha hb I h fun v u s2 x y H2 I2 rx ry q => ?_)
  obtain ⟨i, j, rfl, rfl, q⟩ := q
  obtain ⟨t, rfl⟩ := rx
  obtain ⟨t', rfl⟩ := ry
  exact sub_int ⟨.int _, H2, I2.tok _, ⟨_, rfl⟩, q⟩
theorem pe_mul (ha : PE X a ta) (hb : PE X b tb) : PE X (.BinOp a .Mult b pos) (tMul ta tb) := by
  intro pins s σ H Q I h
  refine wpAny_BinOp (bin ha hb I h fun v u s2 x y H2 I2 rx ry q => ?_)
  obtain ⟨i, j, rfl, rfl, ⟨q1, q2⟩, q⟩ := q
  obtain ⟨t, rfl⟩ := rx
  obtain ⟨t', rfl⟩ := ry
  exact mul_int ⟨.int _, H2, I2.tok _, ⟨_, rfl⟩, q⟩ (.of_left (intBits_le_64 q1 q2))

/-! ### comparisons -/
def PC (X : Cx) (op : CmpOp) (a b : Expr) (t : TE) : Prop :=
  ∀ (pins : List (Addr × Obj)) (s : Shared) (σ : St) (H : Hp) (Q : VK), Inv X pins σ H s → t σ H Q →
    wpAny (model X.prog X.w) X.A (eval a X.env) (fun v s₁ => wpAny (model X.prog X.w) X.A (eval b X.env) (fun u s₂ => wpAny (model X.prog X.w) X.A (compareOp op v u) (EP X pins σ Q) X.xe s₂) X.xe s₁) X.xe s
theorem nobehind (b : Expr) {op : CmpOp} (h : op ≠ .In) (h2 : op ≠ .NotIn) : behindInMarks op b = false := by
  have e1 : (op == CmpOp.In) = false := by cases op <;> first | rfl | exact absurd rfl h
  have e2 : (op == CmpOp.NotIn) = false := by cases op <;> first | rfl | exact absurd rfl h2
  cases b <;> simp [behindInMarks, e1, e2]
def tCmp (p : Int → Int → Bool) (ta tb : TE) : TE := fun σ H Q => t2I ta tb (fun i j H2 => Q (.bl (p i j)) H2) σ H
abbrev tLt : TE → TE → TE := tCmp fun i j => decide (i < j)
abbrev tLe : TE → TE → TE := tCmp fun i j => decide (i ≤ j)
abbrev tGt : TE → TE → TE := tCmp fun i j => decide (j < i)
abbrev tGe : TE → TE → TE := tCmp fun i j => decide (j ≤ i)
abbrev tEqI : TE → TE → TE := tCmp fun i j => decide (i = j)
abbrev tNeI : TE → TE → TE := tCmp fun i j => !decide (i = j)
/-- a comparison of two ints, by its rule -/
theorem pc_int {op : CmpOp} {p : Int → Int → Bool} (ha : PE X a ta) (hb : PE X b tb)
    (rule : ∀ (i j : Int) (t u : Tok) (Q : Value → Shared → Prop) (s : Shared), Q (.bool (p i j)) s → wpAny (model X.prog X.w) X.A (compareOp op (.int i t) (.int j u)) Q X.xe s) : PC X op a b (tCmp p ta tb) := by
  intro pins s σ H Q I h
  refine bin ha hb I h fun v u s2 x y H2 I2 rx ry q => ?_
  obtain ⟨i, j, rfl, rfl, q⟩ := q
  obtain ⟨t, rfl⟩ := rx
  obtain ⟨t', rfl⟩ := ry
  exact rule i j t t' _ s2 ⟨.bl _, H2, I2, rfl, q⟩
theorem pc_lt (ha : PE X a ta) (hb : PE X b tb) : PC X .Lt a b (tLt ta tb) := pc_int ha hb fun _ _ _ _ _ _ h => lt_int h
theorem pc_le (ha : PE X a ta) (hb : PE X b tb) : PC X .LtE a b (tLe ta tb) := pc_int ha hb fun _ _ _ _ _ _ h => le_int h
theorem pc_gt (ha : PE X a ta) (hb : PE X b tb) : PC X .Gt a b (tGt ta tb) := pc_int ha hb fun _ _ _ _ _ _ h => gt_int h
theorem pc_ge (ha : PE X a ta) (hb : PE X b tb) : PC X .GtE a b (tGe ta tb) := pc_int ha hb fun _ _ _ _ _ _ h => ge_int h
theorem pc_eqI (ha : PE X a ta) (hb : PE X b tb) : PC X .Eq a b (tEqI ta tb) := pc_int ha hb fun _ _ _ _ _ _ h => eq_int (by rw [Bool.beq_eq_decide_eq]; exact h)
theorem pc_neI (ha : PE X a ta) (hb : PE X b tb) : PC X .NotEq a b (tNeI ta tb) := pc_int ha hb fun _ _ _ _ _ _ h => ne_int (by rw [bne, Bool.beq_eq_decide_eq]; exact h)
/-- is None -/
def tIsN (ta : TE) : TE := fun σ H Q => ta σ H fun x H1 => Q (.bl (decide (x = .non))) H1
def tNotN (ta : TE) : TE := fun σ H Q => ta σ H fun x H1 => Q (.bl (!decide (x = .non))) H1
theorem RelV.none_iff {x : V} {v : Value} (r : RelV x v) : (v == Value.none) = decide (x = .non) := by
  cases x with
  | non => cases r; rfl
  | bl _ => cases r; rfl
  | int _ => obtain ⟨t, rfl⟩ := r; rfl
  | str _ => obtain ⟨t, rfl⟩ := r; rfl
  | byt _ => obtain ⟨t, rfl⟩ := r; rfl
  | flt _ => obtain ⟨t, rfl⟩ := r; rfl
  | ref _ => cases r; rfl
  | ty _ => cases r; rfl
theorem pc_isN {j pos'} (ha : PE X a ta) : PC X .Is a (.Constant .none j pos') (tIsN ta) := by
  intro pins s σ H Q I h
  refine thn (ha pins s σ H _ I h) fun v s1 ⟨x, H1, I1, r1, q1⟩ => ?_
  exact Constant_none (is_none_gen ⟨.bl _, H1, I1, by rw [r1.none_iff]; rfl, q1⟩)
theorem pc_notN {j pos'} (ha : PE X a ta) : PC X .IsNot a (.Constant .none j pos') (tNotN ta) := by
  intro pins s σ H Q I h
  refine thn (ha pins s σ H _ I h) fun v s1 ⟨x, H1, I1, r1, q1⟩ => ?_
  exact Constant_none (isnot_none_gen ⟨.bl _, H1, I1, by rw [r1.none_iff]; rfl, q1⟩)
/-- a comparison as a value, as a test -/
def tB (t : TE) : TT := fun σ H Q => t σ H fun x H1 => ∃ c, x = .bl c ∧ Q c H1
theorem pe_cmp {op : CmpOp} {t : TE} (h : PC X op a b t) (h1 : behindInMarks op b = false := by first | exact nobehind _ (by decide) (by decide) | rfl) : PE X (.Compare a [op] [b] pos) t := fun pins s σ H Q I hw => wpAny_Compare1 (h pins s σ H Q I hw) h1
theorem pt_cmp {op : CmpOp} {t : TE} (h : PC X op a b t) (h1 : behindInMarks op b = false := by first | exact nobehind _ (by decide) (by decide) | rfl) : PT X (.Compare a [op] [b] pos) (tB t) := by
  intro pins s σ H Q I hw
  refine wpAny_isTrue_Compare1 (thn (h pins s σ H _ I hw) fun v s1 h1 => thn h1 fun u s2 h2 => thn h2 fun c s3 ⟨x, H1, I1, r1, q1⟩ => ?_) h1
  obtain ⟨d, rfl, q⟩ := q1
  cases r1
  exact wpAny_truthy_bool ⟨H1, I1, q⟩
/-- an expression whose value is a bool, as a test -/
theorem pt_val {e : Expr} {t : TE} (h : PE X e t) (he : ∀ whole, isTrue e X.env whole = (do let v ← whole; standAt e.pos; holding [v] (truthy v)) := by intro _; rfl) : PT X e (tB t) := by
  intro pins s σ H Q I hw
  refine isTrue_plain (thn (h pins s σ H _ I hw) fun v s1 ⟨x, H1, I1, r1, q1⟩ => ?_) (he _)
  obtain ⟨d, rfl, q⟩ := q1
  cases r1
  exact wpAny_truthy_bool ⟨H1, I1, q⟩

/-! ### and, or, not -/
variable {tA tB' : TT} {rest : List Expr}
def tAnd (t u : TT) : TT := fun σ H Q => t σ H fun c H1 => if c = true then u σ H1 Q else Q false H1
def tOr (t u : TT) : TT := fun σ H Q => t σ H fun c H1 => if c = true then Q true H1 else u σ H1 Q
def tNot (t : TT) : TT := fun σ H Q => t σ H fun c H1 => Q (!c) H1
theorem pw_and1 (ha : PT X a tA) : PW X (.BoolOp .And [a] pos) tA := by
  intro wh pins s σ H Q I h
  refine isTrue_and (thn (ha pins s σ H Q I h) fun c s1 e => ?_)
  cases c with
  | true => exact isTrue_and_nil e
  | false => exact e
theorem pw_or1 (ha : PT X a tA) : PW X (.BoolOp .Or [a] pos) tA := by
  intro wh pins s σ H Q I h
  refine isTrue_or (thn (ha pins s σ H Q I h) fun c s1 e => ?_)
  cases c with
  | false => exact isTrue_or_nil e
  | true => exact e
theorem pw_and (ha : PT X a tA) (hb : PW X (.BoolOp .And (b :: rest) pos) tB') : PW X (.BoolOp .And (a :: b :: rest) pos) (tAnd tA tB') := by
  intro wh pins s σ H Q I h
  refine isTrue_and (thn (ha pins s σ H _ I h) fun c s1 ⟨H1, I1, q1⟩ => ?_)
  cases c with
  | true => exact hb wh pins s1 σ H1 Q I1 q1
  | false => exact ⟨H1, I1, q1⟩
theorem pw_or (ha : PT X a tA) (hb : PW X (.BoolOp .Or (b :: rest) pos) tB') : PW X (.BoolOp .Or (a :: b :: rest) pos) (tOr tA tB') := by
  intro wh pins s σ H Q I h
  refine isTrue_or (thn (ha pins s σ H _ I h) fun c s1 ⟨H1, I1, q1⟩ => ?_)
  cases c with
  | true => exact ⟨H1, I1, q1⟩
  | false => exact hb wh pins s1 σ H1 Q I1 q1
theorem pt_not (ha : PT X a tA) : PT X (.UnaryOp .Not a pos) (tNot tA) := by
  intro pins s σ H Q I h
  exact isTrue_not (ha pins s σ H (fun c H1 => Q (!c) H1) I h)
/-- .. as values (bools) -/
def tAndV (ta tb : TE) : TE := fun σ H Q => ta σ H fun x H1 => ∃ c, x = .bl c ∧ if c = true then tb σ H1 Q else Q (.bl false) H1
def tOrV (ta tb : TE) : TE := fun σ H Q => ta σ H fun x H1 => ∃ c, x = .bl c ∧ if c = true then Q (.bl true) H1 else tb σ H1 Q
def tNotV (ta : TE) : TE := fun σ H Q => ta σ H fun x H1 => ∃ c, x = .bl c ∧ Q (.bl (!c)) H1
theorem pe_one {op} {t : TE} (h : PE X a t) : PE X (.BoolOp op [a] pos) t := fun pins s σ H Q I hw => BoolOp_one (h pins s σ H Q I hw)
theorem pe_and (ha : PE X a ta) (hb : PE X (.BoolOp .And (b :: rest) pos) tb) : PE X (.BoolOp .And (a :: b :: rest) pos) (tAndV ta tb) := by
  intro pins s σ H Q I h
  refine BoolOp_and (thn (ha pins s σ H _ I h) fun v s1 ⟨x, H1, I1, r1, q1⟩ => ?_)
  obtain ⟨c, rfl, q1⟩ := q1
  cases r1
  refine wpAny_truthy_bool ?_
  cases c with
  | true => exact hb pins s1 σ H1 Q I1 q1
  | false => exact ⟨.bl false, H1, I1, rfl, q1⟩
theorem pe_or (ha : PE X a ta) (hb : PE X (.BoolOp .Or (b :: rest) pos) tb) : PE X (.BoolOp .Or (a :: b :: rest) pos) (tOrV ta tb) := by
  intro pins s σ H Q I h
  refine BoolOp_or (thn (ha pins s σ H _ I h) fun v s1 ⟨x, H1, I1, r1, q1⟩ => ?_)
  obtain ⟨c, rfl, q1⟩ := q1
  cases r1
  refine wpAny_truthy_bool ?_
  cases c with
  | false => exact hb pins s1 σ H1 Q I1 q1
  | true => exact ⟨.bl true, H1, I1, rfl, q1⟩
theorem pe_not (ha : PE X a ta) : PE X (.UnaryOp .Not a pos) (tNotV ta) := by
  intro pins s σ H Q I h
  refine UnaryOp_ (thn (ha pins s σ H _ I h) fun v s1 ⟨x, H1, I1, r1, q1⟩ => ?_)
  obtain ⟨c, rfl, q1⟩ := q1
  cases r1
  exact not_of (wpAny_truthy_bool ⟨.bl (!c), H1, I1, rfl, q1⟩)
/-- a if t else b -/
def tIf (t : TT) (ta tb : TE) : TE := fun σ H Q => t σ H fun c H1 => if c = true then ta σ H1 Q else tb σ H1 Q
theorem pe_ifExp {c : Expr} (hc : PT X c tA) (ha : PE X a ta) (hb : PE X b tb) : PE X (.IfExp c a b pos) (tIf tA ta tb) := by
  intro pins s σ H Q I h
  refine wpAny_IfExp (thn (hc pins s σ H _ I h) fun d s1 ⟨H1, I1, q1⟩ => ?_)
  cases d with
  | true => exact ha pins s1 σ H1 Q I1 q1
  | false => exact hb pins s1 σ H1 Q I1 q1
end
end L2

namespace L2
open PySem PySem.Spec PyProof.Rows

/-! ### a list, a tuple that is read: tracked, frozen, or an object of the module -/
def SqL (K : PySem.W.Frag) (H : Hp) (a : Addr) (xs : List V) : Prop :=
  Rd H a (.lst xs) ∨
    ∃ (o : Obj) (its : Array Value) (n : Nat), K.lookup a = some o ∧ o.cls = .type "list" ∧ o.dict = none ∧ o.data = .seq its n ∧ its.size ≤ sizeLine ∧ Vals xs its.toList
def SqT (K : PySem.W.Frag) (H : Hp) (a : Addr) (xs : List V) : Prop :=
  Rd H a (.tup xs) ∨
    ∃ (o : Obj) (its : Array Value) (n : Nat), K.lookup a = some o ∧ o.cls = .type "tuple" ∧ o.data = .seq its n ∧ its.size ≤ sizeLine ∧ Vals xs its.toList
def absV : Value → Option V
  | .none => some .non
  | .bool b => some (.bl b)
  | .int i _ => some (.int i)
  | .str x _ => some (.str x)
  | .bytes b _ => some (.byt b)
  | .float b _ => some (.flt b)
  | .ref a => some (.ref a)
  | .type n => some (.ty n)
  | _ => none
theorem RelV.abs {x : V} {u : Value} (r : RelV x u) : absV u = some x := by
  cases x with
  | non => cases r; rfl
  | bl _ => cases r; rfl
  | int _ => obtain ⟨t, rfl⟩ := r; rfl
  | str _ => obtain ⟨t, rfl⟩ := r; rfl
  | byt _ => obtain ⟨t, rfl⟩ := r; rfl
  | flt _ => obtain ⟨t, rfl⟩ := r; rfl
  | ref _ => cases r; rfl
  | ty _ => cases r; rfl
theorem RelV.inj {x y : V} {u : Value} (r : RelV x u) (q : RelV y u) : x = y := Option.some.inj (r.abs.symm.trans q.abs)
theorem Vals.inj : ∀ {xs ys : List V} {us : List Value}, Vals xs us → Vals ys us → xs = ys
  | _, _, _, .nil, .nil => rfl
  | _, _, _, .cons r t, .cons r' t' => by rw [r.inj r', Vals.inj t t']
section
variable {X : Cx} {pins : List (Addr × Obj)} {σ : St} {H : Hp} {s : Shared} {a : Addr} {xs ys : List V}
theorem SqL.of {K : PySem.W.Frag} (h : H a = some (.lst xs)) : SqL K H a xs := .inl (.inl h)
theorem SqT.of {K : PySem.W.Frag} (h : H a = some (.tup xs)) : SqT K H a xs := .inl (.inl h)
theorem Inv.list (I : Inv X pins σ H s) (h : SqL X.K H a xs) : ∃ its : List Value, Vals xs its ∧ PlainL s.heap a its.toArray ∧ xs.length ≤ sizeLine := by
  rcases h with h | ⟨o, its, n, hk, hc, hd, hs, hz, r⟩
  · obtain ⟨z, its, n, r, e⟩ := h.ok I.hok
    exact ⟨its, r, ⟨_, n, e, rfl, rfl, rfl⟩, z⟩
  · refine ⟨its.toList, r, ⟨o, n, I.kIn a o hk, hc, hd, by simpa using hs⟩, ?_⟩
    have e := r.length
    simp only [Array.length_toList] at e
    omega
theorem Inv.tuple (I : Inv X pins σ H s) (h : SqT X.K H a xs) : ∃ its : List Value, Vals xs its ∧ IsTup s.heap a its.toArray ∧ xs.length ≤ sizeLine := by
  rcases h with h | ⟨o, its, n, hk, hc, hs, hz, r⟩
  · obtain ⟨z, its, r, p⟩ := h.ok I.hok
    exact ⟨its, r, p, z⟩
  · refine ⟨its.toList, r, ⟨o, I.kIn a o hk, hc, n, by simpa using hs⟩, ?_⟩
    have e := r.length
    simp only [Array.length_toList] at e
    omega
theorem Inv.list_inj (I : Inv X pins σ H s) (h : SqL X.K H a xs) (h' : SqL X.K H a ys) : xs = ys := by
  obtain ⟨its, r, ⟨o, n, e, _, _, d⟩, _⟩ := I.list h
  obtain ⟨its', r', ⟨o', n', e', _, _, d'⟩, _⟩ := I.list h'
  rw [e] at e'; cases e'
  rw [d] at d'
  injection d' with d1 _
  have : its = its' := by simpa using congrArg Array.toList d1
  subst this
  exact r.inj r'
theorem Inv.tuple_inj (I : Inv X pins σ H s) (h : SqT X.K H a xs) (h' : SqT X.K H a ys) : xs = ys := by
  obtain ⟨its, r, ⟨o, e, _, n, d⟩, _⟩ := I.tuple h
  obtain ⟨its', r', ⟨o', e', _, n', d'⟩, _⟩ := I.tuple h'
  rw [e] at e'; cases e'
  rw [d] at d'
  injection d' with d1 _
  have : its = its' := by simpa using congrArg Array.toList d1
  subst this
  exact r.inj r'
end

/-! ### another wish about exceptions -/
abbrev Cx.wish (X : Cx) (E : Value → Shared → Prop) : Cx := { X with xe := E }
/-- no exception leaves -/
abbrev Cx.nox (X : Cx) : Cx := X.wish fun _ _ => False
theorem Cx.Ok.wish {X : Cx} (ok : X.Ok) (E : Value → Shared → Prop) : (X.wish E).Ok :=
  ⟨ok.mod, ok.kind, ok.glob, ok.blt, ok.above, ok.inj, ok.has, ok.cab, ok.hd, ok.frames, ok.stk, ok.exf, ok.bs, ok.bsz, ok.noex, ok.exfs, ok.funs, ok.frf⟩
theorem Cx.Ok.unwish {X : Cx} {E : Value → Shared → Prop} (ok : (X.wish E).Ok) : X.Ok :=
  ⟨ok.mod, ok.kind, ok.glob, ok.blt, ok.above, ok.inj, ok.has, ok.cab, ok.hd, ok.frames, ok.stk, ok.exf, ok.bs, ok.bsz, ok.noex, ok.exfs, ok.funs, ok.frf⟩
section
variable {X : Cx} {pins : List (Addr × Obj)} {σ : St} {H : Hp} {s : Shared} {E : Value → Shared → Prop}
theorem Inv.wish (I : Inv X pins σ H s) (E : Value → Shared → Prop) : Inv (X.wish E) pins σ H s := ⟨I.ok.wish E, I.os, I.bare, I.base, I.loc, I.cell, I.free, I.freeC, I.pin, I.hok, I.len⟩
theorem Inv.unwish (I : Inv (X.wish E) pins σ H s) : Inv X pins σ H s := ⟨I.ok.unwish, I.os, I.bare, I.base, I.loc, I.cell, I.free, I.freeC, I.pin, I.hok, I.len⟩
theorem SP.unwish {D : Ends} {f : Flow} {s' : Shared} (h : SP (X.wish E) pins D f s') : SP X pins D f s' := by
  cases f with
  | next => obtain ⟨σ', H', I, q⟩ := h; exact ⟨σ', H', I.unwish, q⟩
  | brk => obtain ⟨σ', H', I, q⟩ := h; exact ⟨σ', H', I.unwish, q⟩
  | cont => obtain ⟨σ', H', I, q⟩ := h; exact ⟨σ', H', I.unwish, q⟩
  | ret u => obtain ⟨v, σ', H', I, r, q⟩ := h; exact ⟨v, σ', H', I.unwish, r, q⟩
theorem PE.nox {e : Expr} {t : TE} (h : PE X.nox e t) : PE X e t := fun pins s σ H Q I hw =>
  wpAny_mono (h pins s σ H Q (I.wish _) hw) (fun _ _ ⟨v, H', I', r, q⟩ => ⟨v, H', I'.unwish, r, q⟩) fun _ _ z => False.elim z
theorem PT.nox {e : Expr} {t : TT} (h : PT X.nox e t) : PT X e t := fun pins s σ H Q I hw =>
  wpAny_mono (h pins s σ H Q (I.wish _) hw) (fun _ _ ⟨H', I', q⟩ => ⟨H', I'.unwish, q⟩) fun _ _ z => False.elim z
theorem PSs.nox {st : List Stmt} {t : TS} (h : PSs X.nox st t) : PSs X st t := fun pins s σ H D I hw =>
  wpAny_mono (h pins s σ H D (I.wish _) hw) (fun _ _ q => q.unwish) fun _ _ z => False.elim z
end

/-! ### blocks and small statements -/
section
variable {X : Cx} {st : Stmt} {rest : List Stmt} {t u : TS} {e : Expr} {te : TE} {pos : Pos}
def tNext : TS := fun D σ H => D.nx σ H
def tSeq (t u : TS) : TS := fun D σ H => t { D with nx := u D } σ H
theorem pss_nil : PSs X [] tNext := fun _ _ σ H _ I h => wpAny_execs_nil ⟨σ, H, I, h⟩
theorem pss_cons (h1 : PS X st t) (h2 : PSs X rest u) : PSs X (st :: rest) (tSeq t u) := by
  intro pins s σ H D I h
  refine wpAny_execs_cons (thn (h1 pins s σ H { D with nx := u D } I h) fun f s1 q => ?_)
  cases f with
  | next =>
    obtain ⟨σ', H', I', q⟩ := q
    exact h2 pins s1 σ' H' D I' q
  | ret v => exact q
  | brk => exact q
  | cont => exact q
theorem pss_one (h1 : PS X st t) : PSs X [st] t := by
  intro pins s σ H D I h
  refine wpAny_execs_cons (thn (h1 pins s σ H D I h) fun f s1 q => ?_)
  cases f with
  | next => exact wpAny_execs_nil q
  | ret v => exact q
  | brk => exact q
  | cont => exact q
def tBreak : TS := fun D σ H => D.bk σ H
def tCont : TS := fun D σ H => D.ct σ H
theorem ps_pass : PS X (.Pass pos) tNext := fun _ _ σ H _ I h => wpAny_Pass ⟨σ, H, I, h⟩
theorem ps_break : PS X (.Break pos) tBreak := fun _ _ σ H _ I h => wpAny_Break ⟨σ, H, I, h⟩
theorem ps_continue : PS X (.Continue pos) tCont := fun _ _ σ H _ I h => wpAny_Continue ⟨σ, H, I, h⟩
/-- in a def's body nothing is shown -/
theorem Inv.quiet {pins : List (Addr × Obj)} {σ : St} {H : Hp} {s : Shared} (I : Inv X pins σ H s) : interactive X.env = false := by simp [interactive, I.ok.kind]
/-- a docstring -/
theorem ps_doc {x j pos pos'} : PS X (.Expr (.Constant (.str x) j pos) pos') tNext := fun _ s σ H _ I h => wpAny_Expr (Calls.Constant_str (show SP X _ _ .next { s with toks := s.toks + 1 } from ⟨σ, H, I.tok _, h⟩)) I.quiet
/-- an expression whose value is dropped -/
def tDrop (te : TE) : TS := fun D σ H => te σ H fun _ H1 => D.nx σ H1
theorem ps_expr (he : PE X e te) (hs : swapsWith e none pos.line X.env = pure false := by rfl) : PS X (.Expr e pos) (tDrop te) := by
  intro pins s σ H D I h
  exact wpAny_Expr_any (thn (he pins s σ H _ I h) fun v s1 ⟨x, H1, I1, r1, q1⟩ => ⟨σ, H1, I1, q1⟩) I.quiet hs
def tRet (te : TE) : TS := fun D σ H => te σ H D.rt
theorem ps_ret (he : PE X e te) : PS X (.Return (some e) pos) (tRet te) := by
  intro pins s σ H D I h
  exact wpAny_Return_some (thn (he pins s σ H _ I h) fun v s1 ⟨x, H1, I1, r1, q1⟩ => ⟨x, σ, H1, I1, r1, q1⟩)
def tRetN : TS := fun D _ H => D.rt .non H
theorem ps_retN : PS X (.Return none pos) tRetN := fun _ _ σ H _ I h => wpAny_Return_none ⟨.non, σ, H, I, rfl, h⟩
def tIfS (c : TT) (t u : TS) : TS := fun D σ H => c σ H fun b H1 => if b = true then t D σ H1 else u D σ H1
theorem ps_if {c : Expr} {a b : List Stmt} {tc : TT} (hc : PT X c tc) (ha : PSs X a t) (hb : PSs X b u) : PS X (.If c a b pos) (tIfS tc t u) := by
  intro pins s σ H D I h
  refine wpAny_If (thn (hc pins s σ H _ I h) fun d s1 ⟨H1, I1, q1⟩ => ?_)
  cases d with
  | true => exact ha pins s1 σ H1 D I1 q1
  | false => exact hb pins s1 σ H1 D I1 q1
/-- code that the proof never comes to -/
def tNever : TS := fun _ _ _ => False
theorem ps_never : PS X st tNever := fun _ _ _ _ _ _ h => h.elim
theorem pss_never {sts : List Stmt} : PSs X sts tNever := fun _ _ _ _ _ _ h => h.elim
end

/-! ### targets -/
abbrev TG := V → St → Hp → (St → Hp → Prop) → Prop
abbrev TGs := List V → St → Hp → (St → Hp → Prop) → Prop
def PG (X : Cx) (target : Expr) (t : TG) : Prop :=
  ∀ (pins : List (Addr × Obj)) (s : Shared) (σ : St) (H : Hp) (v : V) (u : Value) (Q : St → Hp → Prop), Inv X pins σ H s → RelV v u → t v σ H Q →
    wpAny (model X.prog X.w) X.A (assign target X.env u) (fun _ s' => ∃ σ' H', Inv X pins σ' H' s' ∧ Q σ' H') X.xe s
/-- several targets, one after another -/
def PGs (X : Cx) (ts : List Expr) (t : TGs) : Prop :=
  ∀ (pins : List (Addr × Obj)) (s : Shared) (σ : St) (H : Hp) (vs : List V) (us : List Value) (Q : St → Hp → Prop), Inv X pins σ H s → Vals vs us → t vs σ H Q →
    wpAny (model X.prog X.w) X.A (assignInOrder ((assignEach ts X.env).map (·.2)) us) (fun _ s' => ∃ σ' H', Inv X pins σ' H' s' ∧ Q σ' H') X.xe s
/-- o[i] = v, by values -/
abbrev TSet := V → V → V → Hp → (Hp → Prop) → Prop
def PSet (X : Cx) (t : TSet) : Prop :=
  ∀ (pins : List (Addr × Obj)) (s : Shared) (σ : St) (H : Hp) (o i v : V) (ov iv u : Value) (Q : Hp → Prop), Inv X pins σ H s → RelV o ov → RelV i iv → RelV v u → t o i v H Q →
    wpAny (model X.prog X.w) X.A (setItem ov iv u) (fun _ s' => ∃ H', Inv X pins σ H' s' ∧ Q H') X.xe s
/-- a op= b, by values -/
abbrev TIp := V → V → Hp → VK → Prop
def PIp (X : Cx) (op : Operator) (t : TIp) : Prop :=
  ∀ (pins : List (Addr × Obj)) (s : Shared) (σ : St) (H : Hp) (x y : V) (v u : Value) (Q : VK), Inv X pins σ H s → RelV x v → RelV y u → t x y H Q →
    wpAny (model X.prog X.w) X.A (inplaceOp op v u) (EP X pins σ Q) X.xe s
section
variable {X : Cx} {pos : Pos}
def gName (i : Nat) : TG := fun v σ H Q => Q (σ.set i (some v)) H
theorem pg_name {i : Nat} {x : Str} (hN : X.N.Nodup) (hi : X.N[i]? = some x) (hx : Loc X.env.scope x) (hf : X.fn x = true ∨ X.env.scope.names.lookup x = some .local := by first | exact .inl rfl | exact .inr rfl | assumption) : PG X (.Name x pos) (gName i) := by
  intro pins s σ H v u Q I r h
  exact wpAny_assign_Name (store_ok I hN hi hx r (fun s' I' => ⟨_, H, I', h⟩) hf)
def gNil : TGs := fun vs σ H Q => vs = [] ∧ Q σ H
def gCons (t : TG) (u : TGs) : TGs := fun vs σ H Q => ∃ v r, vs = v :: r ∧ t v σ H fun σ' H' => u r σ' H' Q
theorem pgs_nil : PGs X [] gNil := by
  intro pins s σ H vs us Q I r h
  obtain ⟨e, h⟩ := h
  subst e
  cases r
  exact assignInOrder_nil ⟨σ, H, I, h⟩
theorem pgs_cons {e : Expr} {es : List Expr} {t : TG} {u : TGs} (h1 : PG X e t) (h2 : PGs X es u)
    (hs : (assignEach (e :: es) X.env).map (·.2) = assign e X.env :: (assignEach es X.env).map (·.2) := by rfl) : PGs X (e :: es) (gCons t u) := by
  intro pins s σ H vs us Q I r h
  obtain ⟨v, vr, e1, h⟩ := h
  subst e1
  cases r with
  | cons r rr =>
    rw [hs]
    refine assignInOrder_cons (thn (h1 pins s σ H _ _ _ I r h) fun _ s1 ⟨σ1, H1, I1, q1⟩ => ?_)
    exact h2 pins s1 σ1 H1 _ _ Q I1 rr q1
/-- (a, b, ..) = a tuple of that length -/
def gTup (K : PySem.W.Frag) (n : Nat) (t : TGs) : TG := fun v σ H Q => ∃ a xs, v = .ref a ∧ SqT K H a xs ∧ xs.length = n ∧ t xs σ H Q
theorem pg_tup {es : List Expr} {k : Nat} {t : TGs} {n : Nat} (hc : X.calm = true) (h : PGs X es t)
    (hn : (assignEach es X.env).length = n := by rfl) (hst : (assignEach es X.env).findIdx? (·.1) = none := by rfl) : PG X (.Tuple es k pos) (gTup X.K n t) := by
  intro pins s σ H v u Q I r hw
  obtain ⟨a, xs, e1, hq, hl, hw⟩ := hw
  subst e1
  cases r
  obtain ⟨its, rv, ht, hz⟩ := I.tuple hq
  refine assign_Tuple_tuple (I.ok.hd hc) ht (by simp [hn, ← hl, rv.length]) hst fun h' hx => ?_
  have I1 : Inv X pins σ H { s with heap := h' } := I.kept (t' := s.toks) fun b o e => hx b o (Nat.ne_of_lt (Heap.lt_size e)) e
  exact h pins _ σ H xs _ Q I1 (by simpa using rv) hw
/-- o[i] = .. -/
def gSub (to ti : TE) (t : TSet) : TG := fun v σ H Q => to σ H fun o H1 => ti σ H1 fun i H2 => t o i v H2 fun H3 => Q σ H3
theorem pg_sub {o i : Expr} {to ti : TE} {t : TSet} (ho : PE X o to) (hi : PE X i ti) (hs : PSet X t)
    (ha : ∀ v, assign (.Subscript o i pos) X.env v = (do
      let ov ← holding [v] (eval o X.env)
      let iv ← holding [v, ov] (eval i X.env)
      standAt pos
      holding [v, ov, iv] (setItem ov iv v)
      release [v, ov, iv] []) := by intro _; rfl) : PG X (.Subscript o i pos) (gSub to ti t) := by
  intro pins s σ H v u Q I r h
  rw [ha]
  refine wpAny_bind (wpAny_holding (thn (ho pins s σ H _ I h) fun ov s1 ⟨x, H1, I1, r1, q1⟩ => ?_))
  refine wpAny_bind (wpAny_holding (thn (hi pins s1 σ H1 _ I1 q1) fun iv s2 ⟨y, H2, I2, r2, q2⟩ => ?_))
  refine wpAny_bind (wpAny_standAt (wpAny_bind (wpAny_holding (thn (hs pins s2 σ H2 x y v ov iv u _ I2 r1 r2 r q2) fun _ s3 ⟨H3, I3, q3⟩ => ?_))))
  exact wpAny_release ⟨σ, H3, I3, q3⟩
/-- target = value -/
def tAsg (te : TE) (g : TG) : TS := fun D σ H => te σ H fun x H1 => g x σ H1 D.nx
theorem ps_asg {tg e : Expr} {te : TE} {g : TG} (he : PE X e te) (hg : PG X tg g) (hs : swapsWithSole [tg] e pos.line X.env = pure false := by rfl) (hw : swappedStores [tg] e X.env = pure none := by rfl)
    (h1 : (assignEach [tg] X.env).map (·.2) = [assign tg X.env] := by rfl) : PS X (.Assign [tg] e pos) (tAsg te g) := by
  intro pins s σ H D I h
  refine wpAny_Assign_stores (thn (he pins s σ H _ I h) fun v s1 ⟨x, H1, I1, r1, q1⟩ => ?_) hs hw
  rw [h1]
  exact thn (hg pins s1 σ H1 x v _ I1 r1 q1) fun _ s2 q => q
/-- name = value -/
theorem ps_set {i : Nat} {x : Str} {e : Expr} {te : TE} {pos' : Pos} (hN : X.N.Nodup) (hi : X.N[i]? = some x) (hx : Loc X.env.scope x) (he : PE X e te) (hs : swapsWith e (some (.Name x pos')) pos.line X.env = pure false := by rfl) (hf : X.fn x = true ∨ X.env.scope.names.lookup x = some .local := by first | exact .inl rfl | exact .inr rfl | assumption) :
    PS X (.Assign [.Name x pos'] e pos) (tAsg te (gName i)) := by
  intro pins s σ H D I h
  refine wpAny_Assign_Name (thn (he pins s σ H _ I h) fun v s1 ⟨y, H1, I1, r1, q1⟩ => ?_) hs
  exact store_ok I1 hN hi hx r1 (fun s2 I2 => ⟨_, H1, I2, q1⟩) hf
/-- a, b = x, y with plain local names: stored from the right; the pair itself is not tracked (the opening rows as in PyProof/Rows/TupAssign.lean:23) -/
def tPar (i j : Nat) (ta : TA) : TS := fun D σ H => ta σ H fun vs H1 => ∃ v w, vs = [v, w] ∧ D.nx ((σ.set i (some v)).set j (some w)) H1
theorem ps_par {i j : Nat} {x y : Str} {a b : Expr} {ta : TA} {px py pt : Pos} {kt k2 pt2} (hc : X.calm = true) (hN : X.N.Nodup) (hi : X.N[i]? = some x) (hj : X.N[j]? = some y) (hij : i ≠ j)
    (hx : X.env.scope.names.lookup x = some .local) (hy : X.env.scope.names.lookup y = some .local) (ha : PA X [a, b] ta)
    (hw : swappedStores [.Tuple [.Name x px, .Name y py] kt pt] (.Tuple [a, b] k2 pt2) X.env = pure (some [x, y]))
    (hs : swapsWithSole [.Tuple [.Name x px, .Name y py] kt pt] (.Tuple [a, b] k2 pt2) pos.line X.env = pure false := by rfl) :
    PS X (.Assign [.Tuple [.Name x px, .Name y py] kt pt] (.Tuple [a, b] k2 pt2) pos) (tPar i j ta) := by
  intro pins s σ H D I h
  rw [exec_Assign_arm]
  refine wpAny_bind (wpAny_standAt ?_)
  rw [hs]
  refine wpAny_bind (wpAny_pure ?_)
  rw [if_neg (by decide)]
  refine wpAny_bind (Tuple_ (thn (ha _ pins s σ H _ I h) fun us s1 ⟨vs, H1, I1, r1, q1⟩ => ?_))
  obtain ⟨v, w, e1, q1⟩ := q1
  subst e1
  obtain ⟨u1, u2, rfl, rv, rw'⟩ : ∃ u1 u2, us = [u1, u2] ∧ RelV v u1 ∧ RelV w u2 := by
    cases r1 with
    | cons p q =>
      cases q with
      | cons p' q' =>
        cases q'
        exact ⟨_, _, rfl, p, p'⟩
  refine wpAny_newObj_type ?_ (by show 2 ≤ sizeLine; decide)
  have I2 : Inv X pins σ H1 { s1 with heap := s1.heap.push { cls := .type "tuple", data := .seq [u1, u2].toArray } } := I1.kept (t' := s1.toks) fun b o e => Heap.get?_push_of_some _ e
  rw [hw]
  refine wpAny_bind (wpAny_pure ?_)
  show wpAny (model X.prog X.w) X.A (do rule "assign.swapped-stores"; let items ← unpackItems (.ref s1.heap.objs.size) 2 none; assignInOrder [fun v => bindName X.env y v, fun v => bindName X.env x v] items.reverse; pure Flow.next) _ _ _
  refine wpAny_bind (wpAny_rule (wpAny_bind (unpackItems_tuple (items := #[u1, u2]) (I.ok.hd hc) (IsTup.new s1.heap _) fun h' hx' => ?_)))
  have I3 := I2.kept (h' := h') (t' := s1.toks) fun b o e => hx' b o (Nat.ne_of_lt (Heap.lt_size e)) e
  show wpAny _ _ (assignInOrder [fun v => bindName X.env y v, fun v => bindName X.env x v] [u2, u1] >>= fun _ => pure Flow.next) _ _ _
  refine wpAny_bind (assignInOrder_cons (wpAny_bindName (store_ok I3 hN hj (.inl hy) rw' (fun s2 I4 => ?_) (.inr hy))))
  refine assignInOrder_cons (wpAny_bindName (store_ok I4 hN hi (.inl hx) rv (fun s3 I5 => assignInOrder_nil (wpAny_pure ?_)) (.inr hx)))
  rw [List.set_comm _ _ (Ne.symm hij)] at I5
  exact ⟨_, H1, I5, q1⟩
/-- name op= e -/
def tAug (i : Nat) (te : TE) (ti : TIp) : TS := fun D σ H => ∃ x, σ[i]? = some (some x) ∧ te σ H fun y H1 => ti x y H1 fun z H2 => D.nx (σ.set i (some z)) H2
theorem ps_aug {i : Nat} {x : Str} {e : Expr} {te : TE} {op : Operator} {ti : TIp} {pos' : Pos} (hN : X.N.Nodup) (hi : X.N[i]? = some x) (hx : Loc X.env.scope x) (he : PE X e te) (ho : PIp X op ti) (hf : X.fn x = true ∨ X.env.scope.names.lookup x = some .local := by first | exact .inl rfl | exact .inr rfl | assumption) :
    PS X (.AugAssign (.Name x pos') op e pos) (tAug i te ti) := by
  intro pins s σ H D I h
  obtain ⟨v, e1, h⟩ := h
  obtain ⟨m, hn, hl⟩ := I.loc
  have vis : Vis X.env.scope x := by rcases hx with k | k; exact .inl k; exact .inr (.inl k)
  obtain ⟨u, r, l⟩ := hl i x v hi e1 vis
  refine wpAny_AugAssign_Name ?_
  have go : wpAny (model X.prog X.w) X.A (eval e X.env) (fun w s₂ => wpAny (model X.prog X.w) X.A (inplaceOp op u w) (fun r s₃ => wpAny (model X.prog X.w) X.A (storeName X.env x r) (fun _ => SP X pins D .next) X.xe s₃) X.xe s₂) X.xe s := by
    refine thn (he pins s σ H _ I h) fun w s1 ⟨y, H1, I1, r1, q1⟩ => ?_
    refine thn (ho pins s1 σ H1 v y u w _ I1 r r1 q1) fun z s2 ⟨zv, H2, I2, r2, q2⟩ => ?_
    exact store_ok I2 hN hi hx r2 (fun s3 I3 => ⟨_, H2, I3, q2⟩) hf
  rcases l with ⟨hk, hm⟩ | ⟨hk, c, hc, hcell⟩
  · exact wpAny_loadName_local I.ok.kind hk hn hm go
  · rcases hk with hk | hk
    · exact wpAny_loadName_cell I.ok.kind hk hc hcell go
    · rcases hx with k | k
      · have : X.env.scope.names.lookup x = some .free := hk
        rw [k] at this; cases this
      · have : X.env.scope.names.lookup x = some .free := hk
        rw [k] at this; cases this
/-- o[i] op= e -/
def tAugS (to ti te : TE) (tget : V → V → Hp → VK → Prop) (tip : TIp) (tset : TSet) : TS := fun D σ H => to σ H fun o H1 => ti σ H1 fun i H2 => tget o i H2 fun x H3 => te σ H3 fun y H4 => tip x y H4 fun z H5 => tset o i z H5 fun H6 => D.nx σ H6
/-- o[i], by values -/
def PGet (X : Cx) (t : V → V → Hp → VK → Prop) : Prop :=
  ∀ (pins : List (Addr × Obj)) (s : Shared) (σ : St) (H : Hp) (o i : V) (ov iv : Value) (Q : VK), Inv X pins σ H s → RelV o ov → RelV i iv → t o i H Q →
    wpAny (model X.prog X.w) X.A (getItem ov iv) (EP X pins σ Q) X.xe s
theorem ps_augS {o i e : Expr} {to ti te : TE} {tget : V → V → Hp → VK → Prop} {tip : TIp} {tset : TSet} {op : Operator} {tpos : Pos} (ho : PE X o to) (hi : PE X i ti) (hg : PGet X tget) (he : PE X e te) (hp : PIp X op tip) (hs : PSet X tset)
    (ha : ∀ ov iv new, augStore i ov iv new = (do holding [new, ov, iv] (setItem ov iv new); release [new, ov, iv] []; pure .next) := by intros; rfl) : PS X (.AugAssign (.Subscript o i tpos) op e pos) (tAugS to ti te tget tip tset) := by
  intro pins s σ H D I h
  refine wpAny_AugAssign_SubscriptAny (thn (ho pins s σ H _ I h) fun ov s1 ⟨x1, H1, I1, r1, q1⟩ => ?_) ha
  refine thn (hi pins s1 σ H1 _ I1 q1) fun iv s2 ⟨x2, H2, I2, r2, q2⟩ => ?_
  refine thn (hg pins s2 σ H2 x1 x2 ov iv _ I2 r1 r2 q2) fun old s3 ⟨x3, H3, I3, r3, q3⟩ => ?_
  refine thn (he pins s3 σ H3 _ I3 q3) fun v s4 ⟨x4, H4, I4, r4, q4⟩ => ?_
  refine thn (hp pins s4 σ H4 x3 x4 old v _ I4 r3 r4 q4) fun new s5 ⟨x5, H5, I5, r5, q5⟩ => ?_
  exact thn (hs pins s5 σ H5 x1 x2 x5 ov iv new _ I5 r1 r2 r5 q5) fun _ s6 ⟨H6, I6, q6⟩ => ⟨σ, H6, I6, q6⟩
/-- ints -/
def ipI (f : Int → Int → Int) : TIp := fun x y H Q => ∃ i j, x = .int i ∧ y = .int j ∧ Q (.int (f i j)) H
theorem ip_add : PIp X .Add (ipI fun i j => i + j) := by
  intro pins s σ H x y v u Q I r1 r2 h
  obtain ⟨i, j, e1, e2, q⟩ := h
  subst e1; subst e2
  obtain ⟨t, rfl⟩ := r1
  obtain ⟨t', rfl⟩ := r2
  exact iadd_int ⟨.int _, H, I.tok _, ⟨_, rfl⟩, q⟩
theorem ip_sub : PIp X .Sub (ipI fun i j => i - j) := by
  intro pins s σ H x y v u Q I r1 r2 h
  obtain ⟨i, j, e1, e2, q⟩ := h
  subst e1; subst e2
  obtain ⟨t, rfl⟩ := r1
  obtain ⟨t', rfl⟩ := r2
  exact isub_int ⟨.int _, H, I.tok _, ⟨_, rfl⟩, q⟩
end

/-! ### while -/
section
variable {X : Cx} {pos : Pos}
/-- the invariant W with its measure -/
def tWhile (c : TT) (tb : TS) : TS := fun D σ H => ∃ W : Nat → St → Hp → Prop, (∃ m, W m σ H) ∧ ∀ m σ H, W m σ H →
  c σ H fun b H1 => if b = true then ∃ N : St → Hp → Prop, (∀ σ' H', N σ' H' → ∃ m', m' < m ∧ W m' σ' H') ∧ tb { D with nx := N, ct := N, bk := D.nx } σ H1 else D.nx σ H1
theorem ps_while {c : Expr} {body : List Stmt} {tc : TT} {tb : TS} (hp : PassesOwn (model X.prog X.w) X.A X.env X.xe) (hc : PT X c tc) (hb : PSs X body tb) : PS X (.While c body [] pos) (tWhile tc tb) := by
  intro pins s σ H D I h
  obtain ⟨W, ⟨m0, w0⟩, turn⟩ := h
  refine wpAny_While (codeAny_whileLoop (fun n s' => ∃ σ' H', Inv X pins σ' H' s' ∧ W n σ' H') ?_ m0 ⟨σ, H, I, w0⟩)
  rintro n s1 ⟨σ1, H1, I1, w1⟩
  refine wpAny_passesOwn hp (thn (hc pins s1 σ1 H1 _ I1 (turn n σ1 H1 w1)) fun b s2 ⟨H2, I2, q2⟩ => ?_)
  cases b with
  | true =>
    obtain ⟨N, hN, q2⟩ := q2
    rw [if_pos rfl]
    refine wpAny_passesOwn hp (thn (hb pins s2 σ1 H2 _ I2 q2) fun f s3 q3 => ?_)
    cases f with
    | next =>
      obtain ⟨σ3, H3, I3, n3⟩ := q3
      obtain ⟨m', hm, w3⟩ := hN σ3 H3 n3
      exact ⟨m', hm, σ3, H3, I3, w3⟩
    | cont =>
      obtain ⟨σ3, H3, I3, n3⟩ := q3
      obtain ⟨m', hm, w3⟩ := hN σ3 H3 n3
      exact ⟨m', hm, σ3, H3, I3, w3⟩
    | brk => exact q3
    | ret v => exact q3
  | false =>
    rw [if_neg Bool.false_ne_true]
    exact wpAny_execs_nil ⟨σ1, H2, I2, q2⟩
end

/-! ### what a loop or a comprehension walks -/
/-- at turn i: it yields x (the heap may grow), or it stops -/
structure It where
  go : Nat → Hp → Prop
  yld : Nat → Hp → V → Hp → Prop
  stop : Nat → Hp → Prop
/-- the iterator's own objects may turn: they are not the frame's, not pinned, younger than the entry (or a comprehension's own) -/
def FpOk (X : Cx) (pins : List (Addr × Obj)) (H : Hp) (b : Addr) : Prop :=
  H b = none ∧ b ≠ X.env.locals ∧ b ∉ X.fs ∧ (b ∈ X.ex ∨ X.s₀.heap.objs.size ≤ b) ∧ (∀ x c, X.env.cells.lookup x = some c → c ≠ b) ∧ ∀ p ∈ X.pn ++ pins, p.1 ≠ b
theorem Inv.fpOk {X : Cx} {pins : List (Addr × Obj)} {σ : St} {H H' : Hp} {s : Shared} {b : Addr} (I : Inv X pins σ H s) (hb : s.heap.objs.size ≤ b) (hn : H' b = none) : FpOk X pins H' b := by
  refine ⟨hn, Nat.ne_of_gt (Nat.lt_of_lt_of_le I.lt hb), I.nofs hb, .inr (Nat.le_trans I.sz hb), fun x c e z => ?_, fun p hp z => ?_⟩
  · obtain ⟨v, q⟩ := I.cell x c e
    exact absurd (Nat.lt_of_lt_of_le q.lt (by rw [z]; exact hb)) (Nat.lt_irrefl _)
  · exact absurd (Nat.lt_of_lt_of_le (Heap.lt_size (I.pin p hp).1) (by rw [z]; exact hb)) (Nat.lt_irrefl _)
structure Turn (P : Program) (w : World) (K : PySem.W.Frag) (tg : Expr) (J : It) (fp : List Addr) (it : Addr) (tn : Nat → Heap → Prop) : Prop where
  mem : it ∈ fp
  obj : ∀ i h, tn i h → ∀ b ∈ fp, ∃ o, h.get? b = some o ∧ ∀ v, o.data ≠ .cell v
  keep : ∀ i h h', tn i h → (∀ b ∈ fp, ∀ o, h.get? b = some o → h'.get? b = some o) → tn i h'
  item : ∀ (X : Cx), X.prog = P → X.w = w → X.K = K → X.calm = true → ∀ (i : Nat) (pins : List (Addr × Obj)) (s : Shared) (σ : St) (H : Hp) (E : Value → Shared → Prop), Inv X pins σ H s → (∀ b ∈ fp, FpOk X pins H b) → tn i s.heap → J.go i H →
    wpAny (model P w) X.A (pyNext (.ref it)) (fun r s1 => ∃ u, r = some u ∧
      wpAny (model P w) X.A (letOwnedTupleGo tg (.ref it) u) (fun _ s2 => ∃ x H', Inv X pins σ H' s2 ∧ RelV x u ∧ J.yld i H x H' ∧ tn (i + 1) s2.heap ∧ ∀ b ∈ fp, H' b = none) E s1) E s
  done : ∀ (X : Cx), X.prog = P → X.w = w → X.K = K → X.calm = true → ∀ (i : Nat) (pins : List (Addr × Obj)) (s : Shared) (σ : St) (H : Hp) (E : Value → Shared → Prop), Inv X pins σ H s → (∀ b ∈ fp, FpOk X pins H b) → tn i s.heap → J.stop i H →
    wpAny (model P w) X.A (pyNext (.ref it)) (fun r s1 => r = none ∧ Inv X pins σ H s1) E s
  self : ∀ (A : Around) (i : Nat) (s : Shared) (Q : Value → Shared → Prop) (E : Value → Shared → Prop), tn i s.heap → Q (.ref it) s → wpAny (model P w) A (pyIter (.ref it)) Q E s
abbrev TI := St → Hp → (It → Hp → Prop) → Prop
/-- an iterator has come -/
def PIE (X : Cx) (pins : List (Addr × Obj)) (σ : St) (tg : Expr) (R : It → Hp → Prop) (itv : Value) (s2 : Shared) : Prop :=
  ∃ (it : Addr) (fp : List Addr) (tn : Nat → Heap → Prop) (J : It) (H' : Hp), itv = .ref it ∧ Inv X pins σ H' s2 ∧ Turn X.prog X.w X.K tg J fp it tn ∧ tn 0 s2.heap ∧ (∀ b ∈ fp, FpOk X pins H' b) ∧ R J H'
def PI (X : Cx) (tg iter : Expr) (wi : TI) : Prop :=
  ∀ (pins : List (Addr × Obj)) (s : Shared) (σ : St) (H : Hp) (R : It → Hp → Prop), Inv X pins σ H s → wi σ H R →
    wpAny (model X.prog X.w) X.A (eval iter X.env) (fun v s1 => wpAny (model X.prog X.w) X.A (pyIter v) (PIE X pins σ tg R) X.xe s1) X.xe s

/-- the step ahead of the store is nothing for an iterator that keeps no tuple -/
theorem go_of {M : Model} {A : Around} {E : Value → Shared → Prop} {s : Shared} {tg : Expr} {it : Addr} {u : Value} {o : Obj} {n : String} {vs : Array Value} {Q : Unit → Shared → Prop} (ho : s.heap.get? it = some o) (hc : o.cls = .type n) (hd : o.data = .fields vs)
    (hn : ["enumerate", "zip", "dict_itemiterator", "dict_reverseitemiterator", "odict_iterator", "itertools.zip_longest", "itertools.pairwise"].contains n = false) (hQ : Q () s) : wpAny M A (letOwnedTupleGo tg (.ref it) u) Q E s := by
  unfold letOwnedTupleGo
  cases tg <;> first
    | exact wpAny_pure hQ
    | (cases u <;> first
        | exact wpAny_pure hQ
        | (refine wpAny_bind (wpAny_load ho ?_)
           rw [hc, hd]
           show wpAny M A (if (["enumerate", "zip", "dict_itemiterator", "dict_reverseitemiterator", "odict_iterator", "itertools.zip_longest", "itertools.pairwise"].contains n && vs[0]? == some (rawInt _)) = true then _ else _) Q E s
           rw [if_neg (by intro h; rw [hn, Bool.false_and] at h; cases h)]
           exact wpAny_pure hQ))

/-- the list at a, as it stands at each turn (a loop may append to it) -/
def Itl (K : PySem.W.Frag) (a : Addr) : It :=
  ⟨fun i H => ∃ xs x, SqL K H a xs ∧ xs[i]? = some x, fun i H x H' => H' = H ∧ ∀ xs, SqL K H a xs → xs[i]? = some x, fun i H => ∃ xs, SqL K H a xs ∧ xs.length ≤ i⟩
def Itt (K : PySem.W.Frag) (a : Addr) : It :=
  ⟨fun i H => ∃ xs x, SqT K H a xs ∧ xs[i]? = some x, fun i H x H' => H' = H ∧ ∀ xs, SqT K H a xs → xs[i]? = some x, fun i H => ∃ xs, SqT K H a xs ∧ xs.length ≤ i⟩
/-- lo, lo + 1, .. (n of them) -/
def Itr (lo : Int) (n : Nat) : It := ⟨fun i _ => i < n, fun i H x H' => H' = H ∧ x = .int (lo + i), fun i _ => n ≤ i⟩
theorem turn_list {P : Program} {w : World} {K : PySem.W.Frag} {tg : Expr} (a it : Addr) : Turn P w K tg (Itl K a) [it] it (fun i h => h.IsListIter it a i) where
  mem := by simp
  obj := fun i h st b hb => by
    have e : b = it := by simpa using hb
    subst e
    obtain ⟨o, e, c, d⟩ := st
    exact ⟨o, e, fun v z => by rw [d] at z; cases z⟩
  keep := fun i h h' st k => st.at fun o e => k it (by simp) o e
  item := by
    intro X hP hw hK hc i pins s σ H E I hf st hg
    subst hP hw hK
    obtain ⟨xs, x, hq, hx⟩ := hg
    obtain ⟨its, rv, p, hz⟩ := I.list hq
    obtain ⟨u, hu, ru⟩ := rv.get hx
    obtain ⟨f0, f1, f2, f3, f4, f5⟩ := hf it (by simp)
    refine wpAny_pyNext_list_item st p.isList (x := u) (by simpa using hu) fun h' st' sb => ?_
    have I1 : Inv X pins σ H { s with heap := h' } := I.turned (t' := s.toks) (fun b o hb e => (sb.2 b hb).trans e) f0 f1 f3 f4 f5
    obtain ⟨o, e, c, d⟩ := id st'
    exact ⟨u, rfl, go_of (s := { s with heap := h' }) e c d (by decide) ⟨x, H, I1, ru, ⟨rfl, fun ys hy => by rw [I.list_inj hy hq]; exact hx⟩, st', fun b hb => (hf b hb).1⟩⟩
  done := by
    intro X hP hw hK hc i pins s σ H E I hf st hg
    subst hP hw hK
    obtain ⟨xs, hq, hx⟩ := hg
    obtain ⟨its, rv, p, hz⟩ := I.list hq
    obtain ⟨f0, f1, f2, f3, f4, f5⟩ := hf it (by simp)
    have hl := rv.length
    exact wpAny_pyNext_list_end (I.ok.hd hc) st p.isList (by simp; omega) fun h' eb => ⟨rfl, I.turned (t' := s.toks) (fun b o hb e => eb b o hb e) f0 f1 f3 f4 f5⟩
  self := fun _ _ _ _ _ st h => wpAny_pyIter_listiter st h
theorem turn_tuple {P : Program} {w : World} {K : PySem.W.Frag} {tg : Expr} (a it : Addr) : Turn P w K tg (Itt K a) [it] it (fun i h => h.IsTupleIter it a i) where
  mem := by simp
  obj := fun i h st b hb => by
    have e : b = it := by simpa using hb
    subst e
    obtain ⟨o, e, c, d⟩ := st
    exact ⟨o, e, fun v z => by rw [d] at z; cases z⟩
  keep := fun i h h' st k => st.at fun o e => k it (by simp) o e
  item := by
    intro X hP hw hK hc i pins s σ H E I hf st hg
    subst hP hw hK
    obtain ⟨xs, x, hq, hx⟩ := hg
    obtain ⟨its, rv, p, hz⟩ := I.tuple hq
    obtain ⟨u, hu, ru⟩ := rv.get hx
    obtain ⟨f0, f1, f2, f3, f4, f5⟩ := hf it (by simp)
    refine wpAny_pyNext_tuple_item st (show s.heap.IsTuple a its.toArray from p) (x := u) (by simpa using hu) fun h' st' sb => ?_
    have I1 : Inv X pins σ H { s with heap := h' } := I.turned (t' := s.toks) (fun b o hb e => (sb.2 b hb).trans e) f0 f1 f3 f4 f5
    obtain ⟨o, e, c, d⟩ := id st'
    exact ⟨u, rfl, go_of (s := { s with heap := h' }) e c d (by decide) ⟨x, H, I1, ru, ⟨rfl, fun ys hy => by rw [I.tuple_inj hy hq]; exact hx⟩, st', fun b hb => (hf b hb).1⟩⟩
  done := by
    intro X hP hw hK hc i pins s σ H E I hf st hg
    subst hP hw hK
    obtain ⟨xs, hq, hx⟩ := hg
    obtain ⟨its, rv, p, hz⟩ := I.tuple hq
    obtain ⟨f0, f1, f2, f3, f4, f5⟩ := hf it (by simp)
    have hl := rv.length
    exact wpAny_pyNext_tuple_end (I.ok.hd hc) st (show s.heap.IsTuple a its.toArray from p) (by simp; omega) fun h' eb => ⟨rfl, I.turned (t' := s.toks) (fun b o hb e => eb b o hb e) f0 f1 f3 f4 f5⟩
  self := fun _ _ _ _ _ st h => wpAny_pyIter_tupleiter st h
theorem turn_range {P : Program} {w : World} {K : PySem.W.Frag} {tg : Expr} (it : Addr) (lo : Int) (n : Nat) : Turn P w K tg (Itr lo n) [it] it (fun i h => IsRangeIter h it (lo + (i : Nat) * 1) ((n : Int) - (i : Nat)) 1) where
  mem := by simp
  obj := fun i h st b hb => by
    have e : b = it := by simpa using hb
    subst e
    exact ⟨_, st, fun v z => by
      have z' : Data.fields _ = Data.cell v := z
      cases z'⟩
  keep := fun i h h' st k => k it (by simp) _ st
  item := by
    intro X hP hw hK hc i pins s σ H E I hf st hg
    subst hP hw hK
    obtain ⟨f0, f1, f2, f3, f4, f5⟩ := hf it (by simp)
    have W := Walks.range (prog := X.prog) (w := X.w) (I.ok.hd hc) it lo 1 n
    refine W.item i s _ _ hg st fun v h' tk hv st' kk => ?_
    obtain ⟨t, rfl⟩ := hv
    have I1 : Inv X pins σ H { s with heap := h', toks := tk } := I.turned (fun b o hb e => kk b o (by simpa using hb) e) f0 f1 f3 f4 f5
    refine ⟨_, rfl, go_of (s := { s with heap := h', toks := tk }) (n := "range_iterator") st' rfl rfl (by decide) ⟨.int (lo + i), H, I1, ⟨t, ?_⟩, ⟨rfl, rfl⟩, st', fun b hb => (hf b hb).1⟩⟩
    rw [Int.mul_one]
  done := by
    intro X hP hw hK hc i pins s σ H E I hf st hg
    subst hP hw hK
    obtain ⟨f0, f1, f2, f3, f4, f5⟩ := hf it (by simp)
    exact wpAny_pyNext_range_end (I.ok.hd hc) st (by have : n ≤ i := hg; omega) fun h' eb => ⟨rfl, I.turned (t' := s.toks) (fun b o hb e => eb b o hb e) f0 f1 f3 f4 f5⟩
  self := fun _ _ _ _ _ st h => wpAny_pyIter_rangeiter st h
end L2

namespace L2
open PySem PySem.Spec PyProof.Rows
section
variable {X : Cx} {tg : Expr}
def iList (K : PySem.W.Frag) (tl : TE) : TI := fun σ H R => tl σ H fun x H1 => ∃ a, x = .ref a ∧ (∃ xs, SqL K H1 a xs) ∧ R (Itl K a) H1
def iTup (K : PySem.W.Frag) (tl : TE) : TI := fun σ H R => tl σ H fun x H1 => ∃ a, x = .ref a ∧ (∃ xs, SqT K H1 a xs) ∧ R (Itt K a) H1
theorem pi_list {l : Expr} {tl : TE} (hl : PE X l tl) : PI X tg l (iList X.K tl) := by
  intro pins s σ H R I h
  refine thn (hl pins s σ H _ I h) fun v s1 ⟨x, H1, I1, r1, q1⟩ => ?_
  obtain ⟨a, e, ⟨xs, hq⟩, q⟩ := q1
  subst e
  cases r1
  obtain ⟨its, rv, p, hz⟩ := I1.list hq
  refine wpAny_pyIter_list p.isList ?_
  refine ⟨s1.heap.objs.size, [s1.heap.objs.size], _, _, H1, rfl, I1.kept (t' := s1.toks) fun b o e => Heap.get?_push_of_some _ e, turn_list a _, ⟨_, Heap.get?_push_size _ rfl, rfl, rfl⟩, fun b hb => ?_, q⟩
  have e : b = s1.heap.objs.size := by simpa using hb
  subst e
  exact I1.fpOk (Nat.le_refl _) (I1.hok.fresh (Nat.le_refl _))
theorem pi_tup {l : Expr} {tl : TE} (hl : PE X l tl) : PI X tg l (iTup X.K tl) := by
  intro pins s σ H R I h
  refine thn (hl pins s σ H _ I h) fun v s1 ⟨x, H1, I1, r1, q1⟩ => ?_
  obtain ⟨a, e, ⟨xs, hq⟩, q⟩ := q1
  subst e
  cases r1
  obtain ⟨its, rv, p, hz⟩ := I1.tuple hq
  refine wpAny_pyIter_tuple (show s1.heap.IsTuple a its.toArray from p) ?_
  refine ⟨s1.heap.objs.size, [s1.heap.objs.size], _, _, H1, rfl, I1.kept (t' := s1.toks) fun b o e => Heap.get?_push_of_some _ e, turn_tuple a _, ⟨_, Heap.get?_push_size _ rfl, rfl, rfl⟩, fun b hb => ?_, q⟩
  have e : b = s1.heap.objs.size := by simpa using hb
  subst e
  exact I1.fpOk (Nat.le_refl _) (I1.hok.fresh (Nat.le_refl _))
/-- a range object just made, walked -/
theorem range_it {pins : List (Addr × Obj)} {σ : St} {H : Hp} {s : Shared} {R : It → Hp → Prop} {E : Value → Shared → Prop} {lo hi : Int} {t u v : Tok} {tk : Nat} (I : Inv X pins σ H s) (h1 : -(2 ^ 62) ≤ lo) (h2 : lo < 2 ^ 62) (h3 : -(2 ^ 62) ≤ hi) (h4 : hi < 2 ^ 62)
    (q : R (Itr lo (hi - lo).toNat) H) : wpAny (model X.prog X.w) X.A (pyIter (.ref s.heap.objs.size)) (PIE X pins σ tg R) E { s with heap := s.heap.push { cls := .type "range", data := .fields #[.int lo t, .int hi u, .int 1 v] }, toks := tk } := by
  refine wpAny_pyIter_range (IsRange.new ..) (small_one h1 h2 h3 h4) ?_
  have I1 : Inv X pins σ H { s with heap := s.heap.push { cls := .type "range", data := .fields #[.int lo t, .int hi u, .int 1 v] }, toks := tk } := I.kept fun b o e => Heap.get?_push_of_some _ e
  refine ⟨(s.heap.push { cls := .type "range", data := .fields #[.int lo t, .int hi u, .int 1 v] }).objs.size, [(s.heap.push { cls := .type "range", data := .fields #[.int lo t, .int hi u, .int 1 v] }).objs.size], _, _, H, rfl,
    I1.kept (t' := tk) fun b o e => Heap.get?_push_of_some _ e, turn_range _ lo (hi - lo).toNat, ?_, fun b hb => ?_, q⟩
  · have e1 : lo + ((0 : Nat) : Int) * 1 = lo := by simp
    have e2 : (((hi - lo).toNat : Nat) : Int) - ((0 : Nat) : Int) = Builtin.Range.rangeSize lo hi 1 := by rw [rangeSize_one]; split <;> omega
    show IsRangeIter _ _ (lo + ((0 : Nat) : Int) * 1) ((((hi - lo).toNat : Nat) : Int) - ((0 : Nat) : Int)) 1
    rw [e1, e2]
    exact Heap.get?_push_size _ rfl
  · have e : b = (s.heap.push { cls := .type "range", data := .fields #[.int lo t, .int hi u, .int 1 v] }).objs.size := by simpa using hb
    subst e
    exact I1.fpOk (Nat.le_refl _) (I1.hok.fresh (Nat.le_refl _))
def iRng1 (ta : TA) : TI := fun σ H R => ta σ H fun vs H1 => ∃ j : Int, vs = [.int j] ∧ -(2 ^ 62) ≤ j ∧ j < 2 ^ 62 ∧ R (Itr 0 j.toNat) H1
def iRng2 (ta : TA) : TI := fun σ H R => ta σ H fun vs H1 => ∃ i j : Int, vs = [.int i, .int j] ∧ (-(2 ^ 62) ≤ i ∧ i < 2 ^ 62 ∧ -(2 ^ 62) ≤ j ∧ j < 2 ^ 62) ∧ R (Itr i (j - i).toNat) H1
theorem pi_range1 {a : Expr} {ta : TA} {p pos : Pos} (hg : Gl X "range") (hm : X.mg "range" = none) (ha : PA X [a] ta) (hs : starEach [a] X.env = [(false, eval a X.env)] := by rfl) : PI X tg (.Call (.Name "range" p) [a] [] pos) (iRng1 ta) := by
  intro pins s σ H R I h
  refine Call_ (ld_blt I hg hm boot_range (PyProof.Rows.callWith_type1 (thn (ha pos pins s σ H _ I h) fun us s1 ⟨vs, H1, I1, r1, q1⟩ => ?_) hs rfl))
  obtain ⟨j, e, q1, q2, q⟩ := q1
  subst e
  cases r1 with
  | cons r rr =>
    cases rr
    obtain ⟨t, rfl⟩ := r
    exact call_range_1 (range_it I1 (by omega) (by omega) q1 q2 (by simpa using q))
theorem pi_range2 {a b : Expr} {ta : TA} {p pos : Pos} (hg : Gl X "range") (hm : X.mg "range" = none) (ha : PA X [a, b] ta) (hs : starEach [a, b] X.env = [(false, eval a X.env), (false, eval b X.env)] := by rfl) (hs2 : starEach [b] X.env = [(false, eval b X.env)] := by rfl) :
    PI X tg (.Call (.Name "range" p) [a, b] [] pos) (iRng2 ta) := by
  intro pins s σ H R I h
  refine Call_ (ld_blt I hg hm boot_range (PyProof.Rows.callWith_type1 (thn (ha pos pins s σ H _ I h) fun us s1 ⟨vs, H1, I1, r1, q1⟩ => ?_) (by rw [hs, hs2]) (by rw [hs2]; rfl)))
  obtain ⟨i, j, e, ⟨q1, q2, q3, q4⟩, q⟩ := q1
  subst e
  cases r1 with
  | cons r rr =>
    cases rr with
    | cons r' rr =>
      cases rr
      obtain ⟨t, rfl⟩ := r
      obtain ⟨t', rfl⟩ := r'
      exact call_range_2 (range_it I1 q1 q2 q3 q4 q)

/-! ### for -/
/-- W: the invariant by the turn and a measure; N: what the body is to reach -/
def tFor (wi : TI) (g : TG) (tb : TS) : TS := fun D σ H => wi σ H fun J H1 => ∃ W : Nat → Nat → St → Hp → Prop, (∃ m, W 0 m σ H1) ∧ ∀ i m σ H, W i m σ H →
  (J.stop i H ∧ D.nx σ H) ∨ (J.go i H ∧ ∃ N : St → Hp → Prop, (∀ σ' H', N σ' H' → ∃ m', m' < m ∧ W (i + 1) m' σ' H') ∧ ∀ x H', J.yld i H x H' → g x σ H' fun σ2 H2 => tb { D with nx := N, ct := N, bk := D.nx } σ2 H2)
/-- the records at fp as they stand -/
def pinsAt (fp : List Addr) (h : Heap) : List (Addr × Obj) := fp.filterMap fun b => (h.get? b).map fun o => (b, o)
theorem mem_pinsAt {fp : List Addr} {h : Heap} {b : Addr} {o : Obj} (hb : b ∈ fp) (e : h.get? b = some o) : (b, o) ∈ pinsAt fp h := List.mem_filterMap.mpr ⟨b, hb, by rw [e]; rfl⟩
theorem of_pinsAt {fp : List Addr} {h : Heap} {p : Addr × Obj} (hp : p ∈ pinsAt fp h) : p.1 ∈ fp ∧ h.get? p.1 = some p.2 := by
  obtain ⟨b, hb, e⟩ := List.mem_filterMap.mp hp
  cases q : h.get? b with
  | none => rw [q] at e; cases e
  | some o =>
    rw [q] at e
    have e' : (b, o) = p := Option.some.inj e
    subst e'
    exact ⟨hb, q⟩
theorem Inv.pinned {pins : List (Addr × Obj)} {σ : St} {H : Hp} {s : Shared} {fp : List Addr} (I : Inv X pins σ H s) (hf : ∀ b ∈ fp, FpOk X pins H b) (ho : ∀ b ∈ fp, ∃ o, s.heap.get? b = some o ∧ ∀ v, o.data ≠ .cell v) : Inv X (pins ++ pinsAt fp s.heap) σ H s :=
  I.pins_of fun p hp => (List.mem_append.mp hp).elim (fun z => I.pin p (List.mem_append_right _ z)) fun z => by
    obtain ⟨hb, e⟩ := of_pinsAt z
    obtain ⟨f0, f1, f2, _⟩ := hf p.1 hb
    obtain ⟨o, e', d⟩ := ho p.1 hb
    rw [e] at e'; cases e'
    exact ⟨e, f0, f1, f2, d⟩
theorem Inv.unpinned {pins pl : List (Addr × Obj)} {σ : St} {H : Hp} {s : Shared} (I : Inv X (pins ++ pl) σ H s) : Inv X pins σ H s := I.pins_of fun p hp => I.pin p (List.mem_append_right _ (List.mem_append_left _ hp))
theorem ps_for {iter : Expr} {body : List Stmt} {wi : TI} {g : TG} {tb : TS} {pos : Pos} (hp : PassesOwn (model X.prog X.w) X.A X.env X.xe) (hc : X.calm = true) (hi : PI X tg iter wi) (hg : PG X tg g) (hb : PSs X body tb)
    (hs : ∀ x, foldedSetIterable iter X.env x = pure x := by intro _; rfl) : PS X (.For tg iter body [] pos) (tFor wi g tb) := by
  intro pins s σ H D I h
  refine wpAny_For (thn (hi pins s σ H _ I h) fun v s1 h1 => thn h1 fun itv s2 h2 => ?_) hs
  obtain ⟨it, fp, tn, J, H2, e, I2, T, st2, f2, W, ⟨m0, w0⟩, turn⟩ := h2
  subst e
  -- what stays true of the iterator's objects through the loop
  have stat : ∀ {H' : Hp}, (∀ b ∈ fp, H' b = none) → ∀ b ∈ fp, FpOk X pins H' b := fun hn b hb => ⟨hn b hb, (f2 b hb).2⟩
  refine codeAny_forLoop_any (fun n s' => ∃ i σ' H', Inv X pins σ' H' s' ∧ tn i s'.heap ∧ (∀ b ∈ fp, H' b = none) ∧ W i n σ' H') ?_ m0 ⟨0, σ, H2, I2, st2, fun b hb => (f2 b hb).1, w0⟩
  rintro n s3 ⟨i, σ3, H3, I3, st3, fr3, w3⟩
  rcases turn i n σ3 H3 w3 with ⟨stop, qn⟩ | ⟨go, N, hN, step⟩
  · refine wpAny_passesOwn hp (thn (T.done X rfl rfl rfl hc i pins s3 σ3 H3 X.xe I3 (stat fr3) st3 stop) fun r s4 ⟨hr, I4⟩ => ?_)
    subst hr
    exact wpAny_execs_nil ⟨σ3, H3, I4, qn⟩
  · refine wpAny_passesOwn hp (thn (T.item X rfl rfl rfl hc i pins s3 σ3 H3 X.xe I3 (stat fr3) st3 go) fun r s4 ⟨u, hr, h4⟩ => ?_)
    subst hr
    refine wpAny_passesOwn hp (thn h4 fun _ s5 ⟨x, H5, I5, r5, y5, st5, fr5⟩ => ?_)
    have I5' := I5.pinned (stat fr5) (T.obj _ _ st5)
    refine wpAny_passesOwn hp (thn (hg _ s5 σ3 H5 x u _ I5' r5 (step x H5 y5)) fun _ s6 ⟨σ6, H6, I6, q6⟩ => ?_)
    refine wpAny_passesOwn hp (thn (hb _ s6 σ6 H6 _ I6 q6) fun f s7 q7 => ?_)
    have again : ∀ {σ7 : St} {H7 : Hp}, Inv X (pins ++ pinsAt fp s5.heap) σ7 H7 s7 → N σ7 H7 → ∃ m, m < n ∧ ∃ i σ' H', Inv X pins σ' H' s7 ∧ tn i s7.heap ∧ (∀ b ∈ fp, H' b = none) ∧ W i m σ' H' := fun {σ7 H7} I7 n7 => by
      obtain ⟨m', hm, w7⟩ := hN σ7 H7 n7
      refine ⟨m', hm, i + 1, σ7, H7, I7.unpinned, T.keep _ _ _ st5 fun b hb o e => (I7.pin (b, o) (List.mem_append_right _ (List.mem_append_right _ (mem_pinsAt hb e)))).1, fun b hb => ?_, w7⟩
      obtain ⟨o, e, d⟩ := T.obj _ _ st5 b hb
      exact (I7.pin (b, o) (List.mem_append_right _ (List.mem_append_right _ (mem_pinsAt hb e)))).2.1
    cases f with
    | next => obtain ⟨σ7, H7, I7, n7⟩ := q7; exact again I7 n7
    | cont => obtain ⟨σ7, H7, I7, n7⟩ := q7; exact again I7 n7
    | brk => obtain ⟨σ7, H7, I7, q7⟩ := q7; exact ⟨σ7, H7, I7.unpinned, q7⟩
    | ret v => obtain ⟨x7, σ7, H7, I7, r7, q7⟩ := q7; exact ⟨x7, σ7, H7, I7.unpinned, r7, q7⟩
end

/-! ### the forms one uses -/
/-- over a list that the body leaves as it is -/
theorem for_list {K : PySem.W.Frag} {a : Addr} {xs : List V} {g : TG} {tb : TS} {D : Ends} {σ : St} {H : Hp} (Pv : Nat → St → Hp → Prop) (h0 : Pv 0 σ H) (hl : ∀ i σ H, i ≤ xs.length → Pv i σ H → SqL K H a xs)
    (hs : ∀ i x σ H, xs[i]? = some x → Pv i σ H → g x σ H fun σ2 H2 => tb { D with nx := Pv (i + 1), ct := Pv (i + 1), bk := D.nx } σ2 H2) (hd : ∀ σ H, Pv xs.length σ H → D.nx σ H) :
    ∃ W : Nat → Nat → St → Hp → Prop, (∃ m, W 0 m σ H) ∧ ∀ i m σ H, W i m σ H →
      ((Itl K a).stop i H ∧ D.nx σ H) ∨ ((Itl K a).go i H ∧ ∃ N : St → Hp → Prop, (∀ σ' H', N σ' H' → ∃ m', m' < m ∧ W (i + 1) m' σ' H') ∧ ∀ x H', (Itl K a).yld i H x H' → g x σ H' fun σ2 H2 => tb { D with nx := N, ct := N, bk := D.nx } σ2 H2) := by
  refine ⟨fun i m σ H => m = xs.length - i ∧ i ≤ xs.length ∧ Pv i σ H, ⟨xs.length, by simp, Nat.zero_le _, h0⟩, ?_⟩
  rintro i m σ H ⟨rfl, hi, p⟩
  have q := hl i σ H hi p
  by_cases hlt : i < xs.length
  · refine .inr ⟨⟨xs, xs[i], q, by simp [hlt]⟩, Pv (i + 1), fun σ' H' p' => ⟨xs.length - (i + 1), by omega, rfl, hlt, p'⟩, fun x H' y => ?_⟩
    obtain ⟨e, y⟩ := y
    subst e
    exact hs i x σ _ (y xs q) p
  · have e : i = xs.length := by omega
    subst e
    exact .inl ⟨⟨xs, q, Nat.le_refl _⟩, hd σ H p⟩
theorem for_tup {K : PySem.W.Frag} {a : Addr} {xs : List V} {g : TG} {tb : TS} {D : Ends} {σ : St} {H : Hp} (Pv : Nat → St → Hp → Prop) (h0 : Pv 0 σ H) (hl : ∀ i σ H, i ≤ xs.length → Pv i σ H → SqT K H a xs)
    (hs : ∀ i x σ H, xs[i]? = some x → Pv i σ H → g x σ H fun σ2 H2 => tb { D with nx := Pv (i + 1), ct := Pv (i + 1), bk := D.nx } σ2 H2) (hd : ∀ σ H, Pv xs.length σ H → D.nx σ H) :
    ∃ W : Nat → Nat → St → Hp → Prop, (∃ m, W 0 m σ H) ∧ ∀ i m σ H, W i m σ H →
      ((Itt K a).stop i H ∧ D.nx σ H) ∨ ((Itt K a).go i H ∧ ∃ N : St → Hp → Prop, (∀ σ' H', N σ' H' → ∃ m', m' < m ∧ W (i + 1) m' σ' H') ∧ ∀ x H', (Itt K a).yld i H x H' → g x σ H' fun σ2 H2 => tb { D with nx := N, ct := N, bk := D.nx } σ2 H2) := by
  refine ⟨fun i m σ H => m = xs.length - i ∧ i ≤ xs.length ∧ Pv i σ H, ⟨xs.length, by simp, Nat.zero_le _, h0⟩, ?_⟩
  rintro i m σ H ⟨rfl, hi, p⟩
  have q := hl i σ H hi p
  by_cases hlt : i < xs.length
  · refine .inr ⟨⟨xs, xs[i], q, by simp [hlt]⟩, Pv (i + 1), fun σ' H' p' => ⟨xs.length - (i + 1), by omega, rfl, hlt, p'⟩, fun x H' y => ?_⟩
    obtain ⟨e, y⟩ := y
    subst e
    exact hs i x σ _ (y xs q) p
  · have e : i = xs.length := by omega
    subst e
    exact .inl ⟨⟨xs, q, Nat.le_refl _⟩, hd σ H p⟩
theorem for_range {lo : Int} {n : Nat} {g : TG} {tb : TS} {D : Ends} {σ : St} {H : Hp} (Pv : Nat → St → Hp → Prop) (h0 : Pv 0 σ H)
    (hs : ∀ i σ H, i < n → Pv i σ H → g (.int (lo + i)) σ H fun σ2 H2 => tb { D with nx := Pv (i + 1), ct := Pv (i + 1), bk := D.nx } σ2 H2) (hd : ∀ σ H, Pv n σ H → D.nx σ H) :
    ∃ W : Nat → Nat → St → Hp → Prop, (∃ m, W 0 m σ H) ∧ ∀ i m σ H, W i m σ H →
      ((Itr lo n).stop i H ∧ D.nx σ H) ∨ ((Itr lo n).go i H ∧ ∃ N : St → Hp → Prop, (∀ σ' H', N σ' H' → ∃ m', m' < m ∧ W (i + 1) m' σ' H') ∧ ∀ x H', (Itr lo n).yld i H x H' → g x σ H' fun σ2 H2 => tb { D with nx := N, ct := N, bk := D.nx } σ2 H2) := by
  refine ⟨fun i m σ H => m = n - i ∧ i ≤ n ∧ Pv i σ H, ⟨n, by simp, Nat.zero_le _, h0⟩, ?_⟩
  rintro i m σ H ⟨rfl, hi, p⟩
  by_cases hlt : i < n
  · refine .inr ⟨hlt, Pv (i + 1), fun σ' H' p' => ⟨n - (i + 1), by omega, rfl, hlt, p'⟩, fun x H' y => ?_⟩
    obtain ⟨e, y⟩ := y
    subst e y
    exact hs i σ _ hlt p
  · have e : i = n := by omega
    subst e
    exact .inl ⟨Nat.le_refl _, hd σ H p⟩
/-- while, by a word and a measure of the state -/
theorem while_by {c : TT} {tb : TS} {D : Ends} {σ : St} {H : Hp} (Pv : St → Hp → Prop) (μ : St → Hp → Nat) (h0 : Pv σ H)
    (hs : ∀ σ H, Pv σ H → c σ H fun b H1 => if b = true then tb { D with nx := fun σ' H' => Pv σ' H' ∧ μ σ' H' < μ σ H, ct := fun σ' H' => Pv σ' H' ∧ μ σ' H' < μ σ H, bk := D.nx } σ H1 else D.nx σ H1)
    (mono : ∀ σ H Q Q', (∀ b H1, Q b H1 → Q' b H1) → c σ H Q → c σ H Q') : tWhile c tb D σ H := by
  refine ⟨fun m σ H => m = μ σ H ∧ Pv σ H, ⟨_, rfl, h0⟩, ?_⟩
  rintro m σ H ⟨rfl, p⟩
  refine mono σ H _ _ (fun b H1 q => ?_) (hs σ H p)
  cases b with
  | true => exact ⟨_, fun σ' H' ⟨p', l⟩ => ⟨_, l, rfl, p'⟩, q⟩
  | false => exact q
end L2

namespace L2
open PySem PySem.Spec PyProof.Rows

abbrev R2 := V → V → Hp → VK → Prop
/-- a two-place operation on values: f is binaryOp op, inplaceOp op or compareOp op -/
def OpR (X : Cx) (f : Value → Value → Sem Value) (r : R2) : Prop :=
  ∀ (pins : List (Addr × Obj)) (s : Shared) (σ : St) (H : Hp) (x y : V) (v u : Value) (Q : VK), Inv X pins σ H s → RelV x v → RelV y u → r x y H Q →
    wpAny (model X.prog X.w) X.A (f v u) (EP X pins σ Q) X.xe s
/-- a one-place operation -/
def UnR (X : Cx) (f : Value → Sem Value) (r : V → Hp → VK → Prop) : Prop :=
  ∀ (pins : List (Addr × Obj)) (s : Shared) (σ : St) (H : Hp) (x : V) (v : Value) (Q : VK), Inv X pins σ H s → RelV x v → r x H Q →
    wpAny (model X.prog X.w) X.A (f v) (EP X pins σ Q) X.xe s
/-- a call of a value that is known (a builtin, a type) with values -/
def CallR (X : Cx) (f : Value) (r : List V → Hp → VK → Prop) : Prop :=
  ∀ (pins : List (Addr × Obj)) (s : Shared) (σ : St) (H : Hp) (xs : List V) (us : List Value) (Q : VK), Inv X pins σ H s → Vals xs us → r xs H Q →
    wpAny (model X.prog X.w) X.A (call f us) (EP X pins σ Q) X.xe s
/-- a value's truth -/
def TruR (X : Cx) (r : V → Hp → (Bool → Hp → Prop) → Prop) : Prop :=
  ∀ (pins : List (Addr × Obj)) (s : Shared) (σ : St) (H : Hp) (x : V) (v : Value) (Q : Bool → Hp → Prop), Inv X pins σ H s → RelV x v → r x H Q →
    wpAny (model X.prog X.w) X.A (truthy v) (TP X pins σ Q) X.xe s

def tOp (r : R2) (ta tb : TE) : TE := fun σ H Q => ta σ H fun x H1 => tb σ H1 fun y H2 => r x y H2 Q
def tUn (r : V → Hp → VK → Prop) (ta : TE) : TE := fun σ H Q => ta σ H fun x H1 => r x H1 Q
/-- ints in, under C, and a value out -/
def rI (C : Int → Int → Prop) (g : Int → Int → V) : R2 := fun x y H Q => ∃ i j, x = .int i ∧ y = .int j ∧ C i j ∧ Q (g i j) H
def rI0 (g : Int → Int → V) : R2 := fun x y H Q => ∃ i j, x = .int i ∧ y = .int j ∧ Q (g i j) H
def rU (g : Int → V) : V → Hp → VK → Prop := fun x H Q => ∃ i, x = .int i ∧ Q (g i) H

section
variable {X : Cx} {a b c : Expr} {ta tb tc : TE} {pos : Pos}

theorem binT (ha : PE X a ta) (hb : PE X b tb) {pins : List (Addr × Obj)} {s : Shared} {σ : St} {H : Hp} {R : V → V → Hp → Prop} (I : Inv X pins σ H s)
    (h : ta σ H fun x H1 => tb σ H1 fun y H2 => R x y H2) {Q : Value → Shared → Prop} {f : Value → Value → Sem Value}
    (hf : ∀ v u s2 x y H2, Inv X pins σ H2 s2 → RelV x v → RelV y u → R x y H2 → wpAny (model X.prog X.w) X.A (f v u) Q X.xe s2) :
    wpAny (model X.prog X.w) X.A (eval a X.env) (fun v s₁ => wpAny (model X.prog X.w) X.A (eval b X.env) (fun u s₂ => wpAny (model X.prog X.w) X.A (f v u) Q X.xe s₂) X.xe s₁) X.xe s := by
  refine thn (ha pins s σ H _ I h) fun v s1 ⟨x, H1, I1, r1, q1⟩ => ?_
  refine thn (hb pins s1 σ H1 _ I1 q1) fun u s2 ⟨y, H2, I2, r2, q2⟩ => ?_
  exact hf v u s2 x y H2 I2 r1 r2 q2

theorem pe_op {op : Operator} {r : R2} (ho : OpR X (binaryOp op) r) (ha : PE X a ta) (hb : PE X b tb) : PE X (.BinOp a op b pos) (tOp r ta tb) := by
  intro pins s σ H Q I h
  exact wpAny_BinOp (binT ha hb I h fun v u s2 x y H2 I2 rx ry q => ho pins s2 σ H2 x y v u Q I2 rx ry q)
theorem pe_un {op : UnaryOp} {r : V → Hp → VK → Prop} (ho : UnR X (unaryOp op) r) (ha : PE X a ta) : PE X (.UnaryOp op a pos) (tUn r ta) := by
  intro pins s σ H Q I h
  exact UnaryOp_ (thn (ha pins s σ H _ I h) fun v s1 ⟨x, H1, I1, r1, q1⟩ => ho pins s1 σ H1 x v Q I1 r1 q1)
/-- a op= e at a name: the name's slot i -/
theorem augR {op : Operator} {r : R2} (ho : OpR X (inplaceOp op) r) {pins : List (Addr × Obj)} {s : Shared} {σ : St} {H : Hp} {x y : V} {v u : Value} {Q : VK} (I : Inv X pins σ H s)
    (rx : RelV x v) (ry : RelV y u) (q : r x y H Q) : wpAny (model X.prog X.w) X.A (inplaceOp op v u) (EP X pins σ Q) X.xe s := ho pins s σ H x y v u Q I rx ry q

/-! ### ints -/
theorem opI {f : Value → Value → Sem Value} {C : Int → Int → Prop} {g : Int → Int → Int}
    (rule : ∀ (i j : Int) (t u : Tok) (s : Shared) (Q : Value → Shared → Prop) (E : Value → Shared → Prop), C i j → Q (.int (g i j) s.toks) { s with toks := s.toks + 1 } → wpAny (model X.prog X.w) X.A (f (.int i t) (.int j u)) Q E s) :
    OpR X f (rI C fun i j => .int (g i j)) := by
  intro pins s σ H x y v u Q I rx ry h
  obtain ⟨i, j, rfl, rfl, hc, q⟩ := h
  obtain ⟨t, rfl⟩ := rx
  obtain ⟨t', rfl⟩ := ry
  exact rule i j t t' s _ _ hc ⟨.int (g i j), H, I.tok _, ⟨_, rfl⟩, q⟩
theorem opI0 {f : Value → Value → Sem Value} {g : Int → Int → Int}
    (rule : ∀ (i j : Int) (t u : Tok) (s : Shared) (Q : Value → Shared → Prop) (E : Value → Shared → Prop), Q (.int (g i j) s.toks) { s with toks := s.toks + 1 } → wpAny (model X.prog X.w) X.A (f (.int i t) (.int j u)) Q E s) :
    OpR X f (rI0 fun i j => .int (g i j)) := by
  intro pins s σ H x y v u Q I rx ry h
  obtain ⟨i, j, rfl, rfl, q⟩ := h
  obtain ⟨t, rfl⟩ := rx
  obtain ⟨t', rfl⟩ := ry
  exact rule i j t t' s _ _ ⟨.int (g i j), H, I.tok _, ⟨_, rfl⟩, q⟩
theorem opB0 {f : Value → Value → Sem Value} {g : Int → Int → Bool}
    (rule : ∀ (i j : Int) (t u : Tok) (s : Shared) (Q : Value → Shared → Prop) (E : Value → Shared → Prop), Q (.bool (g i j)) s → wpAny (model X.prog X.w) X.A (f (.int i t) (.int j u)) Q E s) :
    OpR X f (rI0 fun i j => .bl (g i j)) := by
  intro pins s σ H x y v u Q I rx ry h
  obtain ⟨i, j, rfl, rfl, q⟩ := h
  obtain ⟨t, rfl⟩ := rx
  obtain ⟨t', rfl⟩ := ry
  exact rule i j t t' s _ _ ⟨.bl (g i j), H, I, rfl, q⟩

def CDiv (i j : Int) : Prop := 0 < j ∧ j < 1073741824
def CDivN (i j : Int) : Prop := j ≠ 0 ∧ j.natAbs < 1073741824
def CPow (i j : Int) : Prop := 0 ≤ j ∧ j ≤ 1000000 ∧ i.natAbs < 2 ^ 64
def CMul (i j : Int) : Prop := (-(2 ^ 64) < i ∧ i < 2 ^ 64) ∨ (-(2 ^ 64) < j ∧ j < 2 ^ 64)
theorem CMul.ok {i j : Int} (h : CMul i j) : IntMulOk i j := by
  rcases h with ⟨h1, h2⟩ | ⟨h1, h2⟩
  · exact .of_left (intBits_le_64 h1 h2)
  · exact .of_right (intBits_le_64 h1 h2)
theorem two_pow_nn (k : Nat) : (0 : Int) ≤ 2 ^ k := by
  rw [two_pow_cast]
  exact Int.natCast_nonneg _

theorem op_add : OpR X (binaryOp .Add) (rI0 fun i j => .int (i + j)) := opI0 fun _ _ _ _ _ _ _ q => add_int q
theorem op_sub : OpR X (binaryOp .Sub) (rI0 fun i j => .int (i - j)) := opI0 fun _ _ _ _ _ _ _ q => sub_int q
theorem op_mul : OpR X (binaryOp .Mult) (rI CMul fun i j => .int (i * j)) := opI fun _ _ _ _ _ _ _ hc q => mul_int q hc.ok
/-- // by a positive divisor -/
theorem op_fdiv : OpR X (binaryOp .FloorDiv) (rI CDiv fun i j => .int (i / j)) := opI fun i j _ _ _ _ _ hc q => by
  have h1 : (0 : Int) < j := hc.1
  have h2 : j < 1073741824 := hc.2
  exact floordiv_int (by omega) (by rw [Int.fdiv_eq_ediv_of_nonneg i (by omega)]; exact q) (.inl (PyProof.noPylong_small (by omega)))
theorem op_fdivN : OpR X (binaryOp .FloorDiv) (rI CDivN fun i j => .int (i.fdiv j)) := opI fun _ _ _ _ _ _ _ hc q => floordiv_int hc.1 q (.inl (PyProof.noPylong_small hc.2))
/-- % by a positive divisor of any size -/
theorem op_mod : OpR X (binaryOp .Mod) (rI (fun _ j => 0 < j) fun i j => .int (i % j)) := opI fun i j _ _ _ _ _ hc q => by
  have h1 : (0 : Int) < j := hc
  exact mod_int' (by omega) (by rw [Int.fmod_eq_emod_of_nonneg i (by omega)]; exact q)
theorem op_modN : OpR X (binaryOp .Mod) (rI (fun _ j => j ≠ 0) fun i j => .int (i.fmod j)) := opI fun _ _ _ _ _ _ _ hc q => mod_int' hc q
theorem op_pow : OpR X (binaryOp .Pow) (rI CPow fun i j => .int (i ^ j.toNat)) := opI fun _ _ _ _ _ _ _ hc q => pow_int_small hc.1 hc.2.1 hc.2.2 q
theorem op_shl : OpR X (binaryOp .LShift) (rI CPow fun i j => .int (i * 2 ^ j.toNat)) := opI fun _ _ _ _ _ _ _ hc q => lshift_int_small hc.1 hc.2.1 hc.2.2 q
theorem op_shr : OpR X (binaryOp .RShift) (rI (fun _ j => 0 ≤ j) fun i j => .int (i / 2 ^ j.toNat)) := opI fun i j _ _ _ _ _ hc q =>
  rshift_int hc (by rw [Int.fdiv_eq_ediv_of_nonneg i (two_pow_nn _)]; exact q)
theorem op_and : OpR X (binaryOp .BitAnd) (rI0 fun i j => .int (Builtin.bitAnd i j)) := opI0 fun _ _ _ _ _ _ _ q => and_int q
theorem op_or : OpR X (binaryOp .BitOr) (rI0 fun i j => .int (Builtin.bitOr i j)) := opI0 fun _ _ _ _ _ _ _ q => or_int q
theorem op_xor : OpR X (binaryOp .BitXor) (rI0 fun i j => .int (Builtin.bitXor i j)) := opI0 fun _ _ _ _ _ _ _ q => xor_int q

theorem iop_add : OpR X (inplaceOp .Add) (rI0 fun i j => .int (i + j)) := opI0 fun _ _ _ _ _ _ _ q => iadd_int q
theorem iop_sub : OpR X (inplaceOp .Sub) (rI0 fun i j => .int (i - j)) := opI0 fun _ _ _ _ _ _ _ q => isub_int q
theorem iop_mul : OpR X (inplaceOp .Mult) (rI CMul fun i j => .int (i * j)) := opI fun _ _ _ _ _ _ _ hc q => imul_int q hc.ok
theorem iop_fdiv : OpR X (inplaceOp .FloorDiv) (rI CDiv fun i j => .int (i / j)) := opI fun i j _ _ _ _ _ hc q => by
  have h1 : (0 : Int) < j := hc.1
  have h2 : j < 1073741824 := hc.2
  exact ifloordiv_int (by omega) (by rw [Int.fdiv_eq_ediv_of_nonneg i (by omega)]; exact q) (.inl (PyProof.noPylong_small (by omega)))
theorem iop_mod : OpR X (inplaceOp .Mod) (rI (fun _ j => 0 < j) fun i j => .int (i % j)) := opI fun i j _ _ _ _ _ hc q => by
  have h1 : (0 : Int) < j := hc
  exact imod_int (by omega) (by rw [Int.fmod_eq_emod_of_nonneg i (by omega)]; exact q)
theorem iop_shl : OpR X (inplaceOp .LShift) (rI CPow fun i j => .int (i * 2 ^ j.toNat)) := opI fun _ _ _ _ _ _ _ hc q => ilshift_int_small hc.1 hc.2.1 hc.2.2 q
theorem iop_shr : OpR X (inplaceOp .RShift) (rI (fun _ j => 0 ≤ j) fun i j => .int (i / 2 ^ j.toNat)) := opI fun i j _ _ _ _ _ hc q =>
  irshift_int hc (by rw [Int.fdiv_eq_ediv_of_nonneg i (two_pow_nn _)]; exact q)
theorem iop_and : OpR X (inplaceOp .BitAnd) (rI0 fun i j => .int (Builtin.bitAnd i j)) := opI0 fun _ _ _ _ _ _ _ q => iand_int q
theorem iop_or : OpR X (inplaceOp .BitOr) (rI0 fun i j => .int (Builtin.bitOr i j)) := opI0 fun _ _ _ _ _ _ _ q => ior_int q
theorem iop_xor : OpR X (inplaceOp .BitXor) (rI0 fun i j => .int (Builtin.bitXor i j)) := opI0 fun _ _ _ _ _ _ _ q => ixor_int q

theorem unI {f : Value → Sem Value} {g : Int → Int}
    (rule : ∀ (i : Int) (t : Tok) (s : Shared) (Q : Value → Shared → Prop) (E : Value → Shared → Prop), Q (.int (g i) s.toks) { s with toks := s.toks + 1 } → wpAny (model X.prog X.w) X.A (f (.int i t)) Q E s) :
    UnR X f (rU fun i => .int (g i)) := by
  intro pins s σ H x v Q I rx h
  obtain ⟨i, rfl, q⟩ := h
  obtain ⟨t, rfl⟩ := rx
  exact rule i t s _ _ ⟨.int (g i), H, I.tok _, ⟨_, rfl⟩, q⟩
theorem un_neg : UnR X (unaryOp .USub) (rU fun i => .int (-i)) := unI fun _ _ _ _ _ q => neg_int q
theorem un_inv : UnR X (unaryOp .Invert) (rU fun i => .int (Builtin.bitNot i)) := unI fun _ _ _ _ _ q => invert_int q

/-! ### bools among ints: n += (a < b) -/
theorem op_add_ib : OpR X (binaryOp .Add) (fun x y H Q => ∃ i k, x = .int i ∧ y = .bl k ∧ Q (.int (i + b2i k)) H) := by
  intro pins s σ H x y v u Q I rx ry h
  obtain ⟨i, k, rfl, rfl, q⟩ := h
  obtain ⟨t, rfl⟩ := rx
  cases ry
  exact add_int_bool ⟨.int (i + b2i k), H, I.tok _, ⟨_, rfl⟩, q⟩
end

/-! ### comparisons -/
/-- the scalars that == tells apart as data does -/
def scal : V → V → Bool
  | .non, .non => true | .non, .int _ => true | .int _, .non => true | .non, .bl _ => true | .bl _, .non => true | .non, .str _ => true | .str _, .non => true
  | .int _, .int _ => true | .bl _, .bl _ => true | .str _, .str _ => true | .byt _, .byt _ => true
  | .int _, .str _ => true | .str _, .int _ => true | .bl _, .str _ => true | .str _, .bl _ => true
  | _, _ => false
def rEq : R2 := fun x y H Q => scal x y = true ∧ Q (.bl (decide (x = y))) H
def rNe : R2 := fun x y H Q => scal x y = true ∧ Q (.bl (!decide (x = y))) H

theorem dec_int {i j : Int} : decide (V.int i = V.int j) = (i == j) := by
  rw [Bool.eq_iff_iff]
  simp
theorem dec_bl {i j : Bool} : decide (V.bl i = V.bl j) = (i == j) := by
  rw [Bool.eq_iff_iff]
  simp
theorem dec_str {i j : Str} : decide (V.str i = V.str j) = (i == j) := by
  rw [Bool.eq_iff_iff]
  simp
theorem dec_byt {i j : Array UInt8} : decide (V.byt i = V.byt j) = (i.toList == j.toList) := by
  rw [Bool.eq_iff_iff]
  cases i
  cases j
  simp

section
variable {X : Cx} {a b c : Expr} {ta tb tc : TE} {pos : Pos}
theorem fin_bl {pins : List (Addr × Obj)} {σ : St} {H : Hp} {s : Shared} {Q : VK} {k k' : Bool} (I : Inv X pins σ H s) (q : Q (.bl k) H) (e : k = k') : EP X pins σ Q (.bool k') s := by
  subst e
  exact ⟨.bl k, H, I, rfl, q⟩
theorem op_eq : OpR X (compareOp .Eq) rEq := by
  intro pins s σ H x y v u Q I rx ry h
  obtain ⟨hs, q⟩ := h
  cases x with
  | non =>
    cases rx
    cases y with
    | non => cases ry; exact PySem.EqNone.eq_none_none (fin_bl I q (by simp))
    | bl j => cases ry; exact PySem.EqNone.eq_none_bool (fin_bl I q (by simp))
    | int j => obtain ⟨t', rfl⟩ := ry; exact PySem.EqNone.eq_none_int (fin_bl I q (by simp))
    | str j => obtain ⟨t', rfl⟩ := ry; exact PySem.EqNone.eq_none_str (fin_bl I q (by simp))
    | _ => exact absurd (show false = true from hs) Bool.false_ne_true
  | bl i =>
    cases rx
    cases y with
    | non => cases ry; exact PySem.EqNone.eq_bool_none (fin_bl I q (by simp))
    | bl j => cases ry; exact eq_bool (fin_bl I q dec_bl)
    | str j => obtain ⟨t', rfl⟩ := ry; exact PySem.EqMixed.eq_bool_str (fin_bl I q (by simp))
    | _ => exact absurd (show false = true from hs) Bool.false_ne_true
  | int i =>
    obtain ⟨t, rfl⟩ := rx
    cases y with
    | non => cases ry; exact PySem.EqNone.eq_int_none (fin_bl I q (by simp))
    | int j => obtain ⟨t', rfl⟩ := ry; exact eq_int (fin_bl I q dec_int)
    | str j => obtain ⟨t', rfl⟩ := ry; exact PySem.EqMixed.eq_int_str (fin_bl I q (by simp))
    | _ => exact absurd (show false = true from hs) Bool.false_ne_true
  | str i =>
    obtain ⟨t, rfl⟩ := rx
    cases y with
    | non => cases ry; exact PySem.EqNone.eq_str_none (fin_bl I q (by simp))
    | bl j => cases ry; exact PySem.EqMixed.eq_str_bool (fin_bl I q (by simp))
    | int j => obtain ⟨t', rfl⟩ := ry; exact PySem.EqMixed.eq_str_int (fin_bl I q (by simp))
    | str j => obtain ⟨t', rfl⟩ := ry; exact eq_str (fin_bl I q dec_str)
    | _ => exact absurd (show false = true from hs) Bool.false_ne_true
  | byt i =>
    obtain ⟨t, rfl⟩ := rx
    cases y with
    | byt j => obtain ⟨t', rfl⟩ := ry; exact PySem.W.eq_bytes (fin_bl I q dec_byt)
    | _ => exact absurd (show false = true from hs) Bool.false_ne_true
  | _ => cases y <;> exact absurd (show false = true from hs) Bool.false_ne_true
theorem op_ne : OpR X (compareOp .NotEq) rNe := by
  intro pins s σ H x y v u Q I rx ry h
  obtain ⟨hs, q⟩ := h
  cases x with
  | non =>
    cases rx
    cases y with
    | non => cases ry; exact PySem.EqNone.ne_none_none (fin_bl I q (by simp))
    | bl j => cases ry; exact PySem.EqNone.ne_none_bool (fin_bl I q (by simp))
    | int j => obtain ⟨t', rfl⟩ := ry; exact PySem.EqNone.ne_none_int (fin_bl I q (by simp))
    | str j => obtain ⟨t', rfl⟩ := ry; exact PySem.EqNone.ne_none_str (fin_bl I q (by simp))
    | _ => exact absurd (show false = true from hs) Bool.false_ne_true
  | bl i =>
    cases rx
    cases y with
    | non => cases ry; exact PySem.EqNone.ne_bool_none (fin_bl I q (by simp))
    | bl j => cases ry; exact ne_bool (fin_bl I q (congrArg not dec_bl))
    | str j => obtain ⟨t', rfl⟩ := ry; exact PySem.EqMixed.ne_bool_str (fin_bl I q (by simp))
    | _ => exact absurd (show false = true from hs) Bool.false_ne_true
  | int i =>
    obtain ⟨t, rfl⟩ := rx
    cases y with
    | non => cases ry; exact PySem.EqNone.ne_int_none (fin_bl I q (by simp))
    | int j => obtain ⟨t', rfl⟩ := ry; exact ne_int (fin_bl I q (congrArg not dec_int))
    | str j => obtain ⟨t', rfl⟩ := ry; exact PySem.EqMixed.ne_int_str (fin_bl I q (by simp))
    | _ => exact absurd (show false = true from hs) Bool.false_ne_true
  | str i =>
    obtain ⟨t, rfl⟩ := rx
    cases y with
    | non => cases ry; exact PySem.EqNone.ne_str_none (fin_bl I q (by simp))
    | bl j => cases ry; exact PySem.EqMixed.ne_str_bool (fin_bl I q (by simp))
    | int j => obtain ⟨t', rfl⟩ := ry; exact PySem.EqMixed.ne_str_int (fin_bl I q (by simp))
    | str j => obtain ⟨t', rfl⟩ := ry; exact ne_str (fin_bl I q (congrArg not dec_str))
    | _ => exact absurd (show false = true from hs) Bool.false_ne_true
  | byt i =>
    obtain ⟨t, rfl⟩ := rx
    cases y with
    | byt j => obtain ⟨t', rfl⟩ := ry; exact PySem.W.ne_bytes (fin_bl I q (congrArg not dec_byt))
    | _ => exact absurd (show false = true from hs) Bool.false_ne_true
  | _ => cases y <;> exact absurd (show false = true from hs) Bool.false_ne_true

theorem op_lt : OpR X (compareOp .Lt) (rI0 fun i j => .bl (decide (i < j))) := opB0 fun _ _ _ _ _ _ _ q => lt_int q
theorem op_le : OpR X (compareOp .LtE) (rI0 fun i j => .bl (decide (i ≤ j))) := opB0 fun _ _ _ _ _ _ _ q => le_int q
theorem op_gt : OpR X (compareOp .Gt) (rI0 fun i j => .bl (decide (j < i))) := opB0 fun _ _ _ _ _ _ _ q => gt_int q
theorem op_ge : OpR X (compareOp .GtE) (rI0 fun i j => .bl (decide (j ≤ i))) := opB0 fun _ _ _ _ _ _ _ q => ge_int q
theorem op_lt_str : OpR X (compareOp .Lt) (fun x y H Q => ∃ i j, x = .str i ∧ y = .str j ∧ Q (.bl (decide (i.cps.toList < j.cps.toList))) H) := by
  intro pins s σ H x y v u Q I rx ry h
  obtain ⟨i, j, rfl, rfl, q⟩ := h
  obtain ⟨t, rfl⟩ := rx
  obtain ⟨t', rfl⟩ := ry
  exact lt_str (fin_bl I q rfl)
/-- the one string within the other -/
theorem op_in_str : OpR X (compareOp .In) (fun x y H Q => ∃ i j, x = .str i ∧ y = .str j ∧ Q (.bl (!(Builtin.Str.occurrences j i 0 j.length 1).isEmpty)) H) := by
  intro pins s σ H x y v u Q I rx ry h
  obtain ⟨i, j, rfl, rfl, q⟩ := h
  obtain ⟨t, rfl⟩ := rx
  obtain ⟨t', rfl⟩ := ry
  exact in_str (fin_bl I q rfl)

/-- is None, is not None: the right side a value none -/
theorem op_isN : OpR X (compareOp .Is) (fun x y H Q => y = .non ∧ Q (.bl (decide (x = .non))) H) := by
  intro pins s σ H x y v u Q I rx ry h
  obtain ⟨rfl, q⟩ := h
  cases ry
  refine is_none_gen (fin_bl I q ?_)
  cases x <;> first
    | (cases rx; rfl)
    | (obtain ⟨t, rfl⟩ := rx; rfl)
theorem op_notN : OpR X (compareOp .IsNot) (fun x y H Q => y = .non ∧ Q (.bl (!decide (x = .non))) H) := by
  intro pins s σ H x y v u Q I rx ry h
  obtain ⟨rfl, q⟩ := h
  cases ry
  refine isnot_none_gen (fin_bl I q ?_)
  cases x <;> first
    | (cases rx; rfl)
    | (obtain ⟨t, rfl⟩ := rx; rfl)

theorem op_notin_str : OpR X (compareOp .NotIn) (fun x y H Q => ∃ i j, x = .str i ∧ y = .str j ∧ Q (.bl (!(!(Builtin.Str.occurrences j i 0 j.length 1).isEmpty))) H) := by
  intro pins s σ H x y v u Q I rx ry h
  obtain ⟨i, j, rfl, rfl, q⟩ := h
  obtain ⟨t, rfl⟩ := rx
  obtain ⟨t', rfl⟩ := ry
  exact notIn_str (fin_bl I q rfl)
/-- is, is not of two objects that are tracked lists or instances -/
def isObj : HO → Bool
  | .lst _ => true
  | .ins _ _ _ => true
  | _ => false
theorem obj_there {pins : List (Addr × Obj)} {s : Shared} {σ : St} {H : Hp} {a : Addr} {o : HO} (I : Inv X pins σ H s) (h : H a = some o) (p : isObj o = true) : ∃ ob, s.heap.get? a = some ob ∧ ob.cls ≠ .type "tuple" := by
  cases o with
  | lst xs =>
    obtain ⟨_, its, n, _, e⟩ : xs.length ≤ sizeLine ∧ ∃ (its : List Value) (n : Nat), Vals xs its ∧ s.heap.get? a = some { cls := .type "list", data := .seq its.toArray n } := I.hok a _ h
    exact ⟨_, e, (by show Value.type "list" ≠ .type "tuple"; decide +kernel)⟩
  | ins C dx fs =>
    have x := I.hok a _ h
    obtain ⟨_, _, _, e, _⟩ := x
    exact ⟨_, e, (by show Value.ref C ≠ .type "tuple"; exact fun z => by cases z)⟩
  | _ => exact absurd (show false = true from p) Bool.false_ne_true
theorem op_is_ref : OpR X (compareOp .Is) (fun x y H Q => ∃ a b oa ob, x = .ref a ∧ y = .ref b ∧ H a = some oa ∧ isObj oa = true ∧ H b = some ob ∧ isObj ob = true ∧ Q (.bl (decide (a = b))) H) := by
  intro pins s σ H x y v u Q I rx ry h
  obtain ⟨a, b, oa, ob, rfl, rfl, ha, pa, hb, pb, q⟩ := h
  cases rx
  cases ry
  obtain ⟨o1, e1, n1⟩ := obj_there I ha pa
  obtain ⟨o2, e2, _⟩ := obj_there I hb pb
  by_cases z : a = b
  · subst z
    exact wpAny_is_ref_self (fin_bl I q (by simp))
  · exact wpAny_is_ref_other z e1 e2 n1 (fin_bl I q (by simp [z]))
theorem op_isnot_ref : OpR X (compareOp .IsNot) (fun x y H Q => ∃ a b oa ob, x = .ref a ∧ y = .ref b ∧ H a = some oa ∧ isObj oa = true ∧ H b = some ob ∧ isObj ob = true ∧ Q (.bl (!decide (a = b))) H) := by
  intro pins s σ H x y v u Q I rx ry h
  obtain ⟨a, b, oa, ob, rfl, rfl, ha, pa, hb, pb, q⟩ := h
  cases rx
  cases ry
  obtain ⟨o1, e1, n1⟩ := obj_there I ha pa
  obtain ⟨o2, e2, _⟩ := obj_there I hb pb
  by_cases z : a = b
  · subst z
    exact wpAny_isNot_ref_self (fin_bl I q (by simp))
  · exact wpAny_isNot_ref_other z e1 e2 n1 (fin_bl I q (by simp [z]))

/-- two rules for one operation: by cases -/
theorem OpR.or {f : Value → Value → Sem Value} {r r' : R2} (h : OpR X f r) (h' : OpR X f r') : OpR X f (fun x y H Q => r x y H Q ∨ r' x y H Q) := by
  intro pins s σ H x y v u Q I rx ry q
  rcases q with q | q
  · exact h pins s σ H x y v u Q I rx ry q
  · exact h' pins s σ H x y v u Q I rx ry q

theorem nomark (b : Expr) {op : CmpOp} (h : op ≠ .In := by decide) (h2 : op ≠ .NotIn := by decide) : behindInMarks op b = false := by
  have e1 : (op == CmpOp.In) = false := by cases op <;> first | rfl | exact absurd rfl h
  have e2 : (op == CmpOp.NotIn) = false := by cases op <;> first | rfl | exact absurd rfl h2
  cases b <;> simp [behindInMarks, e1, e2]
/-- a comparison as a value; hm: nomark b, or (for in, not in) by with_unfolding_all rfl -/
theorem pe_cmpR {op : CmpOp} {r : R2} (ho : OpR X (compareOp op) r) (ha : PE X a ta) (hb : PE X b tb) (hm : behindInMarks op b = false) : PE X (.Compare a [op] [b] pos) (tOp r ta tb) := by
  intro pins s σ H Q I h
  exact wpAny_Compare1 (binT ha hb I h fun v u s2 x y H2 I2 rx ry q => ho pins s2 σ H2 x y v u Q I2 rx ry q) hm
/-- a reading of a value as a test -/
def tTest (t : TE) : TT := fun σ H Q => t σ H fun x H' => ∃ k, x = .bl k ∧ Q k H'
theorem pt_cmpR {op : CmpOp} {r : R2} (ho : OpR X (compareOp op) r) (ha : PE X a ta) (hb : PE X b tb) (hm : behindInMarks op b = false) : PT X (.Compare a [op] [b] pos) (tTest (tOp r ta tb)) := by
  intro pins s σ H Q I h
  refine wpAny_isTrue_Compare1 (thn (ha pins s σ H _ I h) fun v s1 ⟨x, H1, I1, r1, q1⟩ => thn (hb pins s1 σ H1 _ I1 q1) fun u s2 ⟨y, H2, I2, r2, q2⟩ =>
    thn (ho pins s2 σ H2 x y v u _ I2 r1 r2 q2) fun c s3 ⟨z, H3, I3, r3, k, e, q3⟩ => ?_) hm
  subst e
  cases r3
  exact wpAny_truthy_bool ⟨H3, I3, q3⟩
/-- a op1 b op2 c -/
def tChain (r r' : R2) (ta tb tc : TE) : TE := fun σ H Q => ta σ H fun x H1 => tb σ H1 fun y H2 => r x y H2 fun z H3 => ∃ k, z = .bl k ∧
  (if k = true then tc σ H3 fun w' H4 => r' y w' H4 Q else Q (.bl false) H3)
theorem pe_chain {op op' : CmpOp} {r r' : R2} (ho : OpR X (compareOp op) r) (ho' : OpR X (compareOp op') r') (ha : PE X a ta) (hb : PE X b tb) (hc : PE X c tc)
    (hm : lastMarks [op, op'] [b, c] = false := by with_unfolding_all rfl) : PE X (.Compare a [op, op'] [b, c] pos) (tChain r r' ta tb tc) := by
  intro pins s σ H Q I h
  refine Compare_chain (thn (ha pins s σ H _ I h) fun v s1 ⟨x, H1, I1, r1, q1⟩ => chain_link (thn (hb pins s1 σ H1 _ I1 q1) fun u s2 ⟨y, H2, I2, r2, q2⟩ =>
    thn (ho pins s2 σ H2 x y v u _ I2 r1 r2 q2) fun d s3 ⟨z, H3, I3, r3, k, e, q3⟩ => ?_)) hm
  subst e
  cases r3
  refine wpAny_truthy_bool ?_
  cases k with
  | false => exact ite_ff ⟨.bl false, H3, I3, rfl, q3⟩
  | true => exact ite_tt (chain_last (thn (hc pins s3 σ H3 _ I3 q3) fun w' s4 ⟨z', H4, I4, r4, q4⟩ => ho' pins s4 σ H4 y z' u w' Q I4 r2 r4 q4))
theorem pt_chain {op op' : CmpOp} {r r' : R2} (ho : OpR X (compareOp op) r) (ho' : OpR X (compareOp op') r') (ha : PE X a ta) (hb : PE X b tb) (hc : PE X c tc)
    (hm : lastMarks [op, op'] [b, c] = false := by with_unfolding_all rfl) : PT X (.Compare a [op, op'] [b, c] pos) (tTest (tChain r r' ta tb tc)) := by
  intro pins s σ H Q I h
  refine isTrue_chain (thn (ha pins s σ H _ I h) fun v s1 ⟨x, H1, I1, r1, q1⟩ => test_link (thn (hb pins s1 σ H1 _ I1 q1) fun u s2 ⟨y, H2, I2, r2, q2⟩ =>
    thn (ho pins s2 σ H2 x y v u _ I2 r1 r2 q2) fun d s3 ⟨z, H3, I3, r3, k, e, q3⟩ => ?_)) hm
  subst e
  cases r3
  refine wpAny_truthy_bool ?_
  cases k with
  | false =>
    obtain ⟨k', e', q'⟩ := q3
    cases e'
    exact ite_ff ⟨H3, I3, q'⟩
  | true =>
    refine ite_tt (test_last (thn (hc pins s3 σ H3 _ I3 q3) fun w' s4 ⟨z', H4, I4, r4, q4⟩ => thn (ho' pins s4 σ H4 y z' u w' _ I4 r2 r4 q4) fun d' s5 ⟨z2, H5, I5, r5, k2, e2, q5⟩ => ?_))
    subst e2
    cases r5
    exact wpAny_truthy_bool ⟨H5, I5, q5⟩

/-! ### truth -/
/-- a value's truth by the abstract heap -/
def TruV (K : PySem.W.Frag) (x : V) (H : Hp) (k : Bool) : Prop :=
  match x with
  | .non => k = false
  | .bl b => k = b
  | .int i => k = (i != 0)
  | .str y => y.length ≤ sizeLine ∧ k = ((y.length : Int) != 0)
  | .byt y => y.size ≤ sizeLine ∧ k = ((y.size : Int) != 0)
  | .ref p => (∃ xs, SqL K H p xs ∧ k = !xs.isEmpty) ∨ (∃ xs, SqT K H p xs ∧ k = !xs.isEmpty) ∨ ∃ kvs, H p = some (.dK kvs) ∧ k = !kvs.isEmpty
  | _ => False
theorem isEmpty_kv {κ : Type} {kvs : List (κ × V)} {vs : List (κ × Value)} (r : KV kvs vs) : (!vs.isEmpty) = !kvs.isEmpty := by
  cases r <;> rfl
theorem isEmpty_of {xs : List V} {its : List Value} (r : Vals xs its) : (!its.toArray.isEmpty) = !xs.isEmpty := by
  cases r <;> simp
theorem line63 : (sizeLine : Nat) < 2 ^ 63 := by rw [sizeLine_eq]; decide
theorem tru_ok : TruR X (fun x H Q => ∃ k, TruV X.K x H k ∧ Q k H) := by
  intro pins s σ H x v Q I rx h
  obtain ⟨k, e, q⟩ := h
  have hl := line63
  have hs : sizeLine = 16777216 := sizeLine_eq
  cases x with
  | non =>
    cases rx
    have e' : k = false := e
    subst e'
    exact truthy_none ⟨H, I, q⟩
  | bl b =>
    cases rx
    have e' : k = b := e
    subst e'
    exact wpAny_truthy_bool ⟨H, I, q⟩
  | int i =>
    obtain ⟨t, rfl⟩ := rx
    have e' : k = (i != 0) := e
    subst e'
    exact PySem.P.truthy_int ⟨H, I, q⟩
  | str y =>
    obtain ⟨t, rfl⟩ := rx
    obtain ⟨hy, e'⟩ : y.length ≤ sizeLine ∧ k = ((y.length : Int) != 0) := e
    subst e'
    exact PySem.P.truthy_str (by omega) ⟨H, I.tok _, q⟩
  | byt y =>
    obtain ⟨t, rfl⟩ := rx
    obtain ⟨hy, e'⟩ : y.size ≤ sizeLine ∧ k = ((y.size : Int) != 0) := e
    subst e'
    exact PySem.W.truthy_bytes (by omega) ⟨H, I.tok _, q⟩
  | ref p =>
    cases rx
    have e' : (∃ xs, SqL X.K H p xs ∧ k = !xs.isEmpty) ∨ (∃ xs, SqT X.K H p xs ∧ k = !xs.isEmpty) ∨ ∃ kvs, H p = some (.dK kvs) ∧ k = !kvs.isEmpty := e
    rcases e' with ⟨xs, hx, e'⟩ | ⟨xs, hx, e'⟩ | ⟨kvs, hx, e'⟩
    · subst e'
      obtain ⟨its, r, pl, hz⟩ := I.list hx
      have hlen := r.length
      exact wpAny_truthy_list pl.isList (by simp only [List.size_toArray]; omega) ⟨H, I.tok _, by rw [isEmpty_of r]; exact q⟩
    · subst e'
      obtain ⟨its, r, pl, hz⟩ := I.tuple hx
      have hlen := r.length
      exact truthy_tuple pl (by simp only [List.size_toArray]; omega) ⟨H, I.tok _, by rw [isEmpty_of r]; exact q⟩
    · subst e'
      obtain ⟨hz, hS, vs, r, m⟩ : kvs.length ≤ sizeLine ∧ (p == sysModules) = false ∧ ∃ vs, KV kvs vs ∧ s.heap.DictOf (mixKind X.prog X.w) p vs := I.hok p _ hx
      have hlen : kvs.length = vs.length := Paired.length r
      exact wpAny_truthy_dict hS m (by omega) ⟨H, I.tok _, by rw [isEmpty_kv r]; exact q⟩
  | _ => exact (show False from e).elim
/-- any expression whose test is its value's truth (a name, a call, a subscript, a field ..: he by fun _ => rfl) -/
theorem pt_truth (ha : PE X a ta) (he : ∀ whole, isTrue a X.env whole = (do let v ← whole; standAt a.pos; holding [v] (truthy v))) :
    PT X a (fun σ H Q => ta σ H fun x H' => ∃ k, TruV X.K x H' k ∧ Q k H') := by
  intro pins s σ H Q I h
  exact isTrue_plain (thn (ha pins s σ H _ I h) fun v s1 ⟨x, H1, I1, r1, q1⟩ => tru_ok pins s1 σ H1 x v Q I1 r1 q1) (he _)

/-! ### strs and bytes -/
theorem pe_byt {x : List UInt8} {k : Nat} : PE X (.Constant (.bytes x) k pos) (fun _ H Q => Q (.byt x.toArray) H) := fun _ _ _ H _ I h => PySem.W.Constant_bytes ⟨.byt x.toArray, H, I.tok _, ⟨_, rfl⟩, h⟩
theorem op_add_str : OpR X (binaryOp .Add) (fun x y H Q => ∃ i j, x = .str i ∧ y = .str j ∧ i.length + j.length ≤ sizeLine ∧ Q (.str (i ++ j)) H) := by
  intro pins s σ H x y v u Q I rx ry h
  obtain ⟨i, j, rfl, rfl, hz, q⟩ := h
  obtain ⟨t, rfl⟩ := rx
  obtain ⟨t', rfl⟩ := ry
  exact add_str (fun t' tk => ⟨.str (i ++ j), H, I.tok _, ⟨_, rfl⟩, q⟩) hz
theorem iop_add_str : OpR X (inplaceOp .Add) (fun x y H Q => ∃ i j, x = .str i ∧ y = .str j ∧ i.length + j.length ≤ sizeLine ∧ Q (.str (i ++ j)) H) := by
  intro pins s σ H x y v u Q I rx ry h
  obtain ⟨i, j, rfl, rfl, hz, q⟩ := h
  obtain ⟨t, rfl⟩ := rx
  obtain ⟨t', rfl⟩ := ry
  exact iadd_str (fun t' tk => ⟨.str (i ++ j), H, I.tok _, ⟨_, rfl⟩, q⟩) hz
theorem op_add_byt : OpR X (binaryOp .Add) (fun x y H Q => ∃ i j, x = .byt i ∧ y = .byt j ∧ i.size + j.size ≤ 16777216 ∧ Q (.byt (i ++ j)) H) := by
  intro pins s σ H x y v u Q I rx ry h
  obtain ⟨i, j, rfl, rfl, hz, q⟩ := h
  obtain ⟨t, rfl⟩ := rx
  obtain ⟨t', rfl⟩ := ry
  exact PySem.W.KBy.add_bytes hz (fun t' tk => ⟨.byt (i ++ j), H, I.tok _, ⟨_, rfl⟩, q⟩)

def PlainIxT (b : Expr) : Prop := ∀ o i, subscripted b false o i = operate [o, i] (getItem o i)
/-- s[i], 0 ≤ i < len -/
theorem pe_item_str (ha : PE X a ta) (hb : PE X b tb) (hs : PlainIxT b) :
    PE X (.Subscript a b pos) (tOp (fun x y H Q => ∃ z i c, x = .str z ∧ y = .int i ∧ 0 ≤ i ∧ i < 2 ^ 63 ∧ i < z.length ∧ z.cps[i.toNat]? = some c ∧ Q (.str ⟨#[c]⟩) H) ta tb) := by
  intro pins s σ H Q I h
  refine Subscript_ (binT ha hb I h fun v u s2 x y H2 I2 rx ry q => ?_)
  obtain ⟨z, i, c, rfl, rfl, h0, h63, h1, hc, q⟩ := q
  obtain ⟨t, rfl⟩ := rx
  obtain ⟨t', rfl⟩ := ry
  have e : seqIndex? i z.length = some i.toNat := PySem.StrLaws.seqIndex_nonneg h0 h1
  exact tail_any (typeIs_str s2 z t) slot_str_getitem.lookup (getItem_str (c := c) (by
    have e1 : decide (i < -(2 ^ 63 : Int)) = false := decide_eq_false (by omega)
    have e2 : decide (i ≥ 2 ^ 63) = false := decide_eq_false (by omega)
    rw [e1, e2] <;> rfl) (by rw [e]; exact hc) ⟨.str ⟨#[c]⟩, H2, I2.tok _, ⟨_, rfl⟩, q⟩) (hs _ _)
/-- b[i], 0 ≤ i < len -/
theorem pe_item_byt (ha : PE X a ta) (hb : PE X b tb) (hs : PlainIxT b) :
    PE X (.Subscript a b pos) (tOp (fun x y H Q => ∃ (z : List UInt8) (i : Int), x = .byt z.toArray ∧ y = .int i ∧ z.length ≤ sizeLine ∧ 0 ≤ i ∧ i < z.length ∧ Q (.int ((z.getD i.toNat 0).toNat : Nat)) H) ta tb) := by
  intro pins s σ H Q I h
  refine Subscript_ (binT ha hb I h fun v u s2 x y H2 I2 rx ry q => ?_)
  obtain ⟨z, i, rfl, rfl, hz, h0, h1, q⟩ := q
  obtain ⟨t, rfl⟩ := rx
  obtain ⟨t', rfl⟩ := ry
  have hl : sizeLine = 16777216 := sizeLine_eq
  exact tail_any (PySem.W.typeIs_bytes s2 z.toArray t) PySem.W.FB.slot_bytes_getitem.lookup (PySem.W.getItem_bytes (by omega) h0 h1 ⟨.int ((z.getD i.toNat 0).toNat : Nat), H2, I2.tok _, ⟨_, rfl⟩, q⟩) (hs _ _)

/-! ### scalar builtins, by CallR -/
theorem vals1 {x : V} {us : List Value} (r : Vals [x] us) : ∃ u, us = [u] ∧ RelV x u := by
  cases r with
  | cons r1 r2 => cases r2; exact ⟨_, rfl, r1⟩
theorem vals2 {x y : V} {us : List Value} (r : Vals [x, y] us) : ∃ u w', us = [u, w'] ∧ RelV x u ∧ RelV y w' := by
  cases r with
  | cons r1 r2 =>
    cases r2 with
    | cons r3 r4 => cases r4; exact ⟨_, _, rfl, r1, r3⟩
theorem call_abs : CallR X (.builtin "abs") (fun xs H Q => ∃ i, xs = [.int i] ∧ Q (.int (if i < 0 then -i else i)) H) := by
  intro pins s σ H xs us Q I r h
  obtain ⟨i, rfl, q⟩ := h
  obtain ⟨u, rfl, t, rfl⟩ := vals1 r
  exact call_abs_int fun u tk => ⟨.int (if i < 0 then -i else i), H, I.tok _, ⟨_, rfl⟩, q⟩
theorem call_max2 (hc : X.calm = true) : CallR X (.builtin "max") (fun xs H Q => ∃ i j, xs = [.int i, .int j] ∧ Q (.int (if j > i then j else i)) H) := by
  intro pins s σ H xs us Q I r h
  obtain ⟨i, j, rfl, q⟩ := h
  obtain ⟨u, w', rfl, ⟨t, rfl⟩, ⟨t', rfl⟩⟩ := vals2 r
  refine max_two_ints (I.ok.hd hc) fun h' tk k => ⟨_, H, I.kept k, ?_, q⟩
  by_cases hj : j > i
  · rw [if_pos hj, if_pos hj]; exact ⟨_, rfl⟩
  · rw [if_neg hj, if_neg hj]; exact ⟨_, rfl⟩
theorem call_min2 (hc : X.calm = true) : CallR X (.builtin "min") (fun xs H Q => ∃ i j, xs = [.int i, .int j] ∧ Q (.int (if j < i then j else i)) H) := by
  intro pins s σ H xs us Q I r h
  obtain ⟨i, j, rfl, q⟩ := h
  obtain ⟨u, w', rfl, ⟨t, rfl⟩, ⟨t', rfl⟩⟩ := vals2 r
  refine min_two_ints (I.ok.hd hc) fun h' tk k => ⟨_, H, I.kept k, ?_, q⟩
  by_cases hj : j < i
  · rw [if_pos hj, if_pos hj]; exact ⟨_, rfl⟩
  · rw [if_neg hj, if_neg hj]; exact ⟨_, rfl⟩
theorem call_int1 : CallR X (.type "int") (fun xs H Q => (∃ i, xs = [.int i] ∧ Q (.int i) H) ∨ ∃ k, xs = [.bl k] ∧ Q (.int (if k then 1 else 0)) H) := by
  intro pins s σ H xs us Q I r h
  rcases h with ⟨i, rfl, q⟩ | ⟨k, rfl, q⟩
  · obtain ⟨u, rfl, t, rfl⟩ := vals1 r
    exact call_int_int ⟨.int i, H, I, ⟨_, rfl⟩, q⟩
  · obtain ⟨u, rfl, r1⟩ := vals1 r
    cases r1
    exact call_int_bool ⟨.int (if k then 1 else 0), H, I.tok _, ⟨_, rfl⟩, q⟩
theorem call_bool1 : CallR X (.type "bool") (fun xs H Q => (∃ i, xs = [.int i] ∧ Q (.bl (i != 0)) H) ∨ ∃ k, xs = [.bl k] ∧ Q (.bl k) H) := by
  intro pins s σ H xs us Q I r h
  rcases h with ⟨i, rfl, q⟩ | ⟨k, rfl, q⟩
  · obtain ⟨u, rfl, t, rfl⟩ := vals1 r
    exact call_bool_int ⟨.bl (i != 0), H, I, rfl, q⟩
  · obtain ⟨u, rfl, r1⟩ := vals1 r
    cases r1
    exact call_bool_bool ⟨.bl k, H, I, rfl, q⟩
theorem call_str_int : CallR X (.type "str") (fun xs H Q => ∃ i, xs = [.int i] ∧ i.natAbs.log2 < 1920 ∧ Q (.str (toString i)) H) := by
  intro pins s σ H xs us Q I r h
  obtain ⟨i, rfl, hz, q⟩ := h
  obtain ⟨u, rfl, t, rfl⟩ := vals1 r
  exact PySem.P.str_of_int hz ⟨.str _, H, I.tok _, ⟨_, rfl⟩, q⟩
theorem call_ord : CallR X (.builtin "ord") (fun xs H Q => ∃ x, xs = [.str x] ∧ x.length = 1 ∧ Q (.int (x.cps.getD 0 0 : Nat)) H) := by
  intro pins s σ H xs us Q I r h
  obtain ⟨x, rfl, hz, q⟩ := h
  obtain ⟨u, rfl, t, rfl⟩ := vals1 r
  exact ord_of_one hz ⟨.int _, H, I.tok _, ⟨_, rfl⟩, q⟩
theorem call_chr : CallR X (.builtin "chr") (fun xs H Q => ∃ i, xs = [.int i] ∧ 0 ≤ i ∧ i ≤ 1114111 ∧ Q (.str ⟨#[i.toNat]⟩) H) := by
  intro pins s σ H xs us Q I r h
  obtain ⟨i, rfl, h0, h1, q⟩ := h
  obtain ⟨u, rfl, t, rfl⟩ := vals1 r
  exact chr_of_range h0 h1 ⟨.str _, H, I.tok _, ⟨_, rfl⟩, q⟩
/-- len of a str, a bytes, a list, a tuple -/
def LenV (K : PySem.W.Frag) (x : V) (H : Hp) (n : Nat) : Prop :=
  match x with
  | .str y => y.length ≤ sizeLine ∧ n = y.length
  | .byt y => y.size ≤ sizeLine ∧ n = y.size
  | .ref p => (∃ xs, SqL K H p xs ∧ n = xs.length) ∨ ∃ xs, SqT K H p xs ∧ n = xs.length
  | _ => False
theorem call_len : CallR X (.builtin "len") (fun xs H Q => ∃ x n, xs = [x] ∧ LenV X.K x H n ∧ Q (.int n) H) := by
  intro pins s σ H xs us Q I r h
  obtain ⟨x, n, rfl, e, q⟩ := h
  obtain ⟨u, rfl, rx⟩ := vals1 r
  have hl := line63
  have hs : sizeLine = 16777216 := sizeLine_eq
  cases x with
  | str y =>
    obtain ⟨t, rfl⟩ := rx
    obtain ⟨hy, e'⟩ : y.length ≤ sizeLine ∧ n = y.length := e
    subst e'
    exact len_str (by omega) ⟨.int _, H, I.tok _, ⟨_, rfl⟩, q⟩
  | byt y =>
    obtain ⟨t, rfl⟩ := rx
    obtain ⟨hy, e'⟩ : y.size ≤ sizeLine ∧ n = y.size := e
    subst e'
    exact PySem.W.len_bytes (by omega) ⟨.int _, H, I.tok _, ⟨_, rfl⟩, q⟩
  | ref p =>
    cases rx
    have e' : (∃ xs, SqL X.K H p xs ∧ n = xs.length) ∨ ∃ xs, SqT X.K H p xs ∧ n = xs.length := e
    rcases e' with ⟨xs, hx, e'⟩ | ⟨xs, hx, e'⟩
    · subst e'
      obtain ⟨its, r', pl, hz⟩ := I.list hx
      have hlen := r'.length
      exact Calls.call_len_list pl.isList (by simp only [List.size_toArray]; omega) ⟨.int xs.length, H, I.tok _, ⟨_, by simp only [List.size_toArray]; rw [hlen]⟩, q⟩
    · subst e'
      obtain ⟨its, r', pl, hz⟩ := I.tuple hx
      have hlen := r'.length
      exact len_tuple pl (by simp only [List.size_toArray]; omega) ⟨.int xs.length, H, I.tok _, ⟨_, by simp only [List.size_toArray]; rw [hlen]⟩, q⟩
  | _ => exact (show False from e).elim
/-- divmod: a new tuple -/
theorem call_divmod : CallR X (.builtin "divmod") (fun xs H Q => ∃ i j, xs = [.int i, .int j] ∧ CDiv i j ∧ ∀ p, H p = none → Q (.ref p) (upd H p (.tup [.int (i / j), .int (i % j)]))) := by
  intro pins s σ H xs us Q I r h
  obtain ⟨i, j, rfl, ⟨h1, h2⟩, q⟩ := h
  obtain ⟨u, w', rfl, ⟨t, rfl⟩, ⟨t', rfl⟩⟩ := vals2 r
  refine divmod_int (by omega) ?_ (.inl (PyProof.noPylong_small (by omega)))
  rw [Int.fdiv_eq_ediv_of_nonneg i (by omega), Int.fmod_eq_emod_of_nonneg i (by omega)]
  have hn : H s.heap.objs.size = none := I.hok.fresh (Nat.le_refl _)
  refine ⟨.ref s.heap.objs.size, _, ?_, rfl, q _ hn⟩
  refine I.laid (fun b o e => Heap.get?_push_of_some _ e) (Nat.le_refl _) ⟨by simp only [List.length_cons, List.length_nil]; rw [sizeLine_eq]; decide, [.int (i / j) s.toks, .int (i % j) (s.toks + 1)], .cons ⟨_, rfl⟩ (.cons ⟨_, rfl⟩ .nil), ?_⟩
  exact ⟨_, Heap.get?_push_size s.heap rfl, rfl, 0, rfl⟩
end
end L2

namespace L2
open PySem PySem.Spec PyProof.Rows

/-! ### an instance, its attributes a map -/
structure ObjM (h : Heap) (x dx C : Addr) (mA : Str → Option Value) : Prop where
  obj : h.get? x = some (PySem.W.instObj C dx)
  ns : h.Ns1 dx mA
  ne : dx ≠ x

theorem lookIn_ns {h : Heap} {dx : Addr} {mA : Str → Option Value} (n : h.Ns1 dx mA) : ∃ od, h.get? dx = some od ∧ ∀ name, PySem.W.lookIn name od = some (mA name) := by
  obtain ⟨o, es, ep, ho, hd, hk, _, hm⟩ := n
  refine ⟨o, ho, fun name => ?_⟩
  have e := hm name
  unfold nsFind findBy at e
  rw [← Array.find?_toList] at e
  unfold PySem.W.lookIn
  rw [hd]
  dsimp only
  split
  · rename_i y q
    rw [q] at e
    exact congrArg some e
  · rename_i q
    rw [q] at e
    have a : es.toList.any (·.refKey) = false := by
      rw [List.any_eq_false]
      intro y hy
      obtain ⟨z, t, hkey⟩ := hk y (Array.mem_toList_iff.mp hy)
      simp [DictEntry.refKey, hkey]
    have a' : ¬ es.toList.any (·.refKey) = true := by rw [a]; exact Bool.false_ne_true
    rw [if_neg a']
    exact congrArg some e

theorem ObjM.look {h : Heap} {x dx C : Addr} {mA : Str → Option Value} (I : ObjM h x dx C mA) : ∃ od, PySem.W.InstAt h x (PySem.W.instObj C dx) C (some od) ∧ ∀ name, PySem.W.lookIn name od = some (mA name) :=
  let ⟨od, ho, hl⟩ := lookIn_ns I.ns
  ⟨od, ⟨I.obj, rfl, rfl, ho⟩, hl⟩

section
variable {prog : Program} {w : World} {A : Around} {E : Value → Shared → Prop} {s : Shared} {K : PySem.W.Frag} {x dx C f : Addr} {mA : Str → Option Value} {name : Str} {v : Value}

theorem get_map {expr : Bool} {Q : Value → Shared → Prop} (X : K.In s.heap) (I : ObjM s.heap x dx C mA) (hg : PySem.W.plainGet K C name = true) (hh : PySem.W.hasDictIn K C = true)
    (ha : PySem.W.findIn K (.ref C) name = some none) (hv : mA name = some v) (hv' : PySem.W.handedIn v = true) (h : Q v { s with toks := s.toks + 1 }) :
    wpAny (model prog w) A (getAttr (.ref x) name expr) Q E s := by
  obtain ⟨od, J, hl⟩ := I.look
  exact PySem.W.get_value X J (PySem.W.plainGet_of hg).1 (PySem.W.findObj_own hh ha rfl (by rw [hl, hv])) hv' h

theorem get_const {expr : Bool} {a : Value} {Q : Value → Shared → Prop} (X : K.In s.heap) (I : ObjM s.heap x dx C mA) (hg : PySem.W.plainGet K C name = true) (hh : PySem.W.hasDictIn K C = true)
    (ha : PySem.W.findIn K (.ref C) name = some (some a)) (hn : PySem.W.specialIn K a "__get__" = some none) (hc : PySem.W.copiedNames.contains name = false) (hv : mA name = none) (hv' : PySem.W.handedIn a = true)
    (h : Q a { s with toks := s.toks + 1 }) : wpAny (model prog w) A (getAttr (.ref x) name expr) Q E s := by
  obtain ⟨od, J, hl⟩ := I.look
  exact PySem.W.get_value X J (PySem.W.plainGet_of hg).1 (PySem.W.findObj_cls hh ha hn hv' hc (by rw [hl, hv])) hv' h

theorem get_meth {pl : Sem Bool} {Q : Value × List Value → Shared → Prop} (X : K.In s.heap) (I : ObjM s.heap x dx C mA) (hg : PySem.W.plainGet K C name = true)
    (hf : PySem.W.findIn K (.ref C) name = some (some (.ref f))) (ht : PySem.W.isFn K (.ref f) = true) (hv : mA name = none) (h : Q (.ref f, [.ref x]) s) :
    wpAny (model prog w) A (getMethod (.ref x) name pl) Q E s := by
  obtain ⟨od, J, hl⟩ := I.look
  exact PySem.W.method_fn X J (PySem.W.plainGet_of hg).1 (PySem.W.plainGet_of hg).2 hf (beq_iff_eq.mp ht) (by show (PySem.W.lookIn name od).map (·.isSome) = some false; rw [hl, hv]; rfl) h

theorem set_map {ns : List Str} {Q : Unit → Shared → Prop} (X : K.In s.heap) (I : ObjM s.heap x dx C mA)
    (hs : PySem.W.findIn K (.ref C) "__setattr__" = some (some (.builtin "object.__setattr__"))) (hp : PySem.W.plainOver K C = true) (ht : PySem.W.takerIn K C name = some none) (hh : PySem.W.hasDictIn K C = true)
    (hw : PySem.Within mA ns) (hsz : ns.length ≤ sizeLine)
    (h : ∀ h', ObjM h' x dx C (fun y => if y = name then some v else mA y) → Heap.SameBut dx s.heap h' → Q () { s with heap := h', toks := s.toks + 2 }) :
    wpAny (model prog w) A (setAttr (.ref x) name v) Q E s := by
  obtain ⟨od, J, hl⟩ := I.look
  refine PySem.W.set_plain X J hs (PySem.W.osa_open (s := { s with toks := s.toks + 1 }) (r := none) X J hp ht fun b => ?_)
  obtain ⟨cd, hc, hd'⟩ := PySem.W.any_some hh
  have hx : s.heap.get? x = some ⟨.ref C, some dx, .plain, #[]⟩ := I.obj
  refine wpAny_bind (wpAny_pure (wpAny_bind (wpAny_bind (wpAny_loadPart hx (wpAny_bind (PySem.W.Looks.here (s := { s with toks := s.toks + 1 }) (PySem.W.looks_clsIn X hc) ?_))))))
  rw [hd']
  refine wpAny_pure (a := some dx) (wpAny_bind (wpAny_pure (wpAny_bind ?_)))
  refine wpAny_nsSet1 (s := { s with toks := s.toks + 1 }) I.ns fun h' hn2 hs2 => ?_
  obtain ⟨oD, esD, epD, hoD, hdD, hcD⟩ := hn2.count (PySem.Within.cons name v hw)
  refine wpAny_bind (wpAny_lookBehind hoD (by rw [hdD]; exact pastItsLine_dict (Nat.le_trans hcD (by rw [List.length_cons]; omega))) ?_)
  exact wpAny_pure (h _ ⟨(hs2.2 _ (Ne.symm I.ne)).trans I.obj, hn2, I.ne⟩ hs2)

/-- C(..): the dict at the heap's end, the instance behind it; then its __init__ -/
theorem make_map {R : Result → Shared → Prop} {vs : List Value} {kw : List (Str × Value)} (X : K.In s.heap) (hm : PySem.W.makesIn K C = true)
    (hi : PySem.W.findIn K (.ref C) "__init__" = some (some (.ref f))) (hf : PySem.W.typeIn K (.ref f) = some (.type "function"))
    (h : codeAny (model prog w) (A.under (.builtin "type.__call__" ⟨.ref C :: vs, kw⟩)) (.call (.ref f) ⟨.ref (s.heap.objs.size + 1) :: vs, kw⟩) (PySem.W.InitBack (s.heap.objs.size + 1) R)
      { s with heap := (s.heap.push PySem.W.emptyDict).push (PySem.W.instObj C s.heap.objs.size) }) :
    codeAny (model prog w) A (.call (.ref C) ⟨vs, kw⟩) R s := by
  obtain ⟨hh, g, d, t, os⟩ := s
  exact PySem.W.make_core (PySem.W.makes_of X hm) (PySem.W.looks_findIn X hi) (fun self => PySem.W.bind_fn X self hf) (.inl rfl) h
/-- C() where there is no __init__ but object's -/
theorem make_map0 {R : Result → Shared → Prop} (X : K.In s.heap) (hm : PySem.W.makesIn K C = true)
    (hi : PySem.W.findIn K (.ref C) "__init__" = some (some (.builtin "object.__init__")))
    (hb : ∀ self, PySem.W.Looks (model prog w) s.heap (bindSpecial (.builtin "object.__init__") self) (.builtin "object.__init__", [self]))
    (h : codeAny (model prog w) (A.under (.builtin "type.__call__" ⟨[.ref C], []⟩)) (.call (.builtin "object.__init__") ⟨[.ref (s.heap.objs.size + 1)], []⟩) (PySem.W.InitBack (s.heap.objs.size + 1) R)
      { s with heap := (s.heap.push PySem.W.emptyDict).push (PySem.W.instObj C s.heap.objs.size) }) :
    codeAny (model prog w) A (.call (.ref C) ⟨[], []⟩) R s := by
  obtain ⟨hh, g, d, t, os⟩ := s
  exact PySem.W.make_core (PySem.W.makes_of X hm) (PySem.W.looks_findIn X hi) hb (.inr ⟨rfl, rfl⟩) h
end

/-! ### the attributes as a list of pairs -/
def putF (f : Str) (v : V) : List (Str × V) → List (Str × V)
  | [] => [(f, v)]
  | (g, x) :: r => if g = f then (g, v) :: r else (g, x) :: putF f v r
theorem lookup_putF (f g : Str) (v : V) : ∀ fs : List (Str × V), (putF f v fs).lookup g = if g = f then some v else fs.lookup g
  | [] => by
    show List.lookup g [(f, v)] = _
    by_cases h : g = f
    · have hb : (g == f) = true := beq_iff_eq.mpr h
      simp only [List.lookup, hb, if_pos h]
    · have hb : (g == f) = false := beq_eq_false_iff_ne.mpr h
      simp only [List.lookup, hb, if_neg h]
  | (k, x) :: r => by
    have ih := lookup_putF f g v r
    rw [show putF f v ((k, x) :: r) = (if k = f then (k, v) :: r else (k, x) :: putF f v r) from rfl]
    by_cases hk : k = f
    · rw [if_pos hk]
      by_cases h : g = k
      · have hb : (g == k) = true := beq_iff_eq.mpr h
        simp only [List.lookup, hb, if_pos (h.trans hk)]
      · have hb : (g == k) = false := beq_eq_false_iff_ne.mpr h
        simp only [List.lookup, hb, if_neg (fun e : g = f => h (e.trans hk.symm))]
    · rw [if_neg hk]
      by_cases h : g = k
      · have hb : (g == k) = true := beq_iff_eq.mpr h
        simp only [List.lookup, hb, if_neg (fun e : g = f => hk (h.symm.trans e))]
      · have hb : (g == k) = false := beq_eq_false_iff_ne.mpr h
        simp only [List.lookup, hb]
        exact ih
theorem keys_putF (f : Str) (v : V) : ∀ fs : List (Str × V), f ∈ (putF f v fs).map (·.1) ∧ ∀ g, g ∈ fs.map (·.1) → g ∈ (putF f v fs).map (·.1)
  | [] => ⟨by simp [putF], fun g h => by simp at h⟩
  | (k, x) :: r => by
    obtain ⟨i1, i2⟩ := keys_putF f v r
    rw [show putF f v ((k, x) :: r) = (if k = f then (k, v) :: r else (k, x) :: putF f v r) from rfl]
    by_cases hk : k = f
    · rw [if_pos hk]
      subst hk
      exact ⟨by simp, fun g h => by simpa using h⟩
    · rw [if_neg hk]
      refine ⟨?_, fun g h => ?_⟩
      · rw [List.map_cons]
        exact List.mem_cons_of_mem _ i1
      · rw [List.map_cons] at h ⊢
        rcases List.mem_cons.mp h with e | e
        · exact List.mem_cons.mpr (.inl e)
        · exact List.mem_cons_of_mem _ (i2 g e)
theorem length_putF (f : Str) (v : V) : ∀ fs : List (Str × V), (putF f v fs).length ≤ fs.length + 1
  | [] => by simp [putF]
  | (k, x) :: r => by
    have ih := length_putF f v r
    rw [show putF f v ((k, x) :: r) = (if k = f then (k, v) :: r else (k, x) :: putF f v r) from rfl]
    by_cases hk : k = f
    · rw [if_pos hk, List.length_cons, List.length_cons]; omega
    · rw [if_neg hk, List.length_cons, List.length_cons]; omega

theorem RelO.some_of {v : V} {o : Option Value} (r : RelO (some v) o) : ∃ u, o = some u ∧ RelV v u := by
  cases o with
  | none => exact (show False from r).elim
  | some u => exact ⟨u, rfl, r⟩
theorem RelO.none_of {o : Option Value} (r : RelO none o) : o = none := by
  cases o with
  | none => rfl
  | some u => exact (show False from r).elim
theorem handed_of {v : V} {u : Value} (r : RelV v u) : PySem.W.handedIn u = true := by
  cases v with
  | non => cases (show u = Value.none from r); rfl
  | bl b => cases (show u = Value.bool b from r); rfl
  | int i => obtain ⟨t, e⟩ := (show ∃ t, u = Value.int i t from r); cases e; rfl
  | str x => obtain ⟨t, e⟩ := (show ∃ t, u = Value.str x t from r); cases e; rfl
  | byt b => obtain ⟨t, e⟩ := (show ∃ t, u = Value.bytes b t from r); cases e; rfl
  | flt b => obtain ⟨t, e⟩ := (show ∃ t, u = Value.float b t from r); cases e; rfl
  | ref a => cases (show u = Value.ref a from r); rfl
  | ty n => cases (show u = Value.type n from r); rfl

section
variable {P : Program} {w : World} {H H' : Hp} {h h' : Heap} {a C dx : Addr} {fs fs' : List (Str × V)}
theorem ins_get (hok : HOk P w H h) (e : H a = some (.ins C dx fs)) : ∃ mA, ObjM h a dx C mA ∧ (∀ f, RelO (fs.lookup f) (mA f)) ∧ PySem.Within mA (fs.map (·.1)) ∧ fs.length ≤ 1000 ∧ H dx = some (.own a) := by
  obtain ⟨d, z, ne, ob, mA, n, r, q⟩ := (show ObjOk P w H h a (.ins C dx fs) from hok a _ e)
  exact ⟨mA, ⟨ob, n, ne⟩, r, q, z, d⟩
end

/-! ### what of the text a class must have -/
structure Cls (K : PySem.W.Frag) (C : Addr) : Prop where
  pg : PySem.W.plainGet K C Str.empty = true
  hd : PySem.W.hasDictIn K C = true
  po : PySem.W.plainOver K C = true
  sa : PySem.W.findIn K (.ref C) "__setattr__" = some (some (.builtin "object.__setattr__"))
theorem Cls.get {K : PySem.W.Frag} {C : Addr} (c : Cls K C) (f : Str) : PySem.W.plainGet K C f = true := c.pg
/-- no class of it has the name -/
def NoAttr (K : PySem.W.Frag) (C : Addr) (f : Str) : Prop := PySem.W.findIn K (.ref C) f = some none
theorem NoAttr.taker {K : PySem.W.Frag} {C : Addr} {f : Str} (n : NoAttr K C f) : PySem.W.takerIn K C f = some none := by
  unfold PySem.W.takerIn
  rw [show PySem.W.findIn K (.ref C) f = some none from n]
  rfl
/-- a constant of the class -/
structure Con (K : PySem.W.Frag) (C : Addr) (f : Str) (v : V) (u : Value) : Prop where
  at_ : PySem.W.findIn K (.ref C) f = some (some u)
  rel : RelV v u
  get : PySem.W.specialIn K u "__get__" = some none
  cp : PySem.W.copiedNames.contains f = false
/-- a method: a plain def of the class or of one above it -/
structure Meth (K : PySem.W.Frag) (C : Addr) (m : Str) (f : Addr) : Prop where
  at_ : PySem.W.findIn K (.ref C) m = some (some (.ref f))
  fn : PySem.W.isFn K (.ref f) = true
  kp : PySem.W.keepIn K (.ref f) = true

section
variable {X : Cx} {pins : List (Addr × Obj)} {σ : St} {H : Hp} {s : Shared} {a C dx : Addr} {fs : List (Str × V)} {f : Str} {v : V} {A : Around} {E : Value → Shared → Prop}

theorem getattr_ok {b : Bool} {Q : Value → Shared → Prop} (I : Inv X pins σ H s) (e : H a = some (.ins C dx fs)) (c : Cls X.K C) (n : NoAttr X.K C f) (l : fs.lookup f = some v)
    (h : ∀ u s', Inv X pins σ H s' → RelV v u → Q u s') : wpAny (model X.prog X.w) A (getAttr (.ref a) f b) Q E s := by
  obtain ⟨mA, O, r, _, _, _⟩ := ins_get I.hok e
  obtain ⟨u, hu, ru⟩ := RelO.some_of (v := v) (o := mA f) (by rw [← l]; exact r f)
  exact get_map I.kIn O (c.get f) c.hd n hu (handed_of ru) (h u _ (I.tok _) ru)

theorem getcon_ok {b : Bool} {u : Value} {Q : Value → Shared → Prop} (I : Inv X pins σ H s) (e : H a = some (.ins C dx fs)) (c : Cls X.K C) (k : Con X.K C f v u) (l : fs.lookup f = none)
    (h : ∀ s', Inv X pins σ H s' → Q u s') : wpAny (model X.prog X.w) A (getAttr (.ref a) f b) Q E s := by
  obtain ⟨mA, O, r, _, _, _⟩ := ins_get I.hok e
  have hn : mA f = none := RelO.none_of (by rw [← l]; exact r f)
  exact get_const I.kIn O (c.get f) c.hd k.at_ k.get k.cp hn (handed_of k.rel) (h _ (I.tok _))

theorem getmeth_ok {m : Str} {g : Addr} {pl : Sem Bool} {Q : Value × List Value → Shared → Prop} (I : Inv X pins σ H s) (e : H a = some (.ins C dx fs)) (c : Cls X.K C) (k : Meth X.K C m g) (l : fs.lookup m = none)
    (h : Q (.ref g, [.ref a]) s) : wpAny (model X.prog X.w) A (getMethod (.ref a) m pl) Q E s := by
  obtain ⟨mA, O, r, _, _, _⟩ := ins_get I.hok e
  have hn : mA m = none := RelO.none_of (by rw [← l]; exact r m)
  exact get_meth I.kIn O (c.get m) k.at_ k.fn hn h

theorem setattr_ok {y : V} {u : Value} {Q : Unit → Shared → Prop} (I : Inv X pins σ H s) (e : H a = some (.ins C dx fs)) (c : Cls X.K C) (n : NoAttr X.K C f) (hl : fs.length < 1000) (ry : RelV y u)
    (h : ∀ s', Inv X pins σ (upd H a (.ins C dx (putF f y fs))) s' → Q () s') : wpAny (model X.prog X.w) A (setAttr (.ref a) f u) Q E s := by
  obtain ⟨mA, O, r, wi, _, ho⟩ := ins_get I.hok e
  have hz : (fs.map (·.1)).length ≤ sizeLine := by rw [List.length_map, sizeLine_eq]; omega
  refine set_map I.kIn O c.sa c.po n.taker c.hd wi hz fun h' O' sb => h _ ?_
  have hd : ∃ o, h'.get? dx = some o := let ⟨o, _, _, e', _⟩ := O'.ns; ⟨o, e'⟩
  refine I.write (x := a) (e := dx) (by rw [e]; exact True.intro) (.inr ho) (fun b q hb z => (sb.2 b hb).trans z) hd ?_
  refine ⟨by rw [upd_ne O.ne]; exact ho, ?_, O.ne, O'.obj, _, O'.ns, fun g => ?_, fun g hg => ?_⟩
  · have := length_putF f y fs; omega
  · show RelO ((putF f y fs).lookup g) (if g = f then some u else mA g)
    rw [lookup_putF]
    by_cases q : g = f
    · rw [if_pos q, if_pos q]; exact ry
    · rw [if_neg q, if_neg q]; exact r g
  · by_cases q : g = f
    · rw [q]; exact (keys_putF f y fs).1
    · refine (keys_putF f y fs).2 g (wi g fun z => hg ?_)
      show (if g = f then some u else mA g) = none
      rw [if_neg q]; exact z

/-- a new instance, tracked, without attributes -/
theorem Inv.made (I : Inv X pins σ H s) : Inv X pins σ (upd (upd H s.heap.objs.size (.own (s.heap.objs.size + 1))) (s.heap.objs.size + 1) (.ins C s.heap.objs.size []))
    { s with heap := (s.heap.push PySem.W.emptyDict).push (PySem.W.instObj C s.heap.objs.size) } := by
  have e1 : (s.heap.push PySem.W.emptyDict).get? s.heap.objs.size = some PySem.W.emptyDict := Heap.get?_push_size s.heap rfl
  have e2 : ((s.heap.push PySem.W.emptyDict).push (PySem.W.instObj C s.heap.objs.size)).get? (s.heap.objs.size + 1) = some (PySem.W.instObj C s.heap.objs.size) := by
    have := Heap.get?_push_size (s.heap.push PySem.W.emptyDict) (o := PySem.W.instObj C s.heap.objs.size) rfl
    rwa [Heap.size_push] at this
  have e3 : (s.heap.push PySem.W.emptyDict).Ns s.heap.objs.size (fun _ => none) := ⟨PySem.W.emptyDict, #[], _, e1, rfl, (fun e he => absurd he (by simp)), fun _ => rfl⟩
  have I1 := I.laid (a := s.heap.objs.size) (o := .own (s.heap.objs.size + 1)) (h' := s.heap.push PySem.W.emptyDict) (t' := s.toks) (fun b u q => Heap.get?_push_of_some _ q) (Nat.le_refl _) ⟨_, e1⟩
  refine I1.laid (a := s.heap.objs.size + 1) (o := .ins C s.heap.objs.size []) (t' := s.toks) (fun b u q => Heap.get?_push_of_some _ q) (Nat.le_of_eq (Heap.size_push _ _)) ?_
  have ne : s.heap.objs.size ≠ s.heap.objs.size + 1 := Nat.ne_of_lt (Nat.lt_succ_self _)
  refine ⟨by rw [upd_ne ne, upd_same], Nat.zero_le _, ne, e2, fun _ => none, (Heap.Ns1.of_empty e3).at fun o q => Heap.get?_push_of_some _ q, fun _ => True.intro, fun y hy => absurd rfl hy⟩

/-- e.f where nothing but the object is asked: through attributeBase (super) and the last hold -/
theorem attr_of {prog : Program} {w : World} {env : Env} {e : Expr} {f : Str} {pos : Pos} {s : Shared} {Q : Value → Shared → Prop} (hb : attributeBase e f env (eval e env) = eval e env)
    (h : wpAny (model prog w) A (eval e env) (fun o s₁ => wpAny (model prog w) A (getAttr o f true) Q E s₁) E s) : wpAny (model prog w) A (eval (.Attribute e f pos) env) Q E s :=
  Attribute_any_ h (by rw [arm_eval_Attribute, hb])
end

/-! ### readings and rules -/
/-- e.f, an attribute of the instance -/
def tFld (K : PySem.W.Frag) (ta : TE) (f : Str) : TE := fun σ H Q => ta σ H fun x H1 => ∃ a C dx fs v, x = .ref a ∧ H1 a = some (.ins C dx fs) ∧ Cls K C ∧ NoAttr K C f ∧ fs.lookup f = some v ∧ Q v H1
/-- e.f, a constant of the class -/
def tCon (K : PySem.W.Frag) (ta : TE) (f : Str) : TE := fun σ H Q => ta σ H fun x H1 => ∃ a C dx fs v u, x = .ref a ∧ H1 a = some (.ins C dx fs) ∧ Cls K C ∧ Con K C f v u ∧ fs.lookup f = none ∧ Q v H1
/-- e.f = value -/
def sFld (K : PySem.W.Frag) (ta tv : TE) (f : Str) : TS := fun D σ H => tv σ H fun y H1 => ta σ H1 fun x H2 => ∃ a C dx fs, x = .ref a ∧ H2 a = some (.ins C dx fs) ∧ Cls K C ∧ NoAttr K C f ∧ fs.length < 1000 ∧
  D.nx σ (upd H2 a (.ins C dx (putF f y fs)))
/-- an augmented operator on two values -/
def InOp (X : Cx) (op : Operator) (rd : V → V → Hp → VK → Prop) : Prop :=
  ∀ (pins : List (Addr × Obj)) (s : Shared) (σ : St) (H : Hp) (x y : V) (u v : Value) (Q : VK), Inv X pins σ H s → RelV x u → RelV y v → rd x y H Q → wpAny (model X.prog X.w) X.A (inplaceOp op u v) (EP X pins σ Q) X.xe s
/-- e.f op= value -/
def sFldAug (K : PySem.W.Frag) (ta tv : TE) (rd : V → V → Hp → VK → Prop) (f : Str) : TS := fun D σ H => ta σ H fun x H1 => ∃ a C dx fs v, x = .ref a ∧ H1 a = some (.ins C dx fs) ∧ Cls K C ∧ NoAttr K C f ∧ fs.lookup f = some v ∧
  tv σ H1 fun y H2 => rd v y H2 fun z H3 => ∃ dx' fs', H3 a = some (.ins C dx' fs') ∧ fs'.length < 1000 ∧ D.nx σ (upd H3 a (.ins C dx' (putF f z fs')))

section
variable {X : Cx} {o e value : Expr} {f : Str} {pos pos' tpos : Pos} {ta tv : TE}
theorem pe_fld (he : PE X e ta) (hb : attributeBase e f X.env (eval e X.env) = eval e X.env) : PE X (.Attribute e f pos) (tFld X.K ta f) := by
  intro pins s σ H Q I h
  refine attr_of hb (thn (he pins s σ H _ I h) fun u s1 ⟨x, H1, I1, rx, a, C, dx, fs, v, ex, ea, c, n, l, q⟩ => ?_)
  subst ex
  obtain rfl : u = Value.ref a := rx
  exact getattr_ok I1 ea c n l fun u' s2 I2 ru => ⟨v, H1, I2, ru, q⟩
theorem pe_con (he : PE X e ta) (hb : attributeBase e f X.env (eval e X.env) = eval e X.env) : PE X (.Attribute e f pos) (tCon X.K ta f) := by
  intro pins s σ H Q I h
  refine attr_of hb (thn (he pins s σ H _ I h) fun u s1 ⟨x, H1, I1, rx, a, C, dx, fs, v, u0, ex, ea, c, k, l, q⟩ => ?_)
  subst ex
  obtain rfl : u = Value.ref a := rx
  exact getcon_ok I1 ea c k l fun s2 I2 => ⟨v, H1, I2, k.rel, q⟩
theorem ps_fld (ha : PE X o ta) (hv : PE X value tv) (hs : swapsWith value (some (.Attribute o f pos')) pos.line X.env = pure false) : PS X (.Assign [.Attribute o f pos'] value pos) (sFld X.K ta tv f) := by
  intro pins s σ H D I h
  refine plainObj_wpAny_Assign_Attribute (thn (hv pins s σ H _ I h) fun u s1 ⟨y, H1, I1, ry, q⟩ => thn (ha pins s1 σ H1 _ I1 q) fun ov s2 ⟨x, H2, I2, rx, a, C, dx, fs, ex, ea, c, n, l, q2⟩ => ?_) hs
  subst ex
  obtain rfl : ov = Value.ref a := rx
  exact setattr_ok I2 ea c n l ry fun s3 I3 => ⟨σ, _, I3, q2⟩
theorem ps_fldaug {op : Operator} {rd : V → V → Hp → VK → Prop} (ha : PE X o ta) (hv : PE X value tv) (hop : InOp X op rd) : PS X (.AugAssign (.Attribute o f tpos) op value pos) (sFldAug X.K ta tv rd f) := by
  intro pins s σ H D I h
  refine wpAny_AugAssign_AttributeAny (thn (ha pins s σ H _ I h) fun ov s1 ⟨x, H1, I1, rx, a, C, dx, fs, v, ex, ea, c, n, l, q⟩ => ?_)
  subst ex
  obtain rfl : ov = Value.ref a := rx
  refine getattr_ok I1 ea c n l fun u s2 I2 ru => thn (hv pins s2 σ H1 _ I2 q) fun w3 s3 ⟨y, H2, I3, ry, q3⟩ => thn (hop pins s3 σ H2 v y u w3 _ I3 ru ry q3) fun w4 s4 ⟨z, H3, I4, rz, dx', fs', ea', l', q4⟩ => ?_
  exact setattr_ok I4 ea' c n l' rz fun s5 I5 => ⟨σ, _, I5, q4⟩
def rAdd : V → V → Hp → VK → Prop := fun x y H Q => ∃ i j, x = .int i ∧ y = .int j ∧ Q (.int (i + j)) H
def rSub : V → V → Hp → VK → Prop := fun x y H Q => ∃ i j, x = .int i ∧ y = .int j ∧ Q (.int (i - j)) H
theorem in_add : InOp X .Add rAdd := by
  rintro pins s σ H x y u v Q I rx ry ⟨i, j, rfl, rfl, q⟩
  obtain ⟨t, rfl⟩ := (show ∃ t, u = Value.int i t from rx)
  obtain ⟨t', rfl⟩ := (show ∃ t', v = Value.int j t' from ry)
  exact PyProof.Rows.iadd_int ⟨.int (i + j), H, I.tok _, ⟨_, rfl⟩, q⟩
theorem in_sub : InOp X .Sub rSub := by
  rintro pins s σ H x y u v Q I rx ry ⟨i, j, rfl, rfl, q⟩
  obtain ⟨t, rfl⟩ := (show ∃ t, u = Value.int i t from rx)
  obtain ⟨t', rfl⟩ := (show ∃ t', v = Value.int j t' from ry)
  exact PyProof.Rows.isub_int ⟨.int (i - j), H, I.tok _, ⟨_, rfl⟩, q⟩

/-- what is between an instance and its method: the tree of a method call -/
theorem methcall_of {pl : Sem Bool} {m : Str} {apos : Pos} {args : List Expr} {pins : List (Addr × Obj)} {s : Shared} {σ : St} {H : Hp} {Q : Value → Shared → Prop} {te : TE} (he : PE X e te) (I : Inv X pins σ H s)
    (h : te σ H fun x H1 => ∃ a C dx fs g, x = .ref a ∧ H1 a = some (.ins C dx fs) ∧ Cls X.K C ∧ Meth X.K C m g ∧ fs.lookup m = none ∧
      ∀ s1, Inv X pins σ H1 s1 → wpAny (model X.prog X.w) X.A (callWith pos (.ref g) [.ref a] (backTo pos (starEach args X.env)) (backToKw pos (keywordEach [] X.env))) Q X.xe s1)
    (ht : eval (.Call (.Attribute e m apos) args [] pos) X.env = (do
      let ov ← eval e X.env
      standAt apos.atName
      let (f, first) ← holding [ov] (getMethod ov m pl)
      callWith pos f first (backTo pos (starEach args X.env)) (backToKw pos (keywordEach [] X.env)))) :
    wpAny (model X.prog X.w) X.A (eval (.Call (.Attribute e m apos) args [] pos) X.env) Q X.xe s := by
  refine PySem.W.methodCall_KW (pl := pl) (thn (he pins s σ H _ I h) fun u s1 ⟨x, H1, I1, rx, a, C, dx, fs, g, ex, ea, c, k, l, q⟩ => ?_) ht
  subst ex
  obtain rfl : u = Value.ref a := rx
  exact getmeth_ok I1 ea c k l (q s1 I1)
end

/-! ### isinstance -/
section
variable {X : Cx} {pins : List (Addr × Obj)} {σ : St} {H : Hp} {s : Shared} {A : Around} {E : Value → Shared → Prop} {Q : Value → Shared → Prop} {c : Value} {b : Bool}
/-- the type of a value, as the fragment's deciders take it; for an instance its class -/
inductive TyOf (K : PySem.W.Frag) (H : Hp) : V → Value → Prop where
  | non : TyOf K H .non (.type "NoneType")
  | bl (x : Bool) : TyOf K H (.bl x) (.type "bool")
  | int (i : Int) : TyOf K H (.int i) (.type "int")
  | str (x : Str) : TyOf K H (.str x) (.type "str")
  | flt (x : UInt64) : TyOf K H (.flt x) (.type "float")
  | lst {a : Addr} {xs : List V} (e : H a = some (.lst xs)) : TyOf K H (.ref a) (.type "list")
  | frz {a : Addr} {o : Obj} {xs : List V} (e : H a = some (.frz o (.lst xs))) : TyOf K H (.ref a) (.type "list")
  | tup {a : Addr} {xs : List V} (e : H a = some (.tup xs)) : TyOf K H (.ref a) (.type "tuple")
  | dK {a : Addr} {kvs : List (Key × V)} (e : H a = some (.dK kvs)) : TyOf K H (.ref a) (.type "dict")
  | dT {a : Addr} {kvs : List (List Key × V)} (e : H a = some (.dT kvs)) : TyOf K H (.ref a) (.type "dict")
  | ins {a C dx : Addr} {fs : List (Str × V)} (e : H a = some (.ins C dx fs)) (cl : Cls K C) (ha : PySem.W.findIn K (.ref C) "__class__" = some (some (.builtin "object.__class__")))
      (hn : PySem.W.specialIn K (.builtin "object.__class__") "__get__" = some (some (.builtin "getset_descriptor.__get__"))) (htk : PySem.W.takesIn K (.builtin "object.__class__") = some true)
      (hm : PySem.W.mroIn K C (.type "object") = some true) : TyOf K H (.ref a) (.ref C)
/-- isinstance(x, c) for one class c, a built-in or an own one: kitOne's answer -/
theorem isinst_ok {x : V} {u t : Value} (I : Inv X pins σ H s) (rx : RelV x u) (ty : TyOf X.K H x t) (e : PySem.W.kitOne X.K t c = some b) (h : ∀ tk, Q (.bool b) { s with toks := tk }) :
    wpAny (model X.prog X.w) A (call (.builtin "isinstance") [u, c]) Q E s := by
  cases ty with
  | non => cases (show u = Value.none from rx); exact PySem.W.kia_one PySem.W.kitx_none I.kIn True.intro e (fun z => nomatch z) h
  | bl y => cases (show u = Value.bool y from rx); exact PySem.W.kia_one PySem.W.kitx_bool I.kIn True.intro e (fun z => nomatch z) h
  | int i => obtain ⟨t, q⟩ := (show ∃ t, u = Value.int i t from rx); cases q; exact PySem.W.kia_one PySem.W.kitx_int I.kIn True.intro e (fun z => nomatch z) h
  | str y => obtain ⟨t, q⟩ := (show ∃ t, u = Value.str y t from rx); cases q; exact PySem.W.kia_one PySem.W.kitx_str I.kIn True.intro e (fun z => nomatch z) h
  | flt y => obtain ⟨t, q⟩ := (show ∃ t, u = Value.float y t from rx); cases q; exact PySem.W.kia_one PySem.W.kitx_float I.kIn True.intro e (fun z => nomatch z) h
  | @lst a xs ea =>
    cases (show u = Value.ref a from rx)
    obtain ⟨_, _, n, _, h1⟩ := (show ObjOk X.prog X.w H s.heap a (.lst xs) from I.hok a _ ea)
    exact PySem.W.kia_one PySem.W.kitx_list I.kIn ⟨_, h1, rfl⟩ e (fun z => nomatch z) h
  | @frz a ob xs ea =>
    cases (show u = Value.ref a from rx)
    obtain ⟨_, _, _, n, _, h1⟩ := (show ObjOk X.prog X.w H s.heap a (.frz ob (.lst xs)) from I.hok a _ ea)
    exact PySem.W.kia_one PySem.W.kitx_list I.kIn ⟨_, h1, rfl⟩ e (fun z => nomatch z) h
  | @tup a xs ea =>
    cases (show u = Value.ref a from rx)
    obtain ⟨_, _, _, p⟩ := (show ObjOk X.prog X.w H s.heap a (.tup xs) from I.hok a _ ea)
    obtain ⟨o, h1, h2, _⟩ := p
    exact PySem.W.kia_one PySem.W.kitx_tuple I.kIn ⟨o, h1, h2⟩ e (fun z => nomatch z) h
  | @dK a kvs ea =>
    cases (show u = Value.ref a from rx)
    obtain ⟨_, _, vs, _, p⟩ := (show ObjOk X.prog X.w H s.heap a (.dK kvs) from I.hok a _ ea)
    obtain ⟨o, es, ep, h1, h2, _⟩ := p
    exact PySem.W.kia_one PySem.W.kitx_dict I.kIn ⟨o, h1, h2.1⟩ e (fun z => nomatch z) h
  | @dT a kvs ea =>
    cases (show u = Value.ref a from rx)
    obtain ⟨_, _, xs, _, o, es, ep, h1, h2, _⟩ := (show ObjOk X.prog X.w H s.heap a (.dT kvs) from I.hok a _ ea)
    exact PySem.W.kia_one PySem.W.kitx_dict I.kIn ⟨o, h1, h2.1⟩ e (fun z => nomatch z) h
  | @ins a C dx fs ea cl ha hn htk hm =>
    cases (show u = Value.ref a from rx)
    obtain ⟨mA, O, _⟩ := ins_get I.hok ea
    obtain ⟨od, J, _⟩ := O.look
    exact PySem.W.kia_one (PySem.W.kitx_own (cl.get _) cl.hd ha hn htk hm) I.kIn J e (fun z => nomatch z) h
end
end L2

namespace L2
open PySem PySem.Spec PyProof.Rows

/-! ### room -/
structure Room (k : Nat) (A : Around) : Prop where
  hd : A.handled = none
  dp : A.depth + 3 * k + 5 < recursionLimit
  un : A.units + 16 * k + 200 < cLine
theorem Room.mono {j k : Nat} {A : Around} (r : Room k A) (h : j ≤ k) : Room j A := ⟨r.hd, by have := r.dp; omega, by have := r.un; omega⟩
theorem Room.deeper {k : Nat} {A : Around} (r : Room (k + 1) A) (env : Env) : Room k (A.deeper env) :=
  ⟨r.hd, by have := r.dp; show A.depth + 1 + 3 * k + 5 < _; omega, by have := r.un; show A.units + 3 + 16 * k + 200 < _; omega⟩
theorem Room.in1 {k : Nat} {A : Around} (r : Room (k + 1) A) : Room k A.in1 :=
  ⟨r.hd, by have := r.dp; show A.depth + 3 * k + 5 < _; omega, by have := r.un; show A.units + 1 + 16 * k + 200 < _; omega⟩
theorem make_depth {A : Around} {C : Addr} {us : List Value} {kw : List (Str × Value)} : (A.under (.builtin "type.__call__" ⟨.ref C :: us, kw⟩)).depth = A.depth + 1 := by
  first | rfl | simp [Around.under, Code.weight, Code.isCreation, Code.isGuard, Code.isCaller, Code.frames, Code.isFrame, guardIds]
theorem make_units {A : Around} {C : Addr} {us : List Value} {kw : List (Str × Value)} : (A.under (.builtin "type.__call__" ⟨.ref C :: us, kw⟩)).units = A.units + 1 := by
  first | rfl | simp [Around.under, Code.cUnits, Code.frames, Code.isFrame]
theorem Room.make {k : Nat} {A : Around} (r : Room (k + 1) A) (C : Addr) (us : List Value) (kw : List (Str × Value)) : Room k (A.under (.builtin "type.__call__" ⟨.ref C :: us, kw⟩)) :=
  ⟨r.hd, by have := r.dp; rw [make_depth]; omega, by have := r.un; rw [make_units]; omega⟩
theorem Room.depth {k : Nat} {A : Around} (r : Room k A) : A.depth < recursionLimit := by have := r.dp; omega
theorem Room.units {k : Nat} {A : Around} (r : Room k A) : A.units + 64 < cLine := by have := r.un; omega
theorem Room.units0 {k : Nat} {A : Around} (r : Room k A) : A.units < cLine := by have := r.un; omega

/-! ### argument lists and displays -/
def tNil : TA := fun _ H Q => Q [] H
def tCons (ta : TE) (tr : TA) : TA := fun σ H Q => ta σ H fun x H1 => tr σ H1 fun xs H2 => Q (x :: xs) H2
section
variable {X : Cx} {e : Expr} {es : List Expr} {te : TE} {t : TA} {pos : Pos}
theorem pa_nil : PA X [] tNil := fun _ _ _ _ H Q I h => Calls.spliced_nil ⟨[], H, I, .nil, h⟩
theorem pa_cons (ha : PE X e te) (hr : PA X es t) (hs : starEach (e :: es) X.env = (false, eval e X.env) :: starEach es X.env := by rfl) : PA X (e :: es) (tCons te t) := by
  intro pos pins s σ H Q I h
  rw [hs]
  show wpAny _ _ (spliced ((false, eval e X.env) :: backTo pos (starEach es X.env))) _ _ s
  refine Calls.spliced_cons (thn (ha pins s σ H _ I h) fun u s1 ⟨x, H1, I1, r1, q1⟩ => ?_)
  exact thn (hr pos pins s1 σ H1 _ I1 q1) fun us s2 ⟨xs, H2, I2, r2, q2⟩ => ⟨x :: xs, H2, I2, .cons r1 r2, q2⟩

/-- a tuple, a list of written items -/
def tTup (t : TA) : TE := fun σ H Q => t σ H fun xs H1 => xs.length ≤ sizeLine ∧ ∀ p, H1 p = none → Q (.ref p) (upd H1 p (.tup xs))
def tLst (t : TA) : TE := fun σ H Q => t σ H fun xs H1 => xs.length ≤ sizeLine ∧ ∀ p, H1 p = none → Q (.ref p) (upd H1 p (.lst xs))
theorem pe_tup {x1} (h : PA X es t) : PE X (.Tuple es x1 pos) (tTup t) := by
  intro pins s σ H Q I hq
  refine wpAny_Tuple_spliced (thn (h pos pins s σ H _ I hq) fun us s1 ⟨xs, H1, I1, r, z, q⟩ => ⟨by rw [← r.length]; exact z, ?_⟩)
  have hf : H1 s1.heap.objs.size = none := I1.hok.fresh (Nat.le_refl _)
  refine ⟨.ref s1.heap.objs.size, upd H1 s1.heap.objs.size (.tup xs), I1.laid (t' := s1.toks) (fun b u e => Heap.get?_push_of_some _ e) (Nat.le_refl _) ?_, rfl, q _ hf⟩
  exact ⟨z, us, r, ⟨_, Heap.get?_push_size _ rfl, rfl, _, rfl⟩⟩
theorem pe_lst (h : PA X es t) : PE X (.List es pos) (tLst t) := by
  intro pins s σ H Q I hq
  refine wpAny_List_spliced (thn (h pos pins s σ H _ I hq) fun us s1 ⟨xs, H1, I1, r, z, q⟩ => ⟨by rw [← r.length]; exact z, ?_⟩)
  have hf : H1 s1.heap.objs.size = none := I1.hok.fresh (Nat.le_refl _)
  refine ⟨.ref s1.heap.objs.size, upd H1 s1.heap.objs.size (.lst xs), I1.laid (t' := s1.toks) (fun b u e => Heap.get?_push_of_some _ e) (Nat.le_refl _) ?_, rfl, q _ hf⟩
  exact ⟨z, us, 0, r, Heap.get?_push_size _ rfl⟩
end

/-! ### what a def promises -/
/-- a def's promise: the bound arguments in the parameters' order, the heap, the wanted end, the wanted exception -/
abbrev Sp := List V → Hp → VK → XK → Prop
/-- how an exception lies behind a call (file 08 gives it): the callers' frames, abstract heap and state ahead of the call, the wish, the exception, the state -/
abbrev CXT := List Env → Hp → Shared → XK → Value → Shared → Prop

/-- the state at a call -/
structure Env0 (P : Program) (w : World) (K : PySem.W.Frag) (mg : Str → Option Value) (base : Heap) (A : Around) (outer : List Env) (s : Shared) (H : Hp) : Prop where
  frames : A.frames = some outer
  mod : Mod K mg base
  bs : ∀ b o, base.get? b = some o → s.heap.get? b = some o ∧ H b = none
  bsz : base.objs.size ≤ s.heap.objs.size
  funs : s.heap.FunFrames base outer
  frf : ∀ b ∈ frs outer, H b = none
  hok : HOk P w H s.heap
  bare : AllBare s.gens
/-- a call's end -/
def CE (outer : List Env) (P : Program) (w : World) (H : Hp) (s : Shared) (Q : VK) (u : Value) (s' : Shared) : Prop :=
  ∃ v H', s'.os = s.os ∧ AllBare s'.gens ∧ Un (frs outer) [] H H' s.heap s'.heap ∧ HOk P w H' s'.heap ∧ RelV v u ∧ Q v H'
def CR (CX : CXT) (outer : List Env) (P : Program) (w : World) (H : Hp) (s : Shared) (Q : VK) (E : XK) (r : Result) (s' : Shared) : Prop :=
  match r with
  | .ok (.ret u) => CE outer P w H s Q u s'
  | .ok _ => False
  | .error e => CX outer H s E e s'
structure FnOk (P : Program) (w : World) (K : PySem.W.Frag) (mg : Str → Option Value) (base : Heap) (CX : CXT) (k : Nat) (f : Addr) (fd : FuncData) (ps : List Str) (sp : Sp) : Prop where
  len : ∀ vs H Q E, sp vs H Q E → vs.length = ps.length
  run : ∀ (A : Around) (outer : List Env) (s : Shared) (H : Hp) (args : Args) (us : List Value) (vs : List V) (Q : VK) (E : XK), Room k A → Env0 P w K mg base A outer s H → BindsTo s fd args (ps.zip us) → Vals vs us → sp vs H Q E →
    codeAny (model P w) A (.call (.ref f) args) (CR CX outer P w H s Q E) s
theorem FnOk.mono {P : Program} {w : World} {K : PySem.W.Frag} {mg : Str → Option Value} {base : Heap} {CX : CXT} {j k : Nat} {f : Addr} {fd : FuncData} {ps : List Str} {sp : Sp} (F : FnOk P w K mg base CX j f fd ps sp) (h : j ≤ k) :
    FnOk P w K mg base CX k f fd ps sp := ⟨F.len, fun A outer s H args us vs Q E hr => F.run A outer s H args us vs Q E (hr.mono h)⟩
/-- a weaker promise -/
theorem FnOk.imp {P : Program} {w : World} {K : PySem.W.Frag} {mg : Str → Option Value} {base : Heap} {CX : CXT} {k : Nat} {f : Addr} {fd : FuncData} {ps : List Str} {sp sp' : Sp} (F : FnOk P w K mg base CX k f fd ps sp)
    (h : ∀ vs H Q E, sp' vs H Q E → sp vs H Q E) : FnOk P w K mg base CX k f fd ps sp' :=
  ⟨fun vs H Q E q => F.len vs H Q E (h _ _ _ _ q), fun A outer s H args us vs Q E hr he hb hv hs => F.run A outer s H args us vs Q E hr he hb hv (h _ _ _ _ hs)⟩

theorem Env0.make {P : Program} {w : World} {K : PySem.W.Frag} {mg : Str → Option Value} {base : Heap} {A : Around} {outer : List Env} {s : Shared} {H : Hp} (e : Env0 P w K mg base A outer s H) (C : Addr) (us : List Value) (kw : List (Str × Value)) :
    Env0 P w K mg base (A.under (.builtin "type.__call__" ⟨.ref C :: us, kw⟩)) outer s H := ⟨by first | exact e.frames | (simpa [Around.under, Code.envs, Code.isFrame, pushEnvs] using e.frames), e.mod, e.bs, e.bsz, e.funs, e.frf, e.hok, e.bare⟩
theorem Env0.in1 {P : Program} {w : World} {K : PySem.W.Frag} {mg : Str → Option Value} {base : Heap} {A : Around} {outer : List Env} {s : Shared} {H : Hp} (e : Env0 P w K mg base A outer s H) :
    Env0 P w K mg base A.in1 outer s H := ⟨e.frames, e.mod, e.bs, e.bsz, e.funs, e.frf, e.hok, e.bare⟩

section
variable {X : Cx} {pins : List (Addr × Obj)} {σ : St} {H : Hp} {s s' : Shared}
/-- from a body: what a callee wants -/
theorem Inv.env0 (I : Inv X pins σ H s) : Env0 X.prog X.w X.K X.mg X.base X.A X.stack s H :=
  ⟨I.ok.frames, I.ok.mod, I.bs, Nat.le_trans I.ok.bsz I.sz, I.stack, I.stkFree, I.hok, I.bare⟩
/-- behind a call -/
theorem Inv.after {Q : VK} {u : Value} (I : Inv X pins σ H s) (h : CE X.stack X.prog X.w H s Q u s') : EP X pins σ Q u s' := by
  obtain ⟨v, H', os, bare, un, hok, r, q⟩ := h
  obtain ⟨hh, g, d, t, os'⟩ := s'
  obtain rfl : os' = s.os := os
  exact ⟨v, H', I.call (h' := hh) (g' := g) (d' := d) (t' := t) (ch := []) un hok bare (fun b z => absurd z (by simp)), r, q⟩
end

/-! ### calls -/
/-- f(..): the written arguments, then the defaults dvs; E: what is wanted of an exception -/
def tCall (sp : Sp) (dvs : List V) (E : XK) (t : TA) : TE := fun σ H Q => t σ H fun vs H1 => sp (vs ++ dvs) H1 Q E
/-- o.m(..) of an instance of the class at C -/
def tMeth (C : Addr) (m : Str) (sp : Sp) (dvs : List V) (E : XK) (ta : TE) (t : TA) : TE := fun σ H Q => ta σ H fun x H1 => ∃ a dx fs, x = .ref a ∧ H1 a = some (.ins C dx fs) ∧ fs.lookup m = none ∧
  t σ H1 fun vs H2 => sp (x :: (vs ++ dvs)) H2 Q E
/-- C(..): a new instance and its dict, then __init__ -/
def tMake (C : Addr) (sp : Sp) (dvs : List V) (E : XK) (t : TA) : TE := fun σ H Q => t σ H fun vs H1 => ∀ x dx, H1 x = none → H1 dx = none → dx ≠ x →
  sp (.ref x :: (vs ++ dvs)) (upd (upd H1 dx (.own x)) x (.ins C dx [])) (fun v H2 => v = .non ∧ Q (.ref x) H2) E

/-- how the parameters are bound: us the positional arguments, kw the keywords' values by name, ds the defaults that fill up -/
def Binds (K : PySem.W.Frag) (fd : FuncData) (ps : List Str) (ds : List Value) : Prop :=
  ∀ (s : Shared) (us : List Value), K.In s.heap → (us ++ ds).length = ps.length → BindsTo s fd ⟨us, []⟩ (ps.zip (us ++ ds))
/-- every parameter is given -/
theorem Binds.all {K : PySem.W.Frag} {fd : FuncData} {ps : List Str} (h : ∀ us : List Value, us.length = ps.length → bindArgs fd ⟨us, []⟩ = pure (ps.zip us)) : Binds K fd ps [] := fun s us _ hl => by
  rw [List.append_nil] at hl ⊢
  exact .of_eq (h us hl)

/-- an exception of a callee reaches what this body wants of exceptions -/
def Passes (CX : CXT) (X : Cx) (E : XK) : Prop := ∀ (pins : List (Addr × Obj)) (σ : St) (H : Hp) (s : Shared) (e : Value) (s' : Shared), Inv X pins σ H s → CX X.stack H s E e s' → X.xe e s'

section
variable {X : Cx} {CX : CXT} {k : Nat} {f C : Addr} {fd : FuncData} {ps : List Str} {sp : Sp} {dvs : List V} {ds : List Value} {E : XK} {x m : Str} {p pos apos : Pos} {e o : Expr} {es : List Expr} {ta : TE} {t : TA}

/-- the callee runs -/
theorem run_fn {pins : List (Addr × Obj)} {σ : St} {H : Hp} {s : Shared} {Q : VK} {us : List Value} {vs : List V} (F : FnOk X.prog X.w X.K X.mg X.base CX k f fd ps sp) (hr : Room k X.A) (hb : Binds X.K fd ps ds) (hd : Vals dvs ds) (hx : Passes CX X E)
    (I : Inv X pins σ H s) (r : Vals vs us) (h : sp (vs ++ dvs) H Q E) : wpAny (model X.prog X.w) X.A (call (.ref f) us) (EP X pins σ Q) X.xe s := by
  have r2 : Vals (vs ++ dvs) (us ++ ds) := r.append hd
  have hl : (us ++ ds).length = ps.length := by rw [← r2.length]; exact F.len _ _ _ _ h
  refine wpAny_call (codeAny_mono (F.run X.A X.stack s H ⟨us, []⟩ (us ++ ds) (vs ++ dvs) Q E hr I.env0 (hb s us I.kIn hl) r2 h) fun r s' hq => ?_)
  cases r with
  | error e => exact hx pins σ H s e s' I hq
  | ok fl =>
    cases fl with
    | ret u => exact I.after hq
    | next => exact False.elim hq
    | brk => exact False.elim hq
    | cont => exact False.elim hq

theorem pe_call (F : FnOk X.prog X.w X.K X.mg X.base CX k f fd ps sp) (hr : Room k X.A) (hg : Gl X x) (hm : X.mg x = some (.ref f)) (hk : PySem.W.keepIn X.K (.ref f) = true) (hb : Binds X.K fd ps ds) (hd : Vals dvs ds) (hx : Passes CX X E)
    (ha : PA X (e :: es) t) (hdb : (x == ("__debug__" : Str)) = false := by decide) (he : starEach (e :: es) X.env = (false, eval e X.env) :: starEach es X.env := by rfl) (hpl : (backTo pos (starEach es X.env)).any (·.1) = false := by rfl) :
    PE X (.Call (.Name x p) (e :: es) [] pos) (tCall sp dvs E t) := by
  intro pins s σ H Q I h
  refine wpAny_Call_Name_kw (ld_glob I hg hm ?_ hdb)
  refine PySem.W.callWith_K (h₀ := X.base) I.ok.mod.kin hk (thn (ha pos pins s σ H _ I h) fun us s1 ⟨vs, H1, I1, r, q⟩ => ⟨I1.kIn, ?_⟩) he hpl
  exact run_fn F hr hb hd hx I1 r q
theorem pe_call0 (F : FnOk X.prog X.w X.K X.mg X.base CX k f fd ps sp) (hr : Room k X.A) (hg : Gl X x) (hm : X.mg x = some (.ref f)) (hk : PySem.W.keepIn X.K (.ref f) = true) (hb : Binds X.K fd ps ds) (hd : Vals dvs ds) (hx : Passes CX X E)
    (hdb : (x == ("__debug__" : Str)) = false := by decide) : PE X (.Call (.Name x p) [] [] pos) (tCall sp dvs E tNil) := by
  intro pins s σ H Q I h
  refine wpAny_Call_Name_kw (ld_glob I hg hm ?_ hdb)
  exact PySem.W.callWith_K0 I.kIn hk (run_fn (us := []) F hr hb hd hx I .nil h)

/-- o.m(e, ..) -/
theorem pe_meth {pl : Sem Bool} (he : PE X o ta) (c : Cls X.K C) (hm : Meth X.K C m f) (F : FnOk X.prog X.w X.K X.mg X.base CX k f fd ps sp) (hr : Room k X.A) (hb : Binds X.K fd ps ds) (hd : Vals dvs ds) (hx : Passes CX X E) (ha : PA X (e :: es) t)
    (hst : starEach (e :: es) X.env = (false, eval e X.env) :: starEach es X.env := by rfl) (hpl : (backTo pos (starEach es X.env)).any (·.1) = false := by rfl)
    (ht : eval (.Call (.Attribute o m apos) (e :: es) [] pos) X.env = (do
      let ov ← eval o X.env
      standAt apos.atName
      let (f, first) ← holding [ov] (getMethod ov m pl)
      callWith pos f first (backTo pos (starEach (e :: es) X.env)) (backToKw pos (keywordEach [] X.env))) := by rfl) :
    PE X (.Call (.Attribute o m apos) (e :: es) [] pos) (tMeth C m sp dvs E ta t) := by
  intro pins s σ H Q I h
  refine PySem.W.methodCall_KW (pl := pl) (thn (he pins s σ H _ I h) fun u s1 ⟨x, H1, I1, rx, a, dx, fs, ex, ea, l, q⟩ => ?_) ht
  subst ex
  obtain rfl : u = Value.ref a := rx
  refine getmeth_ok I1 ea c hm l ?_
  refine PySem.W.callWith_K (first := [.ref a]) (h₀ := X.base) I.ok.mod.kin hm.kp (thn (ha pos pins s1 σ H1 _ I1 q) fun us s2 ⟨vs, H2, I2, r, q2⟩ => ⟨I2.kIn, ?_⟩) hst hpl
  exact run_fn (us := .ref a :: us) (vs := .ref a :: vs) F hr hb hd hx I2 (.cons rfl r) q2
/-- o.m() -/
theorem pe_meth0 {pl : Sem Bool} (he : PE X o ta) (c : Cls X.K C) (hm : Meth X.K C m f) (F : FnOk X.prog X.w X.K X.mg X.base CX k f fd ps sp) (hr : Room k X.A) (hb : Binds X.K fd ps ds) (hd : Vals dvs ds) (hx : Passes CX X E)
    (ht : eval (.Call (.Attribute o m apos) [] [] pos) X.env = (do
      let ov ← eval o X.env
      standAt apos.atName
      let (f, first) ← holding [ov] (getMethod ov m pl)
      callWith pos f first (backTo pos (starEach [] X.env)) (backToKw pos (keywordEach [] X.env))) := by rfl) :
    PE X (.Call (.Attribute o m apos) [] [] pos) (tMeth C m sp dvs E ta tNil) := by
  intro pins s σ H Q I h
  refine PySem.W.methodCall_KW (pl := pl) (thn (he pins s σ H _ I h) fun u s1 ⟨x, H1, I1, rx, a, dx, fs, ex, ea, l, q⟩ => ?_) ht
  subst ex
  obtain rfl : u = Value.ref a := rx
  refine getmeth_ok I1 ea c hm l ?_
  exact PySem.W.callWith_K0 (first := [.ref a]) I1.kIn hm.kp (run_fn (us := [.ref a]) (vs := [.ref a]) F hr hb hd hx I1 (.cons rfl .nil) q)

/-- what a class must have to be made -/
structure Mk (K : PySem.W.Frag) (C f : Addr) : Prop where
  makes : PySem.W.makesIn K C = true
  init : PySem.W.findIn K (.ref C) "__init__" = some (some (.ref f))
  fn : PySem.W.isFn K (.ref f) = true
  kp : PySem.W.keepIn K (.ref C) = true

theorem run_make {pins : List (Addr × Obj)} {σ : St} {H : Hp} {s : Shared} {Q : VK} {us : List Value} {vs : List V} (M : Mk X.K C f) (F : FnOk X.prog X.w X.K X.mg X.base CX k f fd ps sp) (hr : Room (k + 1) X.A) (hb : Binds X.K fd ps ds) (hd : Vals dvs ds)
    (hx : Passes CX X E) (I : Inv X pins σ H s) (r : Vals vs us)
    (h : ∀ x dx, H x = none → H dx = none → dx ≠ x → sp (.ref x :: (vs ++ dvs)) (upd (upd H dx (.own x)) x (.ins C dx [])) (fun v H2 => v = .non ∧ Q (.ref x) H2) E) :
    wpAny (model X.prog X.w) X.A (call (.ref C) us) (EP X pins σ Q) X.xe s := by
  have hq := h (s.heap.objs.size + 1) s.heap.objs.size (I.hok.fresh (Nat.le_succ _)) (I.hok.fresh (Nat.le_refl _)) (Nat.ne_of_lt (Nat.lt_succ_self _))
  have I2 := Inv.made (C := C) I
  have r2 : Vals (V.ref (s.heap.objs.size + 1) :: (vs ++ dvs)) (Value.ref (s.heap.objs.size + 1) :: (us ++ ds)) := .cons rfl (r.append hd)
  have hl : (Value.ref (s.heap.objs.size + 1) :: us ++ ds).length = ps.length := by
    have e := r2.length
    rw [F.len _ _ _ _ hq] at e
    exact e.symm
  refine wpAny_call (make_map (f := f) I.kIn M.makes M.init (beq_iff_eq.mp M.fn) (codeAny_mono (F.run _ X.stack _ _ ⟨Value.ref (s.heap.objs.size + 1) :: us, []⟩ (Value.ref (s.heap.objs.size + 1) :: (us ++ ds)) _ _ E (hr.make C us [])
    (I2.env0.make C us []) (hb _ (Value.ref (s.heap.objs.size + 1) :: us) I2.kIn hl) r2 hq) fun r s' hq' => ?_))
  cases r with
  | error e => exact hx pins σ _ _ e s' I2 hq'
  | ok fl =>
    cases fl with
    | ret u =>
      obtain ⟨v, H', I3, rv, ev, q3⟩ := I2.after hq'
      subst ev
      exact ⟨rv, ⟨V.ref (s.heap.objs.size + 1), H', I3, rfl, q3⟩⟩
    | next => exact False.elim hq'
    | brk => exact False.elim hq'
    | cont => exact False.elim hq'
theorem pe_make (M : Mk X.K C f) (F : FnOk X.prog X.w X.K X.mg X.base CX k f fd ps sp) (hr : Room (k + 1) X.A) (hg : Gl X x) (hm : X.mg x = some (.ref C)) (hb : Binds X.K fd ps ds) (hd : Vals dvs ds) (hx : Passes CX X E)
    (ha : PA X (e :: es) t) (hdb : (x == ("__debug__" : Str)) = false := by decide) (he : starEach (e :: es) X.env = (false, eval e X.env) :: starEach es X.env := by rfl) (hpl : (backTo pos (starEach es X.env)).any (·.1) = false := by rfl) :
    PE X (.Call (.Name x p) (e :: es) [] pos) (tMake C sp dvs E t) := by
  intro pins s σ H Q I h
  refine wpAny_Call_Name_kw (ld_glob I hg hm ?_ hdb)
  refine PySem.W.callWith_K (h₀ := X.base) I.ok.mod.kin M.kp (thn (ha pos pins s σ H _ I h) fun us s1 ⟨vs, H1, I1, r, q⟩ => ⟨I1.kIn, ?_⟩) he hpl
  exact run_make M F hr hb hd hx I1 r q
theorem pe_make0 (M : Mk X.K C f) (F : FnOk X.prog X.w X.K X.mg X.base CX k f fd ps sp) (hr : Room (k + 1) X.A) (hg : Gl X x) (hm : X.mg x = some (.ref C)) (hb : Binds X.K fd ps ds) (hd : Vals dvs ds) (hx : Passes CX X E)
    (hdb : (x == ("__debug__" : Str)) = false := by decide) : PE X (.Call (.Name x p) [] [] pos) (tMake C sp dvs E tNil) := by
  intro pins s σ H Q I h
  refine wpAny_Call_Name_kw (ld_glob I hg hm ?_ hdb)
  exact PySem.W.callWith_K0 I.kIn M.kp (run_make (us := []) M F hr hb hd hx I .nil h)
end

/-! ### keywords -/
/-- the values of the keywords, from the left -/
def PK (X : Cx) (kws : List Keyword) (t : TA) : Prop :=
  ∀ (pos : Pos) (pins : List (Addr × Obj)) (s : Shared) (σ : St) (H : Hp) (Q : List V → Hp → Prop), Inv X pins σ H s → t σ H Q → wpAny (model X.prog X.w) X.A (evalAll ((backToKw pos (keywordEach kws X.env)).map (·.2))) (AP X pins σ Q) X.xe s
section
variable {X : Cx} {CX : CXT} {k : Nat} {f C : Addr} {fd : FuncData} {ps ks : List Str} {sp : Sp} {E : XK} {x m : Str} {p pos apos kpos : Pos} {e o : Expr} {es : List Expr} {kws : List Keyword} {te ta : TE} {t tk : TA} {nm : Option Str}
theorem pk_nil : PK X [] tNil := fun _ _ _ _ H Q I h => wpAny_evalAll_nil ⟨[], H, I, .nil, h⟩
theorem pk_cons (ha : PE X e te) (hr : PK X kws t) : PK X (⟨nm, e, kpos⟩ :: kws) (tCons te t) := by
  intro pos pins s σ H Q I h
  show wpAny _ _ (evalAll ((do let v ← eval e X.env; standAt pos; pure v) :: (backToKw pos (keywordEach kws X.env)).map (·.2))) _ _ s
  refine wpAny_evalAll_cons (wpAny_bind (thn (ha pins s σ H _ I h) fun u s1 ⟨x, H1, I1, r1, q1⟩ => wpAny_bind (wpAny_standAt (wpAny_pure ?_))))
  exact thn (hr pos pins s1 σ H1 _ I1 q1) fun us s2 ⟨xs, H2, I2, r2, q2⟩ => ⟨x :: xs, H2, I2, .cons r1 r2, q2⟩

/-- how a call with keywords binds: g puts the positional values us and the keywords' values ws (names ks) in the parameters' order, defaults among them -/
structure KBinds (K : PySem.W.Frag) (fd : FuncData) (ps ks : List Str) (g : List Value → List Value → List Value) (gV : List V → List V → List V) : Prop where
  to : ∀ (s : Shared) (us ws : List Value), K.In s.heap → (g us ws).length = ps.length → BindsTo s fd ⟨us, ks.zip ws⟩ (ps.zip (g us ws))
  rel : ∀ {vs : List V} {us : List Value} {zs : List V} {ws : List Value}, Vals vs us → Vals zs ws → Vals (gV vs zs) (g us ws)
def tCallK (sp : Sp) (gV : List V → List V → List V) (E : XK) (t tk : TA) : TE := fun σ H Q => t σ H fun vs H1 => tk σ H1 fun zs H2 => sp (gV vs zs) H2 Q E
variable {g : List Value → List Value → List Value} {gV : List V → List V → List V}
theorem run_fnk {pins : List (Addr × Obj)} {σ : St} {H : Hp} {s : Shared} {Q : VK} {us ws : List Value} {vs zs : List V} (F : FnOk X.prog X.w X.K X.mg X.base CX k f fd ps sp) (hr : Room k X.A) (hb : KBinds X.K fd ps ks g gV) (hx : Passes CX X E)
    (I : Inv X pins σ H s) (r : Vals vs us) (rz : Vals zs ws) (h : sp (gV vs zs) H Q E) : wpAny (model X.prog X.w) X.A (call (.ref f) us (ks.zip ws)) (EP X pins σ Q) X.xe s := by
  have r2 := hb.rel r rz
  have hl : (g us ws).length = ps.length := by rw [← r2.length]; exact F.len _ _ _ _ h
  refine wpAny_call (codeAny_mono (F.run X.A X.stack s H ⟨us, ks.zip ws⟩ (g us ws) (gV vs zs) Q E hr I.env0 (hb.to s us ws I.kIn hl) r2 h) fun r s' hq => ?_)
  cases r with
  | error e => exact hx pins σ H s e s' I hq
  | ok fl =>
    cases fl with
    | ret u => exact I.after hq
    | next => exact False.elim hq
    | brk => exact False.elim hq
    | cont => exact False.elim hq
/-- f(e, .., k = v, ..) -/
theorem pe_callK (F : FnOk X.prog X.w X.K X.mg X.base CX k f fd ps sp) (hr : Room k X.A) (hg : Gl X x) (hm : X.mg x = some (.ref f)) (hk : PySem.W.keepIn X.K (.ref f) = true) (hb : KBinds X.K fd ps ks g gV) (hx : Passes CX X E)
    (ha : PA X (e :: es) t) (hkw : PK X kws tk) (hall : (backToKw pos (keywordEach kws X.env)).all (·.1.isSome) = true := by rfl) (hks : (backToKw pos (keywordEach kws X.env)).filterMap (·.1) = ks := by rfl)
    (hdb : (x == ("__debug__" : Str)) = false := by decide) (he : starEach (e :: es) X.env = (false, eval e X.env) :: starEach es X.env := by rfl)
    (hpl : ((backTo pos (starEach (e :: es) X.env)).any (·.1) || (backToKw pos (keywordEach kws X.env)).any (·.1.isNone)) = false := by rfl) :
    PE X (.Call (.Name x p) (e :: es) kws pos) (tCallK sp gV E t tk) := by
  intro pins s σ H Q I h
  refine wpAny_Call_Name_kw (ld_glob I hg hm ?_ hdb)
  refine PySem.W.callWith_KW (h₀ := X.base) I.ok.mod.kin hk hall (thn (ha pos pins s σ H _ I h) fun us s1 ⟨vs, H1, I1, r, q⟩ => ?_) hpl he
  refine thn (hkw pos pins s1 σ H1 _ I1 q) fun ws s2 ⟨zs, H2, I2, rz, q2⟩ => ⟨I2.kIn, ?_⟩
  rw [hks]
  exact run_fnk F hr hb hx I2 r rz q2
end

/-! ### a def's body keeps its promise -/
/-- names: the parameters first -/
structure FnScope (N P : List Str) (sc : Scope) : Prop where
  kind : sc.kind = .function
  co : sc.isCoroutine = false
  gen : sc.isGenerator = false
  nd : N.Nodup
  pre : N.take P.length = P
  par : ∀ x ∈ P, sc.names.lookup x = some .local ∨ sc.names.lookup x = some .cell
  nofree : ∀ y ∈ sc.names, y.2 ≠ .free

theorem bindL_out {kindOf : Str → Option NameKind} {x : Str} : ∀ {binds : List (Str × Value)} {m : Str → Option Value}, (∀ v, (x, v) ∉ binds) → bindL kindOf binds m x = m x
  | [], _, _ => rfl
  | (n, v) :: r, m, h => by
    unfold bindL
    rw [bindL_out fun w hw => h w (List.mem_cons_of_mem _ hw)]
    split
    · have : x ≠ n := by rintro rfl; exact h v List.mem_cons_self
      simp [this]
    · rfl
theorem bindC_out {kindOf : Str → Option NameKind} {x : Str} : ∀ {binds : List (Str × Value)} {m : Str → Option Value}, (∀ v, (x, v) ∉ binds) → bindC kindOf binds m x = m x
  | [], _, _ => rfl
  | (n, v) :: r, m, h => by
    unfold bindC
    rw [bindC_out fun w hw => h w (List.mem_cons_of_mem _ hw)]
    split
    · rfl
    · have : x ≠ n := by rintro rfl; exact h v List.mem_cons_self
      simp [this]
theorem bindL_get {kindOf : Str → Option NameKind} {x : Str} {v : Value} : ∀ {P : List Str} {vs : List Value} {i : Nat} {m : Str → Option Value}, P.Nodup → P[i]? = some x → vs[i]? = some v → kindOf x = some .local →
    bindL kindOf (P.zip vs) m x = some v
  | [], _, _, _, _, h, _, _ => by simp at h
  | _ :: _, [], _, _, _, _, h, _ => by simp at h
  | p :: P, w :: vs, 0, m, nd, h1, h2, hk => by
    simp at h1 h2; subst h1; subst h2
    show bindL kindOf ((p, w) :: P.zip vs) m p = _
    unfold bindL
    rw [bindL_out fun v hv => (List.nodup_cons.mp nd).1 (List.of_mem_zip hv).1, if_pos hk]
    simp
  | p :: P, w :: vs, i + 1, m, nd, h1, h2, hk => by
    show bindL kindOf ((p, w) :: P.zip vs) m x = _
    unfold bindL
    exact bindL_get (i := i) (List.nodup_cons.mp nd).2 (by simpa using h1) (by simpa using h2) hk
theorem bindC_get {kindOf : Str → Option NameKind} {x : Str} {v : Value} : ∀ {P : List Str} {vs : List Value} {i : Nat} {m : Str → Option Value}, P.Nodup → P[i]? = some x → vs[i]? = some v → kindOf x ≠ some .local →
    bindC kindOf (P.zip vs) m x = some v
  | [], _, _, _, _, h, _, _ => by simp at h
  | _ :: _, [], _, _, _, _, h, _ => by simp at h
  | p :: P, w :: vs, 0, m, nd, h1, h2, hk => by
    simp at h1 h2; subst h1; subst h2
    show bindC kindOf ((p, w) :: P.zip vs) m p = _
    unfold bindC
    rw [bindC_out fun v hv => (List.nodup_cons.mp nd).1 (List.of_mem_zip hv).1, if_neg hk]
    simp
  | p :: P, w :: vs, i + 1, m, nd, h1, h2, hk => by
    show bindC kindOf ((p, w) :: P.zip vs) m x = _
    unfold bindC
    exact bindC_get (i := i) (List.nodup_cons.mp nd).2 (by simpa using h1) (by simpa using h2) hk

/-- the names' values at the entry -/
def start (N : List Str) (vs : List V) : St := vs.map some ++ List.replicate (N.length - vs.length) none

/-- the context of a def's body, at its entry; an exception leaves the frame, then lies as CX says -/
def cxOf (CX : CXT) (P : Program) (w : World) (K : PySem.W.Frag) (mg : Str → Option Value) (base : Heap) (N : List Str) (qual : Str) (scope : Scope) (f : Addr) (cd : Value) (A : Around) (outer : List Env) (s : Shared) (H : Hp) (E : XK) : Cx where
  prog := P
  w := w
  K := K
  mg := mg
  base := base
  A := A.deeper (envOfC qual scope s.heap.objs.size f cd)
  N := N
  s₀ := s
  H₀ := H
  env := envOfC qual scope s.heap.objs.size f cd
  outer := outer
  stack := envOfC qual scope s.heap.objs.size f cd :: outer
  ex := []
  calm := true
  fn := fun _ => true
  pn := []
  xe := fun e s' => wpAny (model P w) (A.deeper (envOfC qual scope s.heap.objs.size f cd)) (leaving (envOfC qual scope s.heap.objs.size f cd) e) (fun _ s'' => CX outer H s E e s'') (fun e' s'' => CX outer H s E e' s'') s'

theorem cell_has {sc : Scope} {n : Nat} {x : Str} (h : sc.names.lookup x = some .cell) : ∃ c, (cellsFrom n sc.names []).lookup x = some c := by
  have q := PySem.W.cellsFrom_some sc.names n [] (.inl h)
  exact Option.isSome_iff_exists.mp q

theorem inv_start {CX : CXT} {P : Program} {w : World} {K : PySem.W.Frag} {mg : Str → Option Value} {base : Heap} {N ps : List Str} {qual : Str} {scope : Scope} {f : Addr} {cd : Value} {A : Around} {outer : List Env} {s s1 : Shared} {H : Hp} {E : XK} {us : List Value} {vs : List V}
    (S : FnScope N ps scope) (hd : A.handled = none) (e0 : Env0 P w K mg base A outer s H) (hl : vs.length = ps.length) (r : Vals vs us)
    (x : InCallC s s.heap.objs.size (bindL (envOfC qual scope s.heap.objs.size f cd).kindOf (ps.zip us) fun _ => none) (cellsFrom (s.heap.objs.size + 1) scope.names []) (bindC (envOfC qual scope s.heap.objs.size f cd).kindOf (ps.zip us) fun _ => none) s1) :
    Inv (cxOf CX P w K mg base N qual scope f cd A outer s H E) [] (start N vs) H s1 := by
  have hpl : ps.length ≤ N.length := by have := congrArg List.length S.pre; rw [List.length_take] at this; omega
  obtain ⟨h1, tk, rfl, hk⟩ := x.done
  have noA : ∀ b : Addr, b ∉ (cxOf CX P w K mg base N qual scope f cd A outer s H E).ex := fun b z => absurd (show b ∈ ([] : List Addr) from z) (by simp)
  refine ⟨⟨e0.mod, S.kind, rfl, rfl, Nat.le_refl _, fun y z c h1 h2 => ?_, fun y hy => ?_, fun y c _ h => ?_, fun _ => hd, Around.frames_deeper e0.frames, .inr ⟨rfl, rfl⟩, fun b z => absurd z (noA b), e0.bs, e0.bsz, fun b _ _ => noA b, fun b z => absurd z (noA b), e0.funs, e0.frf⟩,
    rfl, e0.bare, Un.kept hk, ⟨_, x.toInCall.ns, fun i y v h1 h2 h3 => ?_⟩, fun y c h => ⟨_, x.cell y c h⟩, e0.hok.fresh (Nat.le_refl _), fun y c h => ?_, fun p hp => absurd (show p ∈ ([] : List (Addr × Obj)) from hp) (by simp), e0.hok.kept hk, ?_⟩
  · exact name_of_addr x.apart (PySem.mem_of_lookup h1) (PySem.mem_of_lookup h2)
  · have hy : scope.names.lookup y = some .cell ∨ scope.names.lookup y = some .free := hy
    rcases hy with hy | hy
    · exact cell_has hy
    · exact absurd rfl (S.nofree _ (PySem.mem_of_lookup hy))
  · exact Nat.le_of_lt (x.above y c (PySem.mem_of_lookup h))
  · have hi : i < vs.length := by
      unfold start at h2
      by_cases hi : i < vs.length
      · exact hi
      · rw [List.getElem?_append_right (by simpa using hi)] at h2
        rw [List.getElem?_replicate] at h2
        split at h2 <;> cases h2
    have ha : vs[i]? = some v := by
      unfold start at h2
      rw [List.getElem?_append_left (by simpa using hi), List.getElem?_map] at h2
      cases e : vs[i]? with
      | none => rw [e] at h2; cases h2
      | some a => rw [e] at h2; cases h2; rfl
    obtain ⟨u, hu, rv⟩ := r.get ha
    have hp : ps[i]? = some y := by
      rw [← S.pre, List.getElem?_take_of_lt (by omega)]; exact h1
    have ndP : ps.Nodup := by rw [← S.pre]; exact S.nd.sublist (List.take_sublist _ _)
    refine ⟨u, rv, ?_⟩
    rcases S.par y (List.mem_of_getElem? hp) with k | k
    · exact .inl ⟨k, bindL_get ndP hp hu k⟩
    · obtain ⟨c, e⟩ := cell_has (n := s.heap.objs.size + 1) k
      refine .inr ⟨.inl k, c, e, ?_⟩
      have q := x.cell y c e
      rw [bindC_get ndP hp hu (by show scope.names.lookup y ≠ _; rw [k]; decide)] at q
      exact q
  · exact e0.hok.fresh (Nat.le_of_lt (x.above y c (PySem.mem_of_lookup h)))
  · unfold start
    show _ = N.length
    rw [List.length_append, List.length_map, List.length_replicate]
    omega

/-- THE RULE: a def (or a method) of the text, by its body. The body's reading t is chosen for each entry; it is run at the parameters' values -/
theorem fn_of {CX : CXT} {P : Program} {w : World} {K : PySem.W.Frag} {mg : Str → Option Value} {base : Heap} {k : Nat} {f : Addr} {name qual : Str} {params : Arguments} {body : List Stmt} {scope : Scope} {dV kV doc pm cdv ct oc : Value} {an od : Option Addr}
    {osl : Array (Option Value)} {N ps : List Str} {sp : Sp} (lk : K.lookup f = some ⟨oc, od, .func (PySem.W.fnOf name qual params body scope dV kV doc pm an cdv ct), osl⟩) (hcd : PySem.W.codeIn K cdv qual = true) (S : FnScope N ps scope)
    (len : ∀ vs H Q E, sp vs H Q E → vs.length = ps.length)
    (hbody : ∀ (A : Around) (outer : List Env) (s : Shared) (H : Hp) (vs : List V) (Q : VK) (E : XK), Room k (A.deeper (envOfC qual scope s.heap.objs.size f cdv)) → sp vs H Q E →
      ∃ t, PSs (cxOf CX P w K mg base N qual scope f cdv A outer s H E) body t ∧ t { nx := fun _ H' => Q .non H', rt := Q } (start N vs) H) :
    FnOk P w K mg base CX (k + 1) f (PySem.W.fnOf name qual params body scope dV kV doc pm an cdv ct) ps sp := by
  refine ⟨len, fun A outer s H args us vs Q E hr e0 hb r hsp => ?_⟩
  have hl := len _ _ _ _ hsp
  have KX : K.In s.heap := e0.mod.kin.keeps fun b o e => (e0.bs b o e).1
  have lim : s.heap.NoLimit := e0.mod.nolimit.keeps fun b o e => (e0.bs b o e).1
  have hkind : ∀ y ∈ ps.zip us, scope.names.lookup y.1 = some .local ∨ (scope.names.lookup y.1 = some .cell ∧ ((cellsFrom (s.heap.objs.size + 1) scope.names []).lookup y.1).isSome = true) := fun ⟨n, v⟩ hy => by
    rcases S.par n (List.of_mem_zip hy).1 with q | q
    · exact .inl q
    · exact .inr ⟨q, PySem.W.cellsFrom_some _ _ _ (.inl q)⟩
  refine codeAny_call_function hr.depth (KX _ _ lk) rfl S.co S.gen rfl (PySem.W.codeRec_of KX hcd) (hb _ _ _ _ ?_)
  refine wpAny_newFunctionEnv_cells S.kind hkind fun env he s1 x => ?_
  subst he
  refine ⟨lim.keeps x.toInCall.keep, codeAny_func ?_⟩
  obtain ⟨t, ht, hq⟩ := hbody A outer s H vs Q E (hr.deeper _) hsp
  have I : Inv (cxOf CX P w K mg base N qual scope f cdv A outer s H E) [] (start N vs) H s1 := inv_start S hr.hd e0 hl r x
  refine wpAny_mono (ht [] s1 (start N vs) H _ I hq) (fun fl s' hs => ?_) fun e s' hs => hs
  have fin : ∀ {σ' : St} {H' : Hp} {v : V} {u : Value}, Inv (cxOf CX P w K mg base N qual scope f cdv A outer s H E) [] σ' H' s' → RelV v u → Q v H' → CE outer P w H s Q u s' :=
    fun {σ' H' v u} J rv q => ⟨v, H', J.os, J.bare, J.base, J.hok, rv, q⟩
  cases fl with
  | ret u =>
    obtain ⟨v, σ', H', J, rv, q⟩ := hs
    exact fin J rv q
  | next =>
    obtain ⟨σ', H', J, q⟩ := hs
    exact fin (v := V.non) (u := Value.none) J rfl q
  | brk =>
    obtain ⟨_, _, _, q⟩ := hs
    exact False.elim q
  | cont =>
    obtain ⟨_, _, _, q⟩ := hs
    exact False.elim q
end L2

namespace L2
open PySem PySem.Spec PyProof.Rows
section
variable {X : Cx} {x : Str} {p pos : Pos} {e : Expr} {es : List Expr} {t : TA} {id T : String} {r : List V → Hp → VK → Prop}

def tCB (r : List V → Hp → VK → Prop) (t : TA) : TE := fun σ H Q => t σ H fun vs H1 => r vs H1 Q
/-- f(e, ..), f a built-in function -/
theorem pe_callB (hc : CallR X (.builtin id) r) (hg : Gl X x) (hm : X.mg x = none) (hv : bootBuiltins x = some (.builtin id)) (ha : PA X (e :: es) t) (hn : x ≠ "__name__" := by decide) (hdb : (x == ("__debug__" : Str)) = false := by decide)
    (he : starEach (e :: es) X.env = (false, eval e X.env) :: starEach es X.env := by rfl) (hpl : (backTo pos (starEach es X.env)).any (·.1) = false := by rfl) : PE X (.Call (.Name x p) (e :: es) [] pos) (tCB r t) := by
  intro pins s σ H Q I h
  refine wpAny_Call_Name_kw (ld_blt I hg hm hv ?_ hn hdb)
  exact PyProof.Rows.callWith_builtin1 (thn (ha pos pins s σ H _ I h) fun us s1 ⟨vs, H1, I1, r1, q1⟩ => hc pins s1 σ H1 vs us Q I1 r1 q1) he hpl
/-- T(e, ..), T a built-in type -/
theorem pe_callTy (hc : CallR X (.type T) r) (hg : Gl X x) (hm : X.mg x = none) (hv : bootBuiltins x = some (.type T)) (ha : PA X (e :: es) t) (hn : x ≠ "__name__" := by decide) (hdb : (x == ("__debug__" : Str)) = false := by decide)
    (he : starEach (e :: es) X.env = (false, eval e X.env) :: starEach es X.env := by rfl) (hpl : (backTo pos (starEach es X.env)).any (·.1) = false := by rfl) : PE X (.Call (.Name x p) (e :: es) [] pos) (tCB r t) := by
  intro pins s σ H Q I h
  refine wpAny_Call_Name_kw (ld_blt I hg hm hv ?_ hn hdb)
  exact PyProof.Rows.callWith_type1 (thn (ha pos pins s σ H _ I h) fun us s1 ⟨vs, H1, I1, r1, q1⟩ => hc pins s1 σ H1 vs us Q I1 r1 q1) he hpl
/-- T() -/
theorem pe_callTy0 (hc : CallR X (.type T) r) (hg : Gl X x) (hm : X.mg x = none) (hv : bootBuiltins x = some (.type T)) (hn : x ≠ "__name__" := by decide) (hdb : (x == ("__debug__" : Str)) = false := by decide) :
    PE X (.Call (.Name x p) [] [] pos) (tCB r tNil) := by
  intro pins s σ H Q I h
  refine wpAny_Call_Name_kw (ld_blt I hg hm hv ?_ hn hdb)
  exact PyProof.Rows.callWith_type0 (hc pins s σ H [] [] Q I .nil h)
end
end L2

namespace HT
open PySem PyProof.Rows

/-- t < u of tuples of ints -/
def lexLt : List Int → List Int → Bool
  | [], [] => false
  | [], _ :: _ => true
  | _ :: _, [] => false
  | x :: xs, y :: ys => if x = y then lexLt xs ys else decide (x < y)
theorem lexLt_cons (x y : Int) (xs ys : List Int) : lexLt (x :: xs) (y :: ys) = if x = y then lexLt xs ys else decide (x < y) := rfl
theorem lexLt_nil_nil : lexLt [] [] = false := rfl
theorem lexLt_nil_cons (y : Int) (ys : List Int) : lexLt [] (y :: ys) = true := rfl
theorem lexLt_cons_nil (x : Int) (xs : List Int) : lexLt (x :: xs) [] = false := rfl

theorem eqAt_int (A : Around) (s : Shared) (a : Int) (t : Tok) (c : Int) (u : Tok) : ∃ e, SeqAt.EqAt A s (.int a t) (.int c u) e ∧ (e = true ↔ a = c) :=
  ⟨(a == c), SeqAt.EqAt.int_int a t c u, by simp⟩
theorem rcLt_int (A : Around) (s : Shared) (a : Int) (t : Tok) (c : Int) (u : Tok) (prog : Program) (w : World) (E : Value → Shared → Prop) (Q : Value → Shared → Prop) (h : Q (.bool (decide (a < c))) s) :
    wpAny (model prog w) A (richCompare .Lt (.int a t) (.int c u)) Q E s :=
  (PyProof.Rows.lt_int h : wpAny (model prog w) A (compareOp .Lt (.int a t) (.int c u)) Q E s)

section
open PySem.SeqAt
open PySem.AutoSeq1 (wpAny_loadPart')
open PySem.MeetsSeq PySem.MeetsSeq2 PySem.MeetsSeq3

theorem tuple_lt_ints (l b : Addr) (items items2 : Array Value) (n n2 : Nat) (dd dd2 : Option Addr) (sl sl2 : Array (Option Value)) (ns ms : List Int) (hi : IntsAre items.toList ns) (hj : IntsAre items2.toList ms) :
    Meets (Builtin.«tuple.__lt__» ⟨[.ref l, .ref b], []⟩)
      (fun _ R s => s.heap.get? l = some { cls := .type "tuple", dict := dd, data := .seq items n, slots := sl } ∧ s.heap.get? b = some { cls := .type "tuple", dict := dd2, data := .seq items2 n2, slots := sl2 } ∧
        R (.ok (.ret (.bool (lexLt ns ms)))) s) :=
  .of_wp fun prog w A R s h => by
    obtain ⟨hp, g, d, tk, os⟩ := s; obtain ⟨hl, hb, h⟩ := h
    have f2 := AutoSeq1.sub_tuple_tuple
    have z1 : items.size = ns.length := by rw [← hi.length]; simp
    have z2 : items2.size = ms.length := by rw [← hj.length]; simp
    wp_walk using wpAny_loadPart' hl, wpAny_loadPart' hb, wpAny_forIn_list _ (fun rest b s' => b.1 = none ∧ s' = ⟨hp, g, d, tk, os⟩ ∧ ∃ (vs ws : List Value) (ns' ms' : List Int), rest = vs.zip ws ∧
      IntsAre vs ns' ∧ IntsAre ws ms' ∧ ns'.length + items2.size = ms'.length + items.size ∧ R (.ok (.ret (.bool (lexLt ns' ms')))) ⟨hp, g, d, tk, os⟩) _
    case turn =>
      rintro ⟨y, x⟩ rest b s' ⟨hb', rfl, vs, ws, ns', ms', hz, hvi, hwi, hlen, hR⟩
      cases hvi with
      | nil => rw [List.zip_nil_left] at hz; cases hz
      | cons a t hvi' =>
        cases hwi with
        | nil => rw [List.zip_nil_right] at hz; cases hz
        | cons c u hwi' =>
          rw [List.zip_cons_cons] at hz
          injection hz with hyx hrest
          injection hyx with hy hx
          subst hy hx
          rw [lexLt_cons] at hR
          simp only [List.length_cons] at hlen
          obtain ⟨e, he, hiff⟩ := eqAt_int A.in1 ⟨hp, g, d, tk, os⟩ a t c u
          refine wpAny_bind (he prog w _ _ ?_)
          cases e with
          | true =>
            rw [if_pos (hiff.mp rfl)] at hR
            wp_walk
            exact ⟨rfl, rfl, _, _, _, _, hrest, hvi', hwi', by omega, hR⟩
          | false =>
            rw [if_neg (fun q => absurd (hiff.mpr q) Bool.false_ne_true)] at hR
            have hri := rcLt_int A.in1 ⟨hp, g, d, tk, os⟩ a t c u prog w
            wp_walk using hri
            exact ⟨_, rfl, by simpa using hR⟩
    case fin =>
      rintro ⟨b1, b2⟩ s' ⟨hb', rfl, vs, ws, ns', ms', hz, hvi, hwi, hlen, hR⟩
      simp only at hb'
      subst hb'
      have hv : lexLt ns' ms' = decide (items.size < items2.size) := by
        cases hvi with
        | nil =>
          cases hwi with
          | nil =>
            simp only [List.length_nil] at hlen
            rw [lexLt_nil_nil]
            exact (decide_eq_false (by omega)).symm
          | cons c u hw =>
            simp only [List.length_nil, List.length_cons] at hlen
            rw [lexLt_nil_cons]
            exact (decide_eq_true (by omega)).symm
        | cons a t hv =>
          cases hwi with
          | nil =>
            simp only [List.length_nil, List.length_cons] at hlen
            rw [lexLt_cons_nil]
            exact (decide_eq_false (by omega)).symm
          | cons c u hw =>
            rw [List.zip_cons_cons] at hz
            cases hz
      rw [hv] at hR
      wp_walk
      exact ⟨_, rfl, by simpa [Builtin.Tuple.tupleCompareSizes] using hR⟩
    case h =>
      exact ⟨rfl, rfl, items.toList, items2.toList, ns, ms, rfl, hi, hj, by omega, h⟩
end

section
variable {prog : Program} {w : World} {A : Around} {E : Value → Shared → Prop} {s : Shared}

theorem lt_tupInts {l b : Addr} {items items2 : Array Value} {ns ms : List Int} {Q : Value → Shared → Prop} (hl : IsTup s.heap l items) (hb : IsTup s.heap b items2) (hi : IntsAre items.toList ns) (hj : IntsAre items2.toList ms)
    (hu : A.units < cLine) (h : Q (.bool (lexLt ns ms)) s) : wpAny (model prog w) A (compareOp .Lt (.ref l) (.ref b)) Q E s := by
  obtain ⟨⟨cls, dd, data, sl⟩, ho, hc, n, hd⟩ := id hl
  obtain ⟨⟨cls2, dd2, data2, sl2⟩, ho2, hc2, n2, hd2⟩ := id hb
  simp only at hc hd hc2 hd2
  subst hc hd hc2 hd2
  exact richCompare_meets_room (op := .Lt) ⟨_, ho, rfl⟩ ⟨_, ho2, rfl⟩ PySem.F.slot_tuple_lt PySem.F.entry_tuple_lt (PySem.F.args_tuple_lt_2 _ _) (tuple_lt_ints l b items items2 n n2 dd dd2 sl sl2 ns ms hi hj)
    ⟨ho, ho2, show Value.bool (lexLt ns ms) ≠ Value.notImplemented ∧ Q (.bool (lexLt ns ms)) s from ⟨(fun x => nomatch x), h⟩⟩ hu

/-- t + u, t not empty -/
theorem cat_tup {t b : Addr} {vs ws : List Value} {Q : Value → Shared → Prop} (ht : IsTup s.heap t vs.toArray) (hb : IsTup s.heap b ws.toArray) (hv : vs ≠ [])
    (h1 : ws = [] → Q (.ref t) s) (h2 : ws ≠ [] → Q (.ref s.heap.objs.size) { s with heap := s.heap.push { cls := .type "tuple", data := .seq (vs ++ ws).toArray } })
    (hsz : vs.length + ws.length ≤ sizeLine) : wpAny (model prog w) A (binaryOp .Add (.ref t) (.ref b)) Q E s := by
  obtain ⟨⟨cls, dd, data, sl⟩, ho, hc, n, hd⟩ := id ht
  obtain ⟨⟨cls2, dd2, data2, sl2⟩, ho2, hc2, n2, hd2⟩ := id hb
  simp only at hc hd hc2 hd2
  subst hc hd hc2 hd2
  have e : vs.toArray ++ ws.toArray = (vs ++ ws).toArray := by simp
  by_cases hw : ws = []
  · exact concat_meets ⟨_, ho, rfl⟩ ⟨_, ho2, rfl⟩ noFill_tuple_add seq_tuple_add PySem.F.slot_tuple_add PySem.F.entry_tuple_add (PySem.F.args_tuple_add_2 _ _)
      (tuple_addW1 t b vs.toArray ws.toArray n n2 dd dd2 sl sl2 (by simpa using hv) (by simp [hw])) ⟨ho, ho2, h1 hw⟩
  · refine concat_meets ⟨_, ho, rfl⟩ ⟨_, ho2, rfl⟩ noFill_tuple_add seq_tuple_add PySem.F.slot_tuple_add PySem.F.entry_tuple_add (PySem.F.args_tuple_add_2 _ _)
      (tuple_addW2 t b vs.toArray ws.toArray n n2 dd dd2 sl sl2 (by simpa using hv) (by simpa using hw) (by rw [List.size_toArray, List.size_toArray]; exact hsz)) ⟨ho, ho2, ?_⟩
    rw [e]
    exact h2 hw

/-! ### t[a:b], not the whole -/
/-- a slice's bound as a place among n (d where it is left out) -/
def sIx (n d : Nat) : Option Int → Nat
  | none => d
  | some v => if v < 0 then (v + (n : Int)).toNat else min v.toNat n
theorem sIx_none (n d : Nat) : sIx n d none = d := rfl
theorem sIx_nat (n d k : Nat) : sIx n d (some (k : Int)) = min k n := by
  show (if (k : Int) < 0 then ((k : Int) + (n : Int)).toNat else min (k : Int).toNat n) = min k n
  rw [if_neg (by omega), Int.toNat_natCast]
theorem sIx_le (n d : Nat) (hd : d ≤ n) (o : Option Int) : sIx n d o ≤ n := by
  cases o with
  | none => exact hd
  | some v =>
    show (if v < 0 then (v + (n : Int)).toNat else min v.toNat n) ≤ n
    by_cases hv : v < 0
    · rw [if_pos hv]; omega
    · rw [if_neg hv]; exact Nat.min_le_right _ _
theorem clip_eq (v : Int) (n d : Nat) : (if v < 0 then max (v + (n : Int)) 0 else min v (n : Int)) = ((sIx n d (some v) : Nat) : Int) := by
  show (if v < 0 then max (v + (n : Int)) 0 else min v (n : Int)) = (((if v < 0 then (v + (n : Int)).toNat else min v.toNat n) : Nat) : Int)
  by_cases hv : v < 0
  · simp only [if_pos hv]; omega
  · simp only [if_neg hv]; omega
theorem adjust_gen (lo hi : Option Int) (n : Nat) : Builtin.Slice.sliceAdjust lo hi 1 (n : Int) = (((sIx n 0 lo : Nat) : Int), ((sIx n n hi : Nat) : Int)) := by
  have h1 : ¬ ((1 : Int) < 0) := by omega
  unfold Builtin.Slice.sliceAdjust
  simp only [h1, if_false]
  refine Prod.ext ?_ ?_
  · cases lo with
    | none => rfl
    | some v => exact clip_eq v n 0
  · cases hi with
    | none => rfl
    | some v => exact clip_eq v n n
theorem places_gen (i j : Nat) : Builtin.Slice.slicePlaces (i : Int) (j : Int) 1 = j - i := by
  unfold Builtin.Slice.slicePlaces
  have h1 : (1 : Int) > 0 := by omega
  simp only [h1, if_true, Int.ediv_one]
  split <;> omega
theorem slicePart_ {v : Value} {o : Option Int} {Q : Option Int → Shared → Prop} (p : IsPart v o) (h : Q o s) : wpAny (model prog w) A (Builtin.Slice.slicePartIndex v) Q E s := by
  cases p with
  | none => exact slicePart_none h
  | int i t => exact slicePart_int h
theorem sliceApplied_gen {sl : Addr} {vl vu : Value} {lo hi : Option Int} {n : Nat} {Q : Int × Int × Nat → Shared → Prop} (hs : s.heap.IsSliceOf sl vl vu .none) (pl : IsPart vl lo) (pu : IsPart vu hi)
    (h : Q (((sIx n 0 lo : Nat) : Int), 1, sIx n n hi - sIx n 0 lo) s) : wpAny (model prog w) A (Builtin.Slice.sliceApplied (.ref sl) (pure (n : Int))) Q E s := by
  obtain ⟨os, hos, hcs, hds⟩ := id hs
  unfold Builtin.Slice.sliceApplied Builtin.Slice.sliceFields
  refine wpAny_bind (wpAny_bind (wpAny_field hos hds (x := vl) rfl (wpAny_bind (wpAny_field hos hds (x := vu) rfl (wpAny_bind (wpAny_field hos hds (x := .none) rfl (wpAny_pure ?_)))))))
  refine wpAny_bind (slicePart_none ?_)
  show wpAny _ _ (if ((1 : Int) == 0) = true then _ else _) _ _ s
  rw [if_neg (by decide)]
  refine wpAny_bind (slicePart_ pl (wpAny_bind (slicePart_ pu (wpAny_bind (wpAny_pure ?_)))))
  show wpAny _ _ (match Builtin.Slice.sliceAdjust lo hi 1 (n : Int) with | (lo, hi) => pure (lo, (1 : Int), Builtin.Slice.slicePlaces lo hi 1)) _ _ s
  rw [adjust_gen lo hi n]
  show wpAny _ _ (pure (((sIx n 0 lo : Nat) : Int), (1 : Int), Builtin.Slice.slicePlaces ((sIx n 0 lo : Nat) : Int) ((sIx n n hi : Nat) : Int) 1)) _ _ s
  rw [places_gen]
  exact wpAny_pure h
theorem pick_gen (xs : Array Value) (i k : Nat) : ((List.range k).filterMap fun (m : Nat) => xs[((i : Int) + (m : Int) * 1).toNat]?).toArray = ((xs.toList.drop i).take k).toArray := by
  have e : (fun (m : Nat) => xs[((i : Int) + (m : Int) * 1).toNat]?) = fun m => xs[i + m]? := by
    funext m
    have : ((i : Int) + (m : Int) * 1).toNat = i + m := by omega
    rw [this]
  rw [e]
  have := pick_run xs i k
  rw [List.filterMap_map] at this
  have e2 : ((fun x => xs[x]?) ∘ fun x => i + x) = fun m => xs[i + m]? := rfl
  rw [e2] at this
  rw [this]

theorem getItem_tuple_cut {t sl : Addr} {items : Array Value} {vl vu : Value} {lo hi : Option Int} {Q : Value → Shared → Prop} (ht : IsTup s.heap t items) (hs : s.heap.IsSliceOf sl vl vu .none) (pl : IsPart vl lo) (pu : IsPart vu hi)
    (hw : ¬ (sIx items.size 0 lo = 0 ∧ sIx items.size items.size hi = items.size))
    (h : Q (.ref s.heap.objs.size) { s with heap := s.heap.push { cls := .type "tuple", data := .seq ((items.toList.drop (sIx items.size 0 lo)).take (sIx items.size items.size hi - sIx items.size 0 lo)).toArray } })
    (hsz : items.size ≤ sizeLine) : wpAny (model prog w) A (getItem (.ref t) (.ref sl)) Q E s := by
  have htake : sizeOk (.seq ((items.toList.drop (sIx items.size 0 lo)).take (sIx items.size items.size hi - sIx items.size 0 lo)).toArray) := by
    show ((items.toList.drop (sIx items.size 0 lo)).take (sIx items.size items.size hi - sIx items.size 0 lo)).toArray.size ≤ sizeLine
    rw [List.size_toArray, List.length_take, List.length_drop, Array.length_toList]
    omega
  have hj : sIx items.size items.size hi ≤ items.size := sIx_le _ _ (Nat.le_refl _) hi
  obtain ⟨os, hos, hcs, hds⟩ := id hs
  have hTs : s.TypeIs (.ref sl) "slice" := ⟨os, hos, hcs⟩
  unfold getItem
  try with_reducible refine wpAny_holding ?_
  first | refine wpAny_bind (wpAny_pure ?_) | skip
  refine wpAny_bind (wpAny_sequenceKey ht.typeIs (by decide) ?_)
  refine wpAny_bind (wpAny_callSpecial?_slot (name := Str.ofString "__getitem__") ht.typeIs PyProof.Rows.slot_tuple_getitem
    (wpAny_call_entry PyProof.Rows.slot_tuple_getitem ht.typeIs entry_tuple_getitem ?_ (args_tuple_getitem _ _)))
  show wpAny _ _ (Builtin.Tuple.tupleItemsOf (.ref t) >>= _) _ _ s
  refine wpAny_bind (tupleItemsOf_ ht ?_)
  refine wpAny_bind (wpAny_typeOf hTs ?_)
  rw [if_pos (by decide)]
  refine wpAny_bind (sliceApplied_gen hs pl pu ?_)
  have hno : ¬ ((((sIx items.size 0 lo : Nat) : Int) == 0 && (1 : Int) == 1 && (sIx items.size items.size hi - sIx items.size 0 lo) == items.size) = true) := by
    intro q
    rw [Bool.and_eq_true, Bool.and_eq_true] at q
    have q1 : ((sIx items.size 0 lo : Nat) : Int) = 0 := eq_of_beq q.1.1
    have q2 : sIx items.size items.size hi - sIx items.size 0 lo = items.size := eq_of_beq q.2
    exact hw ⟨by omega, by omega⟩
  show wpAny _ _ (if (((sIx items.size 0 lo : Nat) : Int) == 0 && (1 : Int) == 1 && (sIx items.size items.size hi - sIx items.size 0 lo) == items.size) = true then _ else _) _ _ s
  rw [if_neg hno, pick_gen]
  first
    | exact wpAny_bind (m := Builtin.Tuple.tupleExact _) (wpAny_newObj_type (wpAny_pure ⟨_, rfl, wpAny_pure h⟩) htake)
    | exact wpAny_bind (m := Builtin.Tuple.tupleExact _) (wpAny_newObj_type (wpAny_bind (wpAny_pure (wpAny_pure ⟨_, rfl, wpAny_pure h⟩))) htake)
    | exact wpAny_bind (wpAny_bind (m := Builtin.Tuple.tupleExact _) (wpAny_newObj_type (wpAny_pure (wpAny_pure ⟨_, rfl, wpAny_pure h⟩)) htake))
    | exact wpAny_bind (wpAny_bind (m := Builtin.Tuple.tupleExact _) (wpAny_newObj_type (wpAny_pure ⟨_, rfl, wpAny_pure h⟩) htake))
end
end HT

namespace L2
open PySem PySem.Spec PyProof.Rows

/-! ### the parts of a slice -/
abbrev TO := St → Hp → (Option Int → Hp → Prop) → Prop
/-- a slice's part (left out, or an int) -/
def PO (X : Cx) (e : Option Expr) (t : TO) : Prop :=
  ∀ (pins : List (Addr × Obj)) (s : Shared) (σ : St) (H : Hp) (Q : Option Int → Hp → Prop), Inv X pins σ H s → t σ H Q →
    wpAny (model X.prog X.w) X.A (evalPart e X.env) (fun u s' => ∃ o H', Inv X pins σ H' s' ∧ IsPart u o ∧ Q o H') X.xe s
def tNoPart : TO := fun _ H Q => Q none H
def tPart (t : TE) : TO := fun σ H Q => t σ H fun x H1 => ∃ i, x = .int i ∧ Q (some i) H1

theorem intsAre_of {ns : List Int} : ∀ {us : List Value}, Vals (ns.map V.int) us → IntsAre us ns := by
  induction ns with
  | nil => intro us r; rw [List.map_nil] at r; cases r; exact .nil
  | cons n ns ih =>
    intro us r
    rw [List.map_cons] at r
    cases r with
    | cons r1 r2 =>
      obtain ⟨t, e⟩ := r1
      subst e
      exact .cons n t (ih r2)

section
variable {X : Cx} {e : Expr} {te : TE} {lo hi : Option Expr} {tl th : TO} {pos p2 : Pos}

theorem po_none : PO X none tNoPart := by
  intro pins s σ H Q I h
  rw [evalPart_none]
  exact wpAny_pure ⟨none, H, I, .none, h⟩
theorem po_some (h : PE X e te) : PO X (some e) (tPart te) := by
  intro pins s σ H Q I hw
  rw [evalPart_some]
  refine thn (h pins s σ H _ I hw) fun u s1 ⟨x, H1, I1, r1, q1⟩ => ?_
  obtain ⟨i, rfl, q⟩ := q1
  obtain ⟨t, rfl⟩ := r1
  exact ⟨some i, H1, I1, .int i t, q⟩

/-- what a slice of a value is, by values: the slice object stands at sl -/
def SlR (X : Cx) (r : V → Option Int → Option Int → Hp → VK → Prop) : Prop :=
  ∀ (pins : List (Addr × Obj)) (s : Shared) (σ : St) (H : Hp) (x : V) (v vl vu : Value) (lo hi : Option Int) (sl : Addr) (Q : VK), Inv X pins σ H s → RelV x v → s.heap.IsSliceOf sl vl vu .none → IsPart vl lo → IsPart vu hi → r x lo hi H Q →
    ∃ T id, typeLookup (.type T) "__getitem__" = pure (some (.builtin id)) ∧ s.TypeIs v T ∧ wpAny (model X.prog X.w) X.A (getItem v (.ref sl)) (EP X pins σ Q) X.xe s
theorem SlR.or {r r' : V → Option Int → Option Int → Hp → VK → Prop} (h : SlR X r) (h' : SlR X r') : SlR X (fun x lo hi H Q => r x lo hi H Q ∨ r' x lo hi H Q) := by
  intro pins s σ H x v vl vu lo hi sl Q I rx hs pl pu q
  rcases q with q | q
  · exact h pins s σ H x v vl vu lo hi sl Q I rx hs pl pu q
  · exact h' pins s σ H x v vl vu lo hi sl Q I rx hs pl pu q
def tSl (r : V → Option Int → Option Int → Hp → VK → Prop) (te : TE) (tl th : TO) : TE := fun σ H Q => te σ H fun x H1 => tl σ H1 fun l H2 => th σ H2 fun u H3 => r x l u H3 Q
/-- a[lo:hi], any a -/
theorem pe_slice {r : V → Option Int → Option Int → Hp → VK → Prop} (hr : SlR X r) (he : PE X e te) (hl : PO X lo tl) (hu : PO X hi th) : PE X (.Subscript e (.Slice lo hi none p2) pos) (tSl r te tl th) := by
  intro pins s σ H Q I h
  refine Subscript_ (thn (he pins s σ H _ I h) fun v s1 ⟨x, H1, I1, r1, q1⟩ => ?_)
  refine wpAny_Slice (thn (hl pins s1 σ H1 _ I1 q1) fun vl s2 ⟨l, H2, I2, pl, q2⟩ => thn (hu pins s2 σ H2 _ I2 q2) fun vu s3 ⟨u, H3, I3, pu, q3⟩ => ?_)
  rw [evalPart_none]
  refine wpAny_pure ?_
  have I4 : Inv X pins σ H3 { s3 with heap := s3.heap.push { cls := .type "slice", data := .fields #[vl, vu, .none] } } := I3.kept (t' := s3.toks) fun b ob q => Heap.get?_push_of_some _ q
  obtain ⟨T, id, hT, ht, hg⟩ := hr pins { s3 with heap := s3.heap.push { cls := .type "slice", data := .fields #[vl, vu, .none] } } σ H3 x v vl vu l u s3.heap.objs.size Q I4 r1 (Heap.IsSliceOf.new ..) pl pu q3
  show wpAny (model X.prog X.w) X.A (subscriptTail e (.Slice lo hi none p2) v (.ref s3.heap.objs.size)) (EP X pins σ Q) X.xe { s3 with heap := s3.heap.push { cls := .type "slice", data := .fields #[vl, vu, .none] } }
  exact tail_any (ops := [.ref s3.heap.objs.size, v]) ht hT hg (by with_unfolding_all rfl)

/-- the items of xs[lo:hi] -/
def cutV (xs : List V) (lo hi : Option Int) : List V := (xs.drop (HT.sIx xs.length 0 lo)).take (HT.sIx xs.length xs.length hi - HT.sIx xs.length 0 lo)
theorem cutV_length (xs : List V) (lo hi : Option Int) : (cutV xs lo hi).length ≤ xs.length := by
  unfold cutV
  rw [List.length_take, List.length_drop]
  omega
/-- t[lo:hi], not the whole of it (the whole would be t itself) -/
def rSlT (K : PySem.W.Frag) : V → Option Int → Option Int → Hp → VK → Prop := fun x lo hi H Q => ∃ a xs, x = .ref a ∧ SqT K H a xs ∧
  ¬ (HT.sIx xs.length 0 lo = 0 ∧ HT.sIx xs.length xs.length hi = xs.length) ∧ ∀ p, H p = none → Q (.ref p) (upd H p (.tup (cutV xs lo hi)))
theorem sl_tup : SlR X (rSlT X.K) := by
  intro pins s σ H x v vl vu lo hi sl Q I rx hs pl pu h
  obtain ⟨a, xs, rfl, hx, hw, q⟩ := h
  cases rx
  obtain ⟨its, r, ht, hz⟩ := I.tuple hx
  have hlen : its.toArray.size = xs.length := by rw [List.size_toArray]; exact r.length.symm
  refine ⟨"tuple", _, PyProof.Rows.slot_tuple_getitem.lookup, ht.typeIs, ?_⟩
  refine HT.getItem_tuple_cut ht hs pl pu (by rw [hlen]; exact hw) ?_ (by rw [hlen]; exact hz)
  rw [hlen]
  refine ⟨.ref s.heap.objs.size, _, I.laid (t' := s.toks) (o := .tup (cutV xs lo hi)) (fun b ob q => Heap.get?_push_of_some _ q) (Nat.le_refl _) ?_, rfl, q _ (I.hok.fresh (Nat.le_refl _))⟩
  exact ⟨Nat.le_trans (cutV_length xs lo hi) hz, _, (r.drop (HT.sIx xs.length 0 lo)).take (HT.sIx xs.length xs.length hi - HT.sIx xs.length 0 lo), IsTup.new _ _⟩

/-! ### t < u, t + u -/
def rLtT (K : PySem.W.Frag) : R2 := fun x y H Q => ∃ a b ns ms, x = .ref a ∧ y = .ref b ∧ SqT K H a (ns.map V.int) ∧ SqT K H b (ms.map V.int) ∧ Q (.bl (HT.lexLt ns ms)) H
theorem op_ltT (hu : X.A.units < cLine) : OpR X (compareOp .Lt) (rLtT X.K) := by
  intro pins s σ H x y v u Q I rx ry h
  obtain ⟨a, b, ns, ms, rfl, rfl, ha, hb, q⟩ := h
  cases rx
  cases ry
  obtain ⟨its, r1, p1, _⟩ := I.tuple ha
  obtain ⟨its2, r2, p2, _⟩ := I.tuple hb
  have i1 : IntsAre its.toArray.toList ns := intsAre_of r1
  have i2 : IntsAre its2.toArray.toList ms := intsAre_of r2
  exact HT.lt_tupInts p1 p2 i1 i2 hu ⟨.bl (HT.lexLt ns ms), H, I, rfl, q⟩
/-- t + u, t not empty: u empty gives t itself -/
def rCatT (K : PySem.W.Frag) : R2 := fun x y H Q => ∃ a b xs ys, x = .ref a ∧ y = .ref b ∧ SqT K H a xs ∧ SqT K H b ys ∧ xs ≠ [] ∧ xs.length + ys.length ≤ sizeLine ∧
  (ys = [] → Q (.ref a) H) ∧ (ys ≠ [] → ∀ p, H p = none → Q (.ref p) (upd H p (.tup (xs ++ ys))))
theorem Vals.nil_iff {xs : List V} {us : List Value} (r : Vals xs us) : us = [] ↔ xs = [] := by
  cases r with
  | nil => simp
  | cons _ _ => simp
theorem op_catT : OpR X (binaryOp .Add) (rCatT X.K) := by
  intro pins s σ H x y v u Q I rx ry h
  obtain ⟨a, b, xs, ys, rfl, rfl, ha, hb, hx, hz, q1, q2⟩ := h
  cases rx
  cases ry
  obtain ⟨its, r1, p1, _⟩ := I.tuple ha
  obtain ⟨its2, r2, p2, _⟩ := I.tuple hb
  refine HT.cat_tup p1 p2 (fun z => hx (r1.nil_iff.mp z)) (fun z => ⟨.ref a, H, I, rfl, q1 (r2.nil_iff.mp z)⟩) (fun z => ?_) (by rw [← r1.length, ← r2.length]; exact hz)
  refine ⟨.ref s.heap.objs.size, _, I.laid (t' := s.toks) (o := .tup (xs ++ ys)) (fun b ob q => Heap.get?_push_of_some _ q) (Nat.le_refl _) ?_, rfl, q2 (fun w => z (r2.nil_iff.mpr w)) _ (I.hok.fresh (Nat.le_refl _))⟩
  exact ⟨by rw [List.length_append]; exact hz, _, r1.append r2, IsTup.new _ _⟩
/-- tuple(t) -/
theorem call_tupleT : CallR X (.type "tuple") (fun xs H Q => ∃ a ys, xs = [.ref a] ∧ SqT X.K H a ys ∧ Q (.ref a) H) := by
  intro pins s σ H xs us Q I r h
  obtain ⟨a, ys, rfl, ha, q⟩ := h
  obtain ⟨u, rfl, ru⟩ := vals1 r
  cases ru
  obtain ⟨its, _, p1, _⟩ := I.tuple ha
  exact call_tuple_same (items := its.toArray) p1 ⟨.ref a, H, I, rfl, q⟩
end
end L2

namespace L2
open PySem PySem.Spec PyProof.Rows

/-! ### places -/
/-- the place that an index of any sign means -/
def ixN (n : Nat) (i : Int) : Option Nat := if 0 ≤ i then (if i < n then some i.toNat else none) else if -(n : Int) ≤ i then some (i + n).toNat else none
def atI {α : Type} (xs : List α) (i : Int) : Option α := (ixN xs.length i).bind fun j => xs[j]?
theorem ixN_seq {n : Nat} {i : Int} {j : Nat} (h : ixN n i = some j) : seqIndex? i n = some j ∧ j < n ∧ -(n : Int) ≤ i ∧ i < n := by
  unfold ixN at h
  by_cases h0 : 0 ≤ i
  · rw [if_pos h0] at h
    by_cases h1 : i < n
    · rw [if_pos h1] at h
      have e : i.toNat = j := Option.some.inj h
      exact ⟨by rw [seqIndex_of h0 h1, e], by omega, by omega, h1⟩
    · rw [if_neg h1] at h; cases h
  · rw [if_neg h0] at h
    by_cases h1 : -(n : Int) ≤ i
    · rw [if_pos h1] at h
      have e : (i + n).toNat = j := Option.some.inj h
      exact ⟨by rw [seqIndex_neg (by omega) h1, e], by omega, h1, by omega⟩
    · rw [if_neg h1] at h; cases h
theorem atI_get {α : Type} {xs : List α} {i : Int} {v : α} (h : atI xs i = some v) : ∃ j, seqIndex? i xs.length = some j ∧ xs[j]? = some v ∧ j < xs.length ∧ -(xs.length : Int) ≤ i ∧ i < xs.length := by
  unfold atI at h
  cases e : ixN xs.length i with
  | none => rw [e] at h; cases h
  | some j =>
    rw [e] at h
    obtain ⟨h1, h2, h3, h4⟩ := ixN_seq e
    exact ⟨j, h1, h, h2, h3, h4⟩
theorem atI_nat {α : Type} {xs : List α} {j : Nat} {v : α} (h : xs[j]? = some v) : atI xs (j : Int) = some v := by
  have hj : j < xs.length := (List.getElem?_eq_some_iff.mp h).1
  have e : ixN xs.length (j : Int) = some j := by
    unfold ixN
    rw [if_pos (by omega), if_pos (by omega)]; simp
  unfold atI; rw [e]; exact h
theorem atI_last {α : Type} (xs : List α) (v : α) : atI (xs ++ [v]) (-1) = some v := by
  have hl : (xs ++ [v]).length = xs.length + 1 := by simp
  have e : ixN (xs ++ [v]).length (-1) = some xs.length := by
    unfold ixN
    rw [hl, if_neg (by decide), if_pos (by omega)]
    congr 1
    omega
  unfold atI
  rw [e]
  show (xs ++ [v])[xs.length]? = some v
  simp

/-! ### what may be subscripted -/
/-- what stands as an index of a plain subscript -/
def PlainIx (b : Expr) : Prop := ∀ o i, subscripted b false o i = operate [o, i] (getItem o i)
/-- a subscript by values -/
def IxR (X : Cx) (r : R2) : Prop :=
  ∀ (value slice : Expr) (pins : List (Addr × Obj)) (s : Shared) (σ : St) (H : Hp) (x y : V) (v u : Value) (Q : VK), Inv X pins σ H s → RelV x v → RelV y u → r x y H Q →
    subscripted slice false v u = operate [v, u] (getItem v u) → wpAny (model X.prog X.w) X.A (subscriptTail value slice v u) (EP X pins σ Q) X.xe s
/-- a call of a builtin's method by values: the receiver, the arguments -/
def MtR (X : Cx) (id : String) (r : V → List V → Hp → VK → Prop) : Prop :=
  ∀ (pins : List (Addr × Obj)) (s : Shared) (σ : St) (H : Hp) (x : V) (xs : List V) (v : Value) (us : List Value) (Q : VK), Inv X pins σ H s → RelV x v → Vals xs us → r x xs H Q →
    wpAny (model X.prog X.w) X.A (call (.builtin id) (v :: us)) (EP X pins σ Q) X.xe s
section
variable {X : Cx} {a b : Expr} {ta tb : TE} {pos : Pos}
theorem IxR.or {r r' : R2} (h : IxR X r) (h' : IxR X r') : IxR X (fun x y H Q => r x y H Q ∨ r' x y H Q) := by
  intro value slice pins s σ H x y v u Q I rx ry q hs
  rcases q with q | q
  · exact h value slice pins s σ H x y v u Q I rx ry q hs
  · exact h' value slice pins s σ H x y v u Q I rx ry q hs
theorem MtR.or {id : String} {r r' : V → List V → Hp → VK → Prop} (h : MtR X id r) (h' : MtR X id r') : MtR X id (fun x xs H Q => r x xs H Q ∨ r' x xs H Q) := by
  intro pins s σ H x xs v us Q I rx rs q
  rcases q with q | q
  · exact h pins s σ H x xs v us Q I rx rs q
  · exact h' pins s σ H x xs v us Q I rx rs q
/-- a[b] -/
theorem pe_ix {r : R2} (hr : IxR X r) (ha : PE X a ta) (hb : PE X b tb) (hs : PlainIx b) : PE X (.Subscript a b pos) (tOp r ta tb) := by
  intro pins s σ H Q I h
  exact Subscript_ (binT ha hb I h fun v u s2 x y H2 I2 rx ry q => hr a b pins s2 σ H2 x y v u Q I2 rx ry q (hs _ _))

def rIxL (K : PySem.W.Frag) : R2 := fun x y H Q => ∃ p xs i v, x = .ref p ∧ y = .int i ∧ SqL K H p xs ∧ atI xs i = some v ∧ Q v H
def rIxT (K : PySem.W.Frag) : R2 := fun x y H Q => ∃ p xs i v, x = .ref p ∧ y = .int i ∧ SqT K H p xs ∧ atI xs i = some v ∧ Q v H
def rIxS : R2 := fun x y H Q => ∃ z i c, x = .str z ∧ y = .int i ∧ z.length ≤ sizeLine ∧ atI z.cps.toList i = some c ∧ Q (.str ⟨#[c]⟩) H
theorem ix_list : IxR X (rIxL X.K) := by
  intro value slice pins s σ H x y v u Q I rx ry h hs
  obtain ⟨p, xs, i, z, rfl, rfl, hq, he, q⟩ := h
  cases rx
  obtain ⟨t, rfl⟩ := ry
  obtain ⟨its, r, pl, hz⟩ := I.list hq
  obtain ⟨j, h1, h2, h3, h4, h5⟩ := atI_get he
  obtain ⟨w, ew, rw'⟩ := r.get h2
  have hl := r.length
  have hn := line63
  have fin : EP X pins σ Q w s := ⟨z, H, I, rw', q⟩
  by_cases h0 : 0 ≤ i
  · have hj : i.toNat = j := by
      rw [seqIndex_of h0 h5] at h1
      exact Option.some.inj h1
    exact item_listR pl.isList h0 (by omega) (by rw [hj]; simpa using ew) fin hs
  · have hj : (i + (its.toArray.size : Int)).toNat = j := by
      rw [seqIndex_neg (by omega) h4] at h1
      rw [List.size_toArray, ← hl]
      exact Option.some.inj h1
    exact subscriptTail_builtinR (x := w) pl.isList.typeIs slot_list_getitem.lookup
      (wpAny_getItem_list_neg (Q := fun r s' => r = w ∧ EP X pins σ Q r s') pl.isList (by omega) (by rw [List.size_toArray] <;> omega) (by omega) (by rw [hj]; simpa using ew) ⟨rfl, fin⟩) hs
theorem ix_tup : IxR X (rIxT X.K) := by
  intro value slice pins s σ H x y v u Q I rx ry h hs
  obtain ⟨p, xs, i, z, rfl, rfl, hq, he, q⟩ := h
  cases rx
  obtain ⟨t, rfl⟩ := ry
  obtain ⟨its, r, pl, hz⟩ := I.tuple hq
  obtain ⟨j, h1, h2, h3, h4, h5⟩ := atI_get he
  obtain ⟨w, ew, rw'⟩ := r.get h2
  have hl := r.length
  have hn := line63
  have fin : EP X pins σ Q w s := ⟨z, H, I, rw', q⟩
  exact subscriptTail_builtinR (x := w) pl.typeIs slot_tuple_getitem.lookup
    (getItem_tuple (j := j) (Q := fun r s' => r = w ∧ EP X pins σ Q r s') pl (by omega) (by omega) (by rw [List.size_toArray, ← hl]; exact h1) (by simpa using ew) ⟨rfl, fin⟩) hs
theorem ix_str : IxR X rIxS := by
  intro value slice pins s σ H x y v u Q I rx ry h hs
  obtain ⟨z, i, c, rfl, rfl, hz, he, q⟩ := h
  obtain ⟨t, rfl⟩ := rx
  obtain ⟨t', rfl⟩ := ry
  obtain ⟨j, h1, h2, h3, h4, h5⟩ := atI_get he
  have hl : z.cps.toList.length = z.length := by simp [Str.length]
  rw [hl] at h1 h4 h5
  have hn := line63
  exact tail_any (typeIs_str s z t) slot_str_getitem.lookup (getItem_str (c := c) (by
    have e1 : decide (i < -(2 ^ 63 : Int)) = false := decide_eq_false (by omega)
    have e2 : decide (i ≥ 2 ^ 63) = false := decide_eq_false (by omega)
    rw [e1, e2, Bool.or_false]) (by rw [h1]; simpa using h2) ⟨.str ⟨#[c]⟩, H, I.tok _, ⟨_, rfl⟩, q⟩) hs
/-- list, tuple or str -/
def rIx (K : PySem.W.Frag) : R2 := fun x y H Q => rIxL K x y H Q ∨ rIxT K x y H Q ∨ rIxS x y H Q
theorem ix_seq : IxR X (rIx X.K) := ix_list.or (ix_tup.or ix_str)

/-! ### xs[i] = v, any sign -/
/-- the list's object behind a store -/
theorem mapSeq_set (its : List Value) (n j : Nat) (u : Value) : Obj.mapSeq (·.setIfInBounds j u) { cls := .type "list", data := .seq its.toArray n } = { cls := .type "list", data := .seq (its.set j u).toArray n } := by
  simp [Obj.mapSeq]
theorem Inv.lst {pins : List (Addr × Obj)} {σ : St} {H : Hp} {s : Shared} {p : Addr} {xs : List V} (I : Inv X pins σ H s) (h : H p = some (.lst xs)) :
    ∃ (its : List Value) (n : Nat), Vals xs its ∧ s.heap.get? p = some { cls := .type "list", data := .seq its.toArray n } ∧ xs.length ≤ sizeLine := by
  obtain ⟨z, its, n, r, e⟩ := I.hok p _ h
  exact ⟨its, n, r, e, z⟩
/-- the list at p is written by an update of its object -/
theorem Inv.lstUpd {pins : List (Addr × Obj)} {σ : St} {H : Hp} {s : Shared} {p : Addr} {xs ys : List V} {its its' : List Value} {n n' : Nat} {f : Obj → Obj} (I : Inv X pins σ H s) (h : H p = some (.lst xs))
    (ho : s.heap.get? p = some { cls := .type "list", data := .seq its.toArray n }) (hf : f { cls := .type "list", data := .seq its.toArray n } = { cls := .type "list", data := .seq its'.toArray n' }) (r : Vals ys its') (hz : ys.length ≤ sizeLine) (t : Nat) :
    Inv X pins σ (upd H p (.lst ys)) { s with heap := s.heap.update p f, toks := t } := by
  have e : (s.heap.update p f).get? p = some { cls := .type "list", data := .seq its'.toArray n' } := by
    rw [Heap.get?_update_self f ho (by rw [hf] <;> rfl), hf]
  refine I.write (x := p) (e := p) (by rw [h]; trivial) (.inl rfl) (fun b u hb q => (Heap.get?_update_other _ _ (Ne.symm hb)).trans q) ⟨_, e⟩ ?_
  exact ⟨hz, its', n', r, e⟩
def rSetL : V → V → V → Hp → (Hp → Prop) → Prop := fun o i v H Q => ∃ p xs k j, o = .ref p ∧ i = .int k ∧ H p = some (.lst xs) ∧ ixN xs.length k = some j ∧ Q (upd H p (.lst (xs.set j v)))
theorem set_list : PSet X rSetL := by
  intro pins s σ H o i v ov iv u Q I ro ri rv h
  obtain ⟨p, xs, k, j, rfl, rfl, hp, hj, q⟩ := h
  cases ro
  obtain ⟨t, rfl⟩ := ri
  obtain ⟨its, n, r, ho, hz⟩ := I.lst hp
  obtain ⟨h1, h2, h3, h4⟩ := ixN_seq hj
  have hl := r.length
  have hn := line63
  have I' : Inv X pins σ (upd H p (.lst (xs.set j v))) { s with heap := s.heap.update p (Obj.mapSeq (·.setIfInBounds j u)) } :=
    I.lstUpd hp ho (mapSeq_set its n j u) (r.set rv j) (by rw [List.length_set]; exact hz) s.toks
  by_cases h0 : 0 ≤ k
  · have hk : k.toNat = j := by
      rw [seqIndex_of h0 h4] at h1
      exact Option.some.inj h1
    exact PySem.W.ki_setAt ho h0 (by omega) (by rw [List.size_toArray, ← hl]; exact h4) (by rw [hk]; exact ⟨_, I', q⟩)
  · have hk : (k + (its.toArray.size : Int)).toNat = j := by
      rw [seqIndex_neg (by omega) h3] at h1
      rw [List.size_toArray, ← hl]
      exact Option.some.inj h1
    exact PySem.W.ki_setBack ho (by omega) (by rw [List.size_toArray, ← hl]; exact h3) (by omega) (by rw [hk]; exact ⟨_, I', q⟩)

/-! ### slices -/
theorem slice_bounds (lo hi : Option Int) (n : Nat) : (sliceBounds lo hi none n).1 = ((HT.sIx n 0 lo : Nat) : Int) ∧ (sliceBounds lo hi none n).2.1 = ((HT.sIx n n hi : Nat) : Int) ∧ (sliceBounds lo hi none n).2.2 = 1 := by
  refine ⟨?_, ?_, rfl⟩
  · cases lo with
    | none => simp [sliceBounds, HT.sIx]
    | some i =>
      simp only [sliceBounds, HT.sIx, Option.getD_none, show (1 : Int) > 0 by decide, if_true]
      by_cases h : i < 0
      · simp only [h, if_true] <;> omega
      · simp only [h, if_false] <;> omega
  · cases hi with
    | none => simp [sliceBounds, HT.sIx]
    | some i =>
      simp only [sliceBounds, HT.sIx, Option.getD_none, show (1 : Int) > 0 by decide, if_true]
      by_cases h : i < 0
      · simp only [h, if_true] <;> omega
      · simp only [h, if_false] <;> omega
theorem slicePick_cut (its : List Value) (lo hi : Option Int) : slicePick its.toArray lo hi none = ((its.drop (HT.sIx its.length 0 lo)).take (HT.sIx its.length its.length hi - HT.sIx its.length 0 lo)).toArray := by
  obtain ⟨h1, h2, h3⟩ := slice_bounds lo hi its.toArray.size
  unfold slicePick
  rw [h1, h2, h3]
  simp only [sliceRange_one, pick_run, List.size_toArray] <;> rfl
/-- xs[lo:hi] of a list: a new list -/
def rSlL (K : PySem.W.Frag) : V → Option Int → Option Int → Hp → VK → Prop := fun x lo hi H Q => ∃ a xs, x = .ref a ∧ SqL K H a xs ∧ ∀ p, H p = none → Q (.ref p) (upd H p (.lst (cutV xs lo hi)))
theorem sl_list : SlR X (rSlL X.K) := by
  intro pins s σ H x v vl vu lo hi sl Q I rx hs pl pu h
  obtain ⟨a, xs, rfl, hx, q⟩ := h
  cases rx
  obtain ⟨its, r, ht, hz⟩ := I.list hx
  have hlen := r.length
  refine ⟨"list", _, slot_list_getitem.lookup, ht.isList.typeIs, ?_⟩
  refine wpAny_getItem_list_slice ht.isList hs pl pu .none (by simp) ?_ (by rw [List.size_toArray] <;> omega)
  rw [slicePick_cut, ← hlen]
  refine ⟨.ref s.heap.objs.size, _, I.laid (t' := s.toks) (o := .lst (cutV xs lo hi)) (fun b ob q => Heap.get?_push_of_some _ q) (Nat.le_refl _) ?_, rfl, q _ (I.hok.fresh (Nat.le_refl _))⟩
  exact ⟨Nat.le_trans (cutV_length xs lo hi) hz, _, 0, (r.drop (HT.sIx xs.length 0 lo)).take (HT.sIx xs.length xs.length hi - HT.sIx xs.length 0 lo), Heap.get?_push_size _ rfl⟩

/-! ### in, not in: flat items -/
def flatV : V → Bool
  | .non => true
  | .bl _ => true
  | .int _ => true
  | .str _ => true
  | _ => false
/-- == of flat values -/
def eqV : V → V → Bool
  | .non, .non => true
  | .bl a, .bl b => a == b
  | .bl a, .int b => (if a then 1 else 0) == b
  | .int a, .bl b => a == (if b then 1 else 0)
  | .int a, .int b => a == b
  | .str a, .str b => a == b
  | _, _ => false
theorem eqAt_V {A : Around} {s : Shared} {y x : V} {u v : Value} (ry : RelV y u) (rx : RelV x v) (fy : flatV y = true) (fx : flatV x = true) : SeqAt.EqAt A s u v (eqV y x) := by
  cases y with
  | non =>
    cases ry
    cases x with
    | non => cases rx; exact SeqAt.EqAt.same _
    | bl b => cases rx; exact SeqAt.EqAt.none_bool b
    | int b => obtain ⟨t, rfl⟩ := rx; exact SeqAt.EqAt.none_int b t
    | str b => obtain ⟨t, rfl⟩ := rx; exact SeqAt.EqAt.none_str b t
    | _ => exact absurd (show false = true from fx) Bool.false_ne_true
  | bl a =>
    cases ry
    cases x with
    | non => cases rx; exact SeqAt.EqAt.bool_none a
    | bl b => cases rx; exact SeqAt.EqAt.bool_bool a b
    | int b => obtain ⟨t, rfl⟩ := rx; exact SeqAt.EqAt.bool_int a b t
    | str b => obtain ⟨t, rfl⟩ := rx; exact SeqAt.EqAt.bool_str a b t
    | _ => exact absurd (show false = true from fx) Bool.false_ne_true
  | int a =>
    obtain ⟨t', rfl⟩ := ry
    cases x with
    | non => cases rx; exact SeqAt.EqAt.int_none a t'
    | bl b => cases rx; exact SeqAt.EqAt.int_bool a t' b
    | int b => obtain ⟨t, rfl⟩ := rx; exact SeqAt.EqAt.int_int a t' b t
    | str b => obtain ⟨t, rfl⟩ := rx; exact SeqAt.EqAt.int_str a t' b t
    | _ => exact absurd (show false = true from fx) Bool.false_ne_true
  | str a =>
    obtain ⟨t', rfl⟩ := ry
    cases x with
    | non => cases rx; exact SeqAt.EqAt.str_none a t'
    | bl b => cases rx; exact SeqAt.EqAt.str_bool a t' b
    | int b => obtain ⟨t, rfl⟩ := rx; exact SeqAt.EqAt.str_int a t' b t
    | str b => obtain ⟨t, rfl⟩ := rx; exact SeqAt.EqAt.str_str a t' b t
    | _ => exact absurd (show false = true from fx) Bool.false_ne_true
  | _ => exact absurd (show false = true from fy) Bool.false_ne_true
/-- the items' answers, read off the values (a value's own answer does not lean on its token) -/
def eqU (x : V) (u : Value) : Bool := match u with
  | .none => eqV .non x
  | .bool b => eqV (.bl b) x
  | .int i _ => eqV (.int i) x
  | .str z _ => eqV (.str z) x
  | _ => false
theorem eqU_of {x y : V} {u : Value} (r : RelV y u) (f : flatV y = true) : eqU x u = eqV y x := by
  cases y with
  | non => cases r; rfl
  | bl b => cases r; rfl
  | int i => obtain ⟨t, rfl⟩ := r; rfl
  | str z => obtain ⟨t, rfl⟩ := r; rfl
  | _ => exact absurd (show false = true from f) Bool.false_ne_true
theorem any_eqU {x : V} : ∀ {xs : List V} {us : List Value}, Vals xs us → xs.all flatV = true → us.any (eqU x) = xs.any fun y => eqV y x
  | _, _, .nil, _ => rfl
  | y :: xs, u :: us, .cons r t, f => by
    rw [List.all_cons, Bool.and_eq_true] at f
    rw [List.any_cons, List.any_cons, eqU_of r f.1, any_eqU t f.2]
theorem mem_eqAt {A : Around} {s : Shared} {x : V} {v : Value} (rx : RelV x v) (fx : flatV x = true) : ∀ {xs : List V} {us : List Value}, Vals xs us → xs.all flatV = true → ∀ u ∈ us, SeqAt.EqAt A s u v (eqU x u)
  | _, _, .nil, _ => fun u hu => by cases hu
  | y :: xs, u :: us, .cons r t, f => fun u' hu => by
    rw [List.all_cons, Bool.and_eq_true] at f
    rcases List.mem_cons.mp hu with rfl | hu
    · rw [eqU_of r f.1]; exact eqAt_V r rx f.1 fx
    · exact mem_eqAt rx fx t f.2 u' hu
def inV (x : V) (xs : List V) : Bool := xs.any fun y => eqV y x
/-- x in a list or tuple of flat items -/
def rIn (K : PySem.W.Frag) (neg : Bool) : R2 := fun x y H Q => ∃ p xs, y = .ref p ∧ (SqL K H p xs ∨ SqT K H p xs) ∧ flatV x = true ∧ xs.all flatV = true ∧ Q (.bl (if neg then !inV x xs else inV x xs)) H
theorem op_in_seq : OpR X (compareOp .In) (rIn X.K false) := by
  intro pins s σ H x y v u Q I rx ry h
  obtain ⟨p, xs, rfl, hq, fx, fs, q⟩ := h
  cases ry
  rcases hq with hq | hq
  · obtain ⟨its, r, pl, hz⟩ := I.list hq
    refine SeqAt.in_listAt (eqU x) pl.isList (fun w hw => mem_eqAt rx fx r fs w (by simpa using hw)) ⟨.bl _, H, I, rfl, ?_⟩
    rw [show its.toArray.any (eqU x) = its.any (eqU x) by simp, any_eqU r fs]
    exact q
  · obtain ⟨its, r, pl, hz⟩ := I.tuple hq
    refine SeqAt.in_tupleAt (eqU x) pl (fun w hw => mem_eqAt rx fx r fs w (by simpa using hw)) ⟨.bl _, H, I, rfl, ?_⟩
    rw [show its.toArray.any (eqU x) = its.any (eqU x) by simp, any_eqU r fs]
    exact q
theorem op_notIn_seq : OpR X (compareOp .NotIn) (rIn X.K true) := by
  intro pins s σ H x y v u Q I rx ry h
  obtain ⟨p, xs, rfl, hq, fx, fs, q⟩ := h
  cases ry
  rcases hq with hq | hq
  · obtain ⟨its, r, pl, hz⟩ := I.list hq
    refine SeqAt.notIn_listAt (eqU x) pl.isList (fun w hw => mem_eqAt rx fx r fs w (by simpa using hw)) ⟨.bl _, H, I, rfl, ?_⟩
    rw [show its.toArray.any (eqU x) = its.any (eqU x) by simp, any_eqU r fs]
    exact q
  · obtain ⟨its, r, pl, hz⟩ := I.tuple hq
    refine SeqAt.notIn_tupleAt (eqU x) pl (fun w hw => mem_eqAt rx fx r fs w (by simpa using hw)) ⟨.bl _, H, I, rfl, ?_⟩
    rw [show its.toArray.any (eqU x) = its.any (eqU x) by simp, any_eqU r fs]
    exact q
theorem op_notIn_str : OpR X (compareOp .NotIn) (fun x y H Q => ∃ i j, x = .str i ∧ y = .str j ∧ Q (.bl (!(!(Builtin.Str.occurrences j i 0 j.length 1).isEmpty))) H) := by
  intro pins s σ H x y v u Q I rx ry h
  obtain ⟨i, j, rfl, rfl, q⟩ := h
  obtain ⟨t, rfl⟩ := rx
  obtain ⟨t', rfl⟩ := ry
  exact notIn_str ⟨.bl _, H, I, rfl, q⟩

/-! ### len, list(x), tuple(x) of any list or tuple that is read -/
theorem call_len_seq : CallR X (.builtin "len") (fun xs H Q => ∃ p ys, xs = [.ref p] ∧ (SqL X.K H p ys ∨ SqT X.K H p ys) ∧ Q (.int ys.length) H) := by
  intro pins s σ H xs us Q I r h
  obtain ⟨p, ys, rfl, hq, q⟩ := h
  obtain ⟨u, rfl, rx⟩ := vals1 r
  cases rx
  have hn := line63
  rcases hq with hq | hq
  · obtain ⟨its, r', pl, hz⟩ := I.list hq
    have hlen := r'.length
    exact Calls.call_len_list pl.isList (by simp only [List.size_toArray] <;> omega) ⟨.int ys.length, H, I.tok _, ⟨s.toks + 1, by rw [List.size_toArray, hlen]⟩, q⟩
  · obtain ⟨its, r', pl, hz⟩ := I.tuple hq
    have hlen := r'.length
    exact len_tuple pl (by simp only [List.size_toArray] <;> omega) ⟨.int ys.length, H, I.tok _, ⟨s.toks + 1, by rw [List.size_toArray, hlen]⟩, q⟩
theorem call_len_str : CallR X (.builtin "len") (fun xs H Q => ∃ z, xs = [.str z] ∧ z.length ≤ sizeLine ∧ Q (.int z.length) H) := by
  intro pins s σ H xs us Q I r h
  obtain ⟨z, rfl, hz, q⟩ := h
  obtain ⟨u, rfl, t, rfl⟩ := vals1 r
  have hn := line63
  exact len_str (by omega) ⟨.int z.length, H, I.tok _, ⟨_, rfl⟩, q⟩
theorem CallR.or {f : Value} {r r' : List V → Hp → VK → Prop} (h : CallR X f r) (h' : CallR X f r') : CallR X f (fun xs H Q => r xs H Q ∨ r' xs H Q) := by
  intro pins s σ H xs us Q I rs q
  rcases q with q | q
  · exact h pins s σ H xs us Q I rs q
  · exact h' pins s σ H xs us Q I rs q
theorem call_list_of : CallR X (.type "list") (fun xs H Q => ∃ p ys, xs = [.ref p] ∧ (SqL X.K H p ys ∨ SqT X.K H p ys) ∧ ∀ l, H l = none → Q (.ref l) (upd H l (.lst ys))) := by
  intro pins s σ H xs us Q I r h
  obtain ⟨p, ys, rfl, hq, q⟩ := h
  obtain ⟨u, rfl, rx⟩ := vals1 r
  cases rx
  have fin : ∀ (its : List Value), Vals ys its → ys.length ≤ sizeLine → ∀ (h' : Heap) (c' : Nat), (∀ b o', s.heap.get? b = some o' → h'.get? b = some o') →
      h'.get? s.heap.objs.size = some { cls := .type "list", dict := none, data := .seq its.toArray c', slots := #[] } → EP X pins σ Q (.ref s.heap.objs.size) { s with heap := h' } := fun its r' hz h' c' kp e =>
    ⟨.ref s.heap.objs.size, _, I.laid (t' := s.toks) kp (Nat.le_refl _) (show ObjOk X.prog X.w _ h' _ (.lst ys) from ⟨hz, its, c', r', e⟩), rfl, q _ (I.hok.fresh (Nat.le_refl _))⟩
  rcases hq with hq | hq
  · obtain ⟨its, r', pl, hz⟩ := I.list hq
    have hlen := r'.length
    obtain ⟨o, ho, hc, n, hd⟩ := pl.isList
    exact call_list_seq p (.inl rfl) ho hc hd (fun h' c' kp e => fin its r' hz h' c' kp e) (by simp only [List.size_toArray] <;> omega)
  · obtain ⟨its, r', pl, hz⟩ := I.tuple hq
    have hlen := r'.length
    obtain ⟨o, ho, hc, n, hd⟩ := pl
    exact call_list_seq p (.inr rfl) ho hc hd (fun h' c' kp e => fin its r' hz h' c' kp e) (by simp only [List.size_toArray] <;> omega)
theorem call_tuple_of : CallR X (.type "tuple") (fun xs H Q => ∃ p ys, xs = [.ref p] ∧ ((SqL X.K H p ys ∧ ∀ l, H l = none → Q (.ref l) (upd H l (.tup ys))) ∨ (SqT X.K H p ys ∧ Q (.ref p) H))) := by
  intro pins s σ H xs us Q I r h
  obtain ⟨p, ys, rfl, h⟩ := h
  obtain ⟨u, rfl, rx⟩ := vals1 r
  cases rx
  rcases h with ⟨hq, q⟩ | ⟨hq, q⟩
  · obtain ⟨its, r', pl, hz⟩ := I.list hq
    have hlen := r'.length
    refine call_tuple_list pl.isList (fun h' kp => ?_) (by simp only [List.size_toArray] <;> omega)
    have I1 : Inv X pins σ H { s with heap := h' } := I.kept (t' := s.toks) kp
    have I2 : Inv X pins σ (upd H h'.objs.size (.tup ys)) { s with heap := h'.push { cls := .type "tuple", data := .seq its.toArray } } :=
      I1.laid (t' := s.toks) (fun b o e => Heap.get?_push_of_some _ e) (Nat.le_refl _) (show ObjOk X.prog X.w _ _ _ (.tup ys) from ⟨hz, its, r', IsTup.new _ _⟩)
    exact ⟨.ref h'.objs.size, _, I2, rfl, q _ (I1.hok.fresh (Nat.le_refl _))⟩
  · obtain ⟨its, r', pl, hz⟩ := I.tuple hq
    exact call_tuple_same pl ⟨.ref p, H, I, rfl, q⟩

/-! ### the call of a builtin's method: o.m(..) -/
/-- the value is of that builtin type -/
def tyV (K : PySem.W.Frag) (T : String) (x : V) (H : Hp) : Prop := match x with
  | .str _ => T = "str"
  | .int _ => T = "int"
  | .ref p => (T = "list" ∧ ∃ xs, SqL K H p xs) ∨ (T = "tuple" ∧ ∃ o, K.lookup p = some o ∧ o.cls = .type "tuple" ∧ o.dict = none) ∨
      (T = "dict" ∧ ((∃ kvs, H p = some (.dK kvs)) ∨ ∃ kvs, H p = some (.dT kvs))) ∨ (T = "set" ∧ ∃ S n, H p = some (.set S n))
  | _ => False
theorem tyV_is {pins : List (Addr × Obj)} {σ : St} {H : Hp} {s : Shared} {T : String} {x : V} {v : Value} (I : Inv X pins σ H s) (r : RelV x v) (ty : tyV X.K T x H) :
    s.TypeIs v T ∧ ∀ a, v = .ref a → ∃ ob, s.heap.get? a = some ob ∧ ob.dict = none := by
  cases x with
  | str z =>
    obtain ⟨t, rfl⟩ := r
    cases (show T = "str" from ty)
    exact ⟨typeIs_str s z t, fun _ e => nomatch e⟩
  | int i =>
    obtain ⟨t, rfl⟩ := r
    cases (show T = "int" from ty)
    exact ⟨typeIs_int s i t, fun _ e => nomatch e⟩
  | ref p =>
    cases r
    rcases ty with ⟨rfl, xs, hq⟩ | ⟨rfl, o, hk, hc, hd⟩ | ⟨rfl, hk⟩ | ⟨rfl, S, n, hk⟩
    · obtain ⟨its, _, pl, _⟩ := I.list hq
      refine ⟨pl.isList.typeIs, fun a e => ?_⟩
      cases e
      obtain ⟨o, n, e, c, hd, _⟩ := pl
      exact ⟨o, e, hd⟩
    · refine ⟨⟨o, I.kIn p o hk, hc⟩, fun a e => ?_⟩
      cases e
      exact ⟨o, I.kIn _ o hk, hd⟩
    · have z : ∃ o, s.heap.get? p = some o ∧ o.ExactDict := by
        rcases hk with ⟨kvs, hk⟩ | ⟨kvs, hk⟩
        · obtain ⟨_, _, _, _, o, _, _, e, ex, _⟩ := I.hok p _ hk
          exact ⟨o, e, ex⟩
        · obtain ⟨_, _, _, _, o, _, _, e, ex, _⟩ := I.hok p _ hk
          exact ⟨o, e, ex⟩
      obtain ⟨o, e, ex⟩ := z
      refine ⟨⟨o, e, ex.1⟩, fun a e2 => ?_⟩
      cases e2
      exact ⟨o, e, ex.2.1⟩
    · obtain ⟨o, _, _, _, e, ex, _⟩ := I.hok p _ hk
      refine ⟨⟨o, e, ex.1⟩, fun a e2 => ?_⟩
      cases e2
      exact ⟨o, e, ex.2.1⟩
  | _ => exact False.elim ty
def tBM0 (K : PySem.W.Frag) (T : String) (r : V → List V → Hp → VK → Prop) (to : TE) : TE := fun σ H Q => to σ H fun x H1 => tyV K T x H1 ∧ r x [] H1 Q
def tBM (K : PySem.W.Frag) (T : String) (r : V → List V → Hp → VK → Prop) (to : TE) (t : TA) : TE := fun σ H Q => to σ H fun x H1 => tyV K T x H1 ∧ t σ H1 fun xs H2 => r x xs H2 Q
variable {o e : Expr} {es : List Expr} {to : TE} {t : TA} {name : Str} {apos cpos : Pos} {T id : String} {r : V → List V → Hp → VK → Prop}
theorem pe_bm0 (pa : PlainAttrs T) (slot : Slot T name id) (hty : typeOf (.builtin id) = pure (.type "method_descriptor")) (hm : MtR X id r) (ho : PE X o to)
    (hbase : attributeBase o name X.env (eval o X.env) = eval o X.env := by rfl) (hline : (apos.endLine == cpos.line) = true := by rfl) : PE X (.Call (.Attribute o name apos) [] [] cpos) (tBM0 X.K T r to) := by
  intro pins s σ H Q I h
  refine wpAny_Call_method0_late hbase hline (thn (ho pins s σ H _ I h) fun v s1 ⟨x, H1, I1, r1, ty, q1⟩ => ?_)
  obtain ⟨h1, h2⟩ := tyV_is I1 r1 ty
  exact ⟨T, id, pa, slot, hty, h1, h2, Calls.callWith_builtin rfl (PySem.evalArgs_none (hm pins s1 σ H1 x [] v [] Q I1 r1 .nil q1))⟩
theorem pe_bm (pa : PlainAttrs T) (slot : Slot T name id) (hty : typeOf (.builtin id) = pure (.type "method_descriptor")) (hm : MtR X id r) (ho : PE X o to) (ha : PA X (e :: es) t)
    (hbase : attributeBase o name X.env (eval o X.env) = eval o X.env := by rfl)
    (hfew : ((backTo cpos (starEach (e :: es) X.env)).all (fun x => !x.1) && (backToKw cpos (keywordEach [] X.env)).all (fun x => x.1.isSome)
      && decide ((e :: es).length + ([] : List Keyword).length + (if ([] : List Keyword).isEmpty then 0 else 1) < 30)) = true := by rfl)
    (hline : (apos.endLine == cpos.line) = true := by rfl) (hs : starEach (e :: es) X.env = (false, eval e X.env) :: starEach es X.env := by rfl) (hplain : (backTo cpos (starEach es X.env)).any (·.1) = false := by rfl) :
    PE X (.Call (.Attribute o name apos) (e :: es) [] cpos) (tBM X.K T r to t) := by
  intro pins s σ H Q I h
  refine wpAny_Call_method_late hbase hfew hline rfl (thn (ho pins s σ H _ I h) fun v s1 ⟨x, H1, I1, r1, ty, q1⟩ => ?_)
  obtain ⟨h1, h2⟩ := tyV_is I1 r1 ty
  refine ⟨T, id, pa, slot, hty, h1, h2, ?_⟩
  have hA := ha cpos pins s1 σ H1 _ I1 q1
  rw [hs] at hA ⊢
  refine Calls.callWith_builtin (by show (false || (backTo cpos (starEach es X.env)).any (·.1)) = false; rw [hplain] <;> rfl) (Calls.evalArgs_plain ?_)
  exact thn hA fun us s2 ⟨vs, H2, I2, r2, q2⟩ => hm pins s2 σ H2 x vs v us Q I2 r1 r2 q2
/- xs.append(e), list.index on a module's tuple .. are MtR facts of 06m -/
end
end L2

namespace L2
open PySem PySem.Spec PyProof.Rows

def MtM (X : Cx) (id : String) (r : V → List V → Hp → VK → Prop) : Prop :=
  ∀ (pins : List (Addr × Obj)) (s : Shared) (σ : St) (H : Hp) (x : V) (xs : List V) (v : Value) (us : List Value) (Q : VK), Inv X pins σ H s → RelV x v → Vals xs us → r x xs H Q →
    wpAny (model X.prog X.w) X.A (call (.builtin id) (v :: us)) (EP X pins σ Q) X.xe s

/-! ### lists of values -/
theorem Vals.one : ∀ {x : V} {us : List Value}, Vals [x] us → ∃ u, us = [u] ∧ RelV x u
  | _, _, .cons r .nil => ⟨_, rfl, r⟩
theorem Vals.two : ∀ {x y : V} {us : List Value}, Vals [x, y] us → ∃ u v, us = [u, v] ∧ RelV x u ∧ RelV y v
  | _, _, _, .cons r (.cons q .nil) => ⟨_, _, rfl, r, q⟩
theorem Vals.zero : ∀ {us : List Value}, Vals [] us → us = []
  | _, .nil => rfl
theorem Vals.dropLast {xs : List V} {us : List Value} (h : Vals xs us) : Vals xs.dropLast us.dropLast := by
  induction h with
  | nil => exact .nil
  | cons r t ih =>
    cases t with
    | nil => exact .nil
    | cons q t' => exact .cons r ih
theorem Vals.eraseIdx : ∀ {xs : List V} {us : List Value} (i : Nat), Vals xs us → Vals (xs.eraseIdx i) (us.eraseIdx i)
  | _, _, _, .nil => .nil
  | _, _, 0, .cons _ t => t
  | _, _, i + 1, .cons r t => .cons r (Vals.eraseIdx i t)
theorem Vals.reverse {xs : List V} {us : List Value} (h : Vals xs us) : Vals xs.reverse us.reverse := by
  induction h with
  | nil => exact .nil
  | cons r t ih => rw [List.reverse_cons, List.reverse_cons]; exact Vals.append ih (.cons r .nil)
theorem Vals.rep {xs : List V} {us : List Value} (h : Vals xs us) : ∀ k : Nat, Vals (List.replicate k xs).flatten (List.replicate k us).flatten
  | 0 => .nil
  | k + 1 => by
    rw [List.replicate_succ, List.replicate_succ, List.flatten_cons, List.flatten_cons]
    exact Vals.append h (Vals.rep h k)
theorem erase_last {α : Type} (l : List α) : l.eraseIdx (l.length - 1) = l.dropLast := by
  induction l with
  | nil => rfl
  | cons a r ih =>
    cases r with
    | nil => rfl
    | cons b r =>
      have e : (a :: b :: r).length - 1 = ((b :: r).length - 1) + 1 := by
        have h1 : (a :: b :: r).length = r.length + 2 := rfl
        have h2 : (b :: r).length = r.length + 1 := rfl
        omega
      rw [e, List.eraseIdx_cons_succ, ih]
      all_goals rfl
theorem len_erase {α : Type} : ∀ (l : List α) (i : Nat), (l.eraseIdx i).length ≤ l.length
  | [], _ => Nat.le_refl _
  | _ :: _, 0 => Nat.le_succ _
  | _ :: r, i + 1 => Nat.succ_le_succ (len_erase r i)
theorem foldl_rep (its : List Value) : ∀ (k : Nat) (acc : List Value),
    List.foldl (fun x1 x2 => x1 ++ x2) acc.toArray (List.replicate k its.toArray) = (acc ++ (List.replicate k its).flatten).toArray
  | 0, acc => by simp
  | k + 1, acc => by
    have e : acc.toArray ++ its.toArray = (acc ++ its).toArray := by simp
    have e2 : (acc ++ its) ++ (List.replicate k its).flatten = acc ++ (List.replicate (k + 1) its).flatten := by
      rw [List.replicate_succ, List.flatten_cons, List.append_assoc]
    rw [← e2, ← foldl_rep its k (acc ++ its), ← e, List.replicate_succ, List.foldl_cons]

section
variable {X : Cx} {pins : List (Addr × Obj)} {σ : St} {H : Hp} {s : Shared} {l b : Addr} {xs ys zs : List V}

/-! ### the two steps: a tracked list is rewritten, a new list is laid -/
theorem Inv.lset {its its' : List Value} {n : Nat} {f : Array Value → Array Value} {t' : Nat} (I : Inv X pins σ H s) (hH : H l = some (.lst xs))
    (e : s.heap.get? l = some { cls := .type "list", data := .seq its.toArray n }) (hf : f its.toArray = its'.toArray) (hv : Vals ys its') (hz : ys.length ≤ sizeLine) :
    Inv X pins σ (upd H l (.lst ys)) { s with heap := s.heap.update l (Obj.mapSeq f), toks := t' } := by
  have q := PySem.IsL.update e f
  rw [hf] at q
  refine I.write (x := l) (e := l) (by rw [hH]; exact trivial) (.inl rfl) (fun b' u hb hu => (Heap.get?_update_other s.heap (Obj.mapSeq f) (Ne.symm hb)).trans hu) ⟨_, q⟩ ?_
  exact ⟨hz, its', _, hv, q⟩
theorem Inv.lnew {its : List Value} {t' : Nat} (I : Inv X pins σ H s) (hv : Vals ys its) (hz : ys.length ≤ sizeLine) :
    Inv X pins σ (upd H s.heap.objs.size (.lst ys)) { s with heap := s.heap.push { cls := .type "list", data := .seq its.toArray }, toks := t' } :=
  I.laid (fun _ _ q => Heap.get?_push_of_some _ q) (Nat.le_refl _) ⟨hz, its, 0, hv, Heap.get?_push_size _ rfl⟩
theorem Inv.fresh (I : Inv X pins σ H s) : H s.heap.objs.size = none := I.hok.fresh (Nat.le_refl _)
theorem Inv.lstM (I : Inv X pins σ H s) (hH : H l = some (.lst xs)) : xs.length ≤ sizeLine ∧ ∃ (its : List Value) (n : Nat), Vals xs its ∧ xs.length = its.length ∧ s.heap.get? l = some { cls := .type "list", data := .seq its.toArray n } := by
  obtain ⟨z, its, n, r, e⟩ := I.hok l _ hH
  exact ⟨z, its, n, r, r.length, e⟩

theorem notLongL {n : Nat} (h : n ≤ sizeLine) : Builtin.List.listTooLong n = false := by
  unfold Builtin.List.listTooLong
  exact decide_eq_false (by omega)
end

section
variable {X : Cx}

/-! ### methods -/
def rAppend : V → List V → Hp → VK → Prop := fun x vs H Q => ∃ l xs y, x = .ref l ∧ vs = [y] ∧ H l = some (.lst xs) ∧ xs.length < sizeLine ∧ Q .non (upd H l (.lst (xs ++ [y])))
theorem mt_append : MtM X "list.append" rAppend := by
  intro pins s σ H x vs v us Q I rx rv h
  obtain ⟨l, xs, y, rfl, rfl, hH, hz, q⟩ := h
  cases rx
  obtain ⟨u, rfl, ru⟩ := rv.one
  obtain ⟨z, its, n, r, hl, e⟩ := I.lstM hH
  refine call_meets F.slot_list_append ⟨_, e, rfl⟩ F.entry_list_append (F.args_list_append_2 _ _) (PySem.list_append l its.toArray n u (by rw [List.size_toArray]; omega)) ⟨e, ?_⟩
  refine ⟨.non, _, I.lset (its' := its ++ [u]) hH e (by simp) (r.append (.cons ru .nil)) ?_, rfl, q⟩
  rw [List.length_append, List.length_singleton]
  omega

def rExtend : V → List V → Hp → VK → Prop := fun x vs H Q => ∃ l b xs zs, x = .ref l ∧ vs = [.ref b] ∧ H l = some (.lst xs) ∧ H b = some (.lst zs) ∧ xs.length + zs.length ≤ sizeLine ∧ Q .non (upd H l (.lst (xs ++ zs)))
theorem mt_extend : MtM X "list.extend" rExtend := by
  intro pins s σ H x vs v us Q I rx rv h
  obtain ⟨l, b, xs, zs, rfl, rfl, hH, hB, hz, q⟩ := h
  cases rx
  obtain ⟨u, rfl, ru⟩ := rv.one
  cases ru
  obtain ⟨z, its, n, r, hl, e⟩ := I.lstM hH
  obtain ⟨z2, its2, n2, r2, hl2, e2⟩ := I.lstM hB
  have hsz : its.toArray.size + its2.toArray.size ≤ sizeLine := by rw [List.size_toArray, List.size_toArray]; omega
  have hlong : ¬ (!its.toArray.isEmpty && Builtin.List.listTooLong (its.toArray.size + its2.toArray.size)) = true := by
    rw [notLongL hsz, Bool.and_false]
    exact Bool.false_ne_true
  refine call_meets F.slot_list_extend ⟨_, e, rfl⟩ F.entry_list_extend (F.args_list_extend_2 _ _)
    (AutoSeq1.list_extend_list_list_0 l its.toArray n b its2.toArray n2 hlong (by rw [List.size_toArray]; omega) (by omega)) ⟨e, e2, ?_⟩
  refine ⟨.non, _, I.lset (its' := its ++ its2) hH e (by simp) (r.append r2) ?_, rfl, q⟩
  rw [List.length_append]
  omega

def rPop : V → List V → Hp → VK → Prop := fun x vs H Q => ∃ l xs y, x = .ref l ∧ vs = [] ∧ H l = some (.lst xs) ∧ xs[xs.length - 1]? = some y ∧ Q y (upd H l (.lst xs.dropLast))
theorem mt_pop : MtM X "list.pop" rPop := by
  intro pins s σ H x vs v us Q I rx rv h
  obtain ⟨l, xs, y, rfl, rfl, hH, hy, q⟩ := h
  cases rx
  have hus := rv.zero
  subst hus
  obtain ⟨z, its, n, r, hl, e⟩ := I.lstM hH
  obtain ⟨u, hu, ru⟩ := r.get hy
  have hy' : its.toArray[its.toArray.size - 1]? = some u := by
    show its.toArray[its.length - 1]? = some u
    rw [← Array.getElem?_toList, ← hl]
    exact hu
  refine call_meets F.slot_list_pop ⟨_, e, rfl⟩ F.entry_list_pop (F.args_list_pop_1 _) (MeetsSeq.list_pop_last l its.toArray n u hy' (by rw [List.size_toArray]; omega)) ⟨e, ?_⟩
  refine ⟨y, _, I.lset (its' := its.dropLast) hH e ?_ r.dropLast ?_, ru, q⟩
  · show its.toArray.eraseIdxIfInBounds (its.toArray.size - 1) = its.dropLast.toArray
    rw [List.size_toArray, List.eraseIdxIfInBounds_toArray, erase_last]
  · rw [List.length_dropLast]
    omega

def rPopAt : V → List V → Hp → VK → Prop := fun x vs H Q => ∃ l xs i k y, x = .ref l ∧ vs = [.int i] ∧ H l = some (.lst xs) ∧ -(2 ^ 63) ≤ i ∧ i < 2 ^ 63 ∧ seqIndex? i xs.length = some k ∧ xs[k]? = some y ∧ Q y (upd H l (.lst (xs.eraseIdx k)))
theorem mt_popAt : MtM X "list.pop" rPopAt := by
  intro pins s σ H x vs v us Q I rx rv h
  obtain ⟨l, xs, i, k, y, rfl, rfl, hH, h1, h2, hk, hy, q⟩ := h
  cases rx
  obtain ⟨u, rfl, ru⟩ := rv.one
  obtain ⟨t, rfl⟩ := ru
  obtain ⟨z, its, n, r, hl, e⟩ := I.lstM hH
  obtain ⟨w, hw, rw'⟩ := r.get hy
  refine call_meets F.slot_list_pop ⟨_, e, rfl⟩ F.entry_list_pop (F.args_list_pop_2 _ _)
    (MeetsSeq.list_pop_at l its.toArray n i t k w (fitsIndex_both h1 h2) (by rw [List.size_toArray, ← hl]; exact hk) (by rw [← Array.getElem?_toList]; exact hw) (by rw [List.size_toArray]; omega)) ⟨e, ?_⟩
  refine ⟨y, _, I.lset (its' := its.eraseIdx k) hH e ?_ (r.eraseIdx k) ?_, rw', q⟩
  · show its.toArray.eraseIdxIfInBounds k = (its.eraseIdx k).toArray
    rw [List.eraseIdxIfInBounds_toArray]
  · have := len_erase xs k
    omega

def rReverse : V → List V → Hp → VK → Prop := fun x vs H Q => ∃ l xs, x = .ref l ∧ vs = [] ∧ H l = some (.lst xs) ∧ Q .non (upd H l (.lst xs.reverse))
theorem mt_reverse : MtM X "list.reverse" rReverse := by
  intro pins s σ H x vs v us Q I rx rv h
  obtain ⟨l, xs, rfl, rfl, hH, q⟩ := h
  cases rx
  have hus := rv.zero
  subst hus
  obtain ⟨z, its, n, r, hl, e⟩ := I.lstM hH
  refine call_meets F.slot_list_reverse ⟨_, e, rfl⟩ F.entry_list_reverse (F.args_list_reverse_1 _) (AutoSeq1.list_reverse_list_0 l its.toArray n (by rw [List.size_toArray]; omega)) ⟨e, ?_⟩
  refine ⟨.non, _, I.lset (its' := its.reverse) hH e (by simp) r.reverse ?_, rfl, q⟩
  rw [List.length_reverse]
  omega

def rClear : V → List V → Hp → VK → Prop := fun x vs H Q => ∃ l xs, x = .ref l ∧ vs = [] ∧ H l = some (.lst xs) ∧ Q .non (upd H l (.lst []))
theorem mt_clear : MtM X "list.clear" rClear := by
  intro pins s σ H x vs v us Q I rx rv h
  obtain ⟨l, xs, rfl, rfl, hH, q⟩ := h
  cases rx
  have hus := rv.zero
  subst hus
  obtain ⟨z, its, n, r, hl, e⟩ := I.lstM hH
  refine call_meets F.slot_list_clear ⟨_, e, rfl⟩ F.entry_list_clear (F.args_list_clear_1 _) (AutoSeq1.list_clear_list_0 l its.toArray n (by rw [List.size_toArray]; omega)) ⟨e, ?_⟩
  exact ⟨.non, _, I.lset (its' := []) (ys := []) hH e rfl .nil (Nat.zero_le _), rfl, q⟩

/-! ### list + list, list += list, list * int -/
def rCat : R2 := fun x y H Q => ∃ l b xs zs, x = .ref l ∧ y = .ref b ∧ H l = some (.lst xs) ∧ H b = some (.lst zs) ∧ xs.length + zs.length ≤ sizeLine ∧ ∀ p, H p = none → Q (.ref p) (upd H p (.lst (xs ++ zs)))
theorem op_cat : OpR X (binaryOp .Add) rCat := by
  intro pins s σ H x y v u Q I rx ry h
  obtain ⟨l, b, xs, zs, rfl, rfl, hH, hB, hz, q⟩ := h
  cases rx
  cases ry
  obtain ⟨z, its, n, r, hl, e⟩ := I.lstM hH
  obtain ⟨z2, its2, n2, r2, hl2, e2⟩ := I.lstM hB
  refine PySem.P.add_list e e2 ?_ (by rw [List.size_toArray, List.size_toArray]; omega)
  have ea : its.toArray ++ its2.toArray = (its ++ its2).toArray := by simp
  rw [ea]
  exact ⟨.ref _, _, I.lnew (t' := s.toks) (r.append r2) (by rw [List.length_append]; omega), rfl, q _ I.fresh⟩
/-- a list times an int (a negative one is nothing) -/
def rRep : R2 := fun x y H Q => ∃ l k xs, x = .ref l ∧ y = .int k ∧ H l = some (.lst xs) ∧ -(2 ^ 63) ≤ k ∧ k < 2 ^ 63 ∧ xs.length * k.toNat ≤ sizeLine ∧
  ∀ p, H p = none → Q (.ref p) (upd H p (.lst (List.replicate k.toNat xs).flatten))
theorem len_rep {α : Type} (xs : List α) (k : Nat) : (List.replicate k xs).flatten.length = k * xs.length := by
  induction k with
  | zero => simp
  | succ k ih => rw [List.replicate_succ, List.flatten_cons, List.length_append, ih, Nat.succ_mul, Nat.add_comm]
theorem op_rep : OpR X (binaryOp .Mult) rRep := by
  intro pins s σ H x y v u Q I rx ry h
  obtain ⟨l, k, xs, rfl, rfl, hH, h1, h2, hz, q⟩ := h
  cases rx
  obtain ⟨t, rfl⟩ := ry
  obtain ⟨z, its, n, r, hl, e⟩ := I.lstM hH
  have hlen : its.toArray.size * k.toNat ≤ sizeLine := by rw [List.size_toArray, ← hl]; exact hz
  have hcap : ¬ its.toArray.size * k.toNat > (2 ^ 63 - 1) / 8 := by
    have : (sizeLine : Nat) ≤ (2 ^ 63 - 1) / 8 := by decide
    omega
  have hfit : ¬ (!Builtin.List.listFitsIndex k) = true := by
    rw [fitsIndex_both h1 h2]
    exact Bool.false_ne_true
  have hlong : ¬ Builtin.List.listTooLong (its.toArray.size * k.toNat) = true := by
    rw [notLongL hlen]
    exact Bool.false_ne_true
  have hnew : List.foldl (fun x1 x2 => x1 ++ x2) #[] (List.replicate (if its.toArray.isEmpty = true then 0 else k.toNat) its.toArray) = (List.replicate k.toNat its).flatten.toArray := by
    have f0 : ∀ m : Nat, List.foldl (fun x1 x2 => x1 ++ x2) #[] (List.replicate m its.toArray) = (List.replicate m its).flatten.toArray := fun m => by
      have := foldl_rep its m []
      rw [List.nil_append] at this
      exact this
    rw [f0]
    cases its with
    | nil => simp
    | cons a r' => rw [if_neg (by simp)]
  refine wpAny_binaryOp_repeat_ref (T := "list") (U := "int") (by decide) ⟨_, e, rfl⟩ (fun s' => typeIs_int s' k t) noFill_list_mul F.fills_int_mul F.slot_int_rmul repeat_list F.slot_int_index.lookup
    (call_meets F.slot_int_rmul (typeIs_int s k t) F.entry_int_rmul (F.args_int_rmul_2 _ _) (int___rmul___int_list k t l its.toArray n)
      ⟨e, rfl, ⟨_, e, rfl⟩, call_meets F.slot_list_mul ⟨_, e, rfl⟩ F.entry_list_mul (F.args_list_mul_2 _ _) (AutoListH.list___mul___list_int_3 l its.toArray n k t hfit hcap hlong) ⟨e, ?_⟩⟩)
  rw [hnew]
  exact ⟨.ref _, _, I.lnew (t' := s.toks) (r.rep k.toNat) (by rw [len_rep, Nat.mul_comm]; exact hz), rfl, q _ I.fresh⟩

/-! ### del xs[i] -/
theorem del_list {pins : List (Addr × Obj)} {s : Shared} {σ : St} {H : Hp} {l : Addr} {xs : List V} {i : Int} {t : Tok} {k : Nat} {Q : Unit → Shared → Prop} (I : Inv X pins σ H s) (hH : H l = some (.lst xs))
    (h1 : -(2 ^ 63) ≤ i) (h2 : i < 2 ^ 63) (hk : seqIndex? i xs.length = some k) (h : ∀ s', Inv X pins σ (upd H l (.lst (xs.eraseIdx k))) s' → Q () s') :
    wpAny (model X.prog X.w) X.A (delItem (.ref l) (.int i t)) Q X.xe s := by
  obtain ⟨z, its, n, r, hl, e⟩ := I.lstM hH
  refine PySem.P.delItem_list (k := k) e (fitsIndex_both h1 h2) (by rw [List.size_toArray, ← hl]; exact hk) (h _ ?_) (by rw [List.size_toArray]; omega)
  refine I.lset (its' := its.eraseIdx k) (t' := s.toks) hH e ?_ (r.eraseIdx k) ?_
  · show its.toArray.eraseIdxIfInBounds k = (its.eraseIdx k).toArray
    rw [List.eraseIdxIfInBounds_toArray]
  · have := len_erase xs k
    omega
end

/-! ### xs[a:b] = ys -/
section
variable {prog : Program} {w : World} {A : Around} {E : Value → Shared → Prop} {s : Shared}
theorem splice_eq (its its2 : List Value) (a c : Nat) : its.toArray.extract 0 a ++ its2.toArray ++ its.toArray.extract c its.toArray.size = (its.take a ++ its2 ++ its.drop c).toArray := by
  apply Array.toList_inj.mp
  first
    | (simp
       exact List.take_of_length_le (by simp))
    | simp [List.take_of_length_le]
    | simp
theorem bounds_run {a c n : Nat} (hac : a ≤ c) (hc : c ≤ n) : sliceBounds (some (a : Int)) (some (c : Int)) none n = ((a : Int), (c : Int), 1) := by
  simp only [sliceBounds, Option.getD_none]
  have h1 : ¬ ((a : Int) < 0) := by omega
  have h2 : ¬ ((c : Int) < 0) := by omega
  simp only [h1, h2, if_false, show (1 : Int) > 0 by decide, if_true]
  congr 1
  · omega
  · congr 1; omega
set_option maxRecDepth 100000 in
/-- list.__setitem__ with a slice of step one and another list -/
theorem setItem_slice {l b sl : Addr} {items new : Array Value} {n n2 : Nat} {vl vu : Value} {a c : Nat} {Q : Unit → Shared → Prop}
    (e : s.heap.get? l = some { cls := .type "list", data := .seq items n }) (e2 : s.heap.get? b = some { cls := .type "list", data := .seq new n2 }) (hne : l ≠ b)
    (hs : s.heap.IsSliceOf sl vl vu .none) (pl : IsPart vl (some (a : Int))) (pu : IsPart vu (some (c : Int))) (hac : a ≤ c) (hc : c ≤ items.size)
    (hsz : items.size + new.size ≤ sizeLine) (h : Q () { s with heap := s.heap.update l (Obj.mapSeq fun xs => xs.extract 0 a ++ new ++ xs.extract c xs.size) }) :
    wpAny (model prog w) A (setItem (.ref l) (.ref sl) (.ref b)) Q E s := by
  have hl : s.heap.IsList l items := PySem.IsL.isList e
  have hb : s.heap.IsList b new := PySem.IsL.isList e2
  obtain ⟨os, hos, hcs, hds⟩ := id hs
  have hTs : s.TypeIs (.ref sl) "slice" := ⟨os, hos, hcs⟩
  have hstep : ¬ ((rawPart none == rawInt 0) = true) := Bool.false_ne_true
  have hsame : Builtin.List.listSameRef (.ref l) (.ref b) = false := by
    unfold Builtin.List.listSameRef
    exact beq_eq_false_iff_ne.mpr hne
  have hmax : (max (a : Int) (c : Int)).toNat = c := by omega
  have hz' : ((fun xs : Array Value => xs.extract 0 a ++ new ++ xs.extract c xs.size) items).size ≤ sizeLine + 1 := by
    simp only [Array.size_append, Array.size_extract]
    omega
  unfold setItem
  try with_reducible refine wpAny_holding ?_
  first | refine wpAny_bind (wpAny_pure ?_) | skip
  refine wpAny_bind (wpAny_sequenceKey hl.typeIs (by decide) ?_)
  refine wpAny_bind (wpAny_callSpecial?_slot (name := Str.ofString "__setitem__") hl.typeIs slot_list_setitem
    (wpAny_call_entry slot_list_setitem hl.typeIs entry_list_setitem ?_ (args_list_setitem _ _ _)))
  show wpAny _ _ (Builtin.List.listSubscript? (.ref sl) >>= _) _ _ s
  refine wpAny_bind ?_
  unfold Builtin.List.listSubscript?
  refine wpAny_bind (wpAny_specialOf hTs slice_no_index ?_)
  simp only [Option.isNone_none, if_true]
  refine wpAny_pure ?_
  show wpAny _ _ (typeOf (.ref sl) >>= _) _ _ s
  refine wpAny_bind (wpAny_typeOf hTs ?_)
  first
    | rw [if_neg (by decide)]
    | refine PySem.W.KFB.if_not (by decide) ?_
  rw [listSliceParts_eq]
  refine wpAny_bind (wpAny_bind (wpAny_field hos hds (x := .none) rfl (wpAny_bind (wpAny_listPart .none ?_))))
  rw [if_neg hstep]
  refine wpAny_bind (wpAny_field hos hds (x := vl) rfl (wpAny_bind (wpAny_listPart pl ?_)))
  refine wpAny_bind (wpAny_field hos hds (x := vu) rfl (wpAny_bind (wpAny_listPart pu (wpAny_pure ?_))))
  first
    | simp only [hsame, Bool.false_eq_true, if_false]
    | refine PySem.W.KFB.if_not hsame ?_
    | (dsimp only
       rw [if_neg (by rw [hsame]; exact Bool.false_ne_true)])
  refine wpAny_bind (m := Builtin.List.listAllItems (.ref b) "must assign iterable to extended slice") ?_
  unfold Builtin.List.listAllItems
  refine wpAny_bind (wpAny_typeOf hb.typeIs ?_)
  first
    | refine PySem.W.KFB.if_so (by decide) ?_
    | rw [if_pos (by decide)]
    | simp only [beq_self_eq_true, Bool.true_or, if_true]
  unfold Builtin.List.listItems
  refine wpAny_bind (wpAny_seqItems e2 rfl (wpAny_pure ?_))
  refine wpAny_bind (wpAny_bind (wpAny_seqItems e rfl (wpAny_pure ?_)))
  refine wpAny_bind (wpAny_of_eq ((sliceIndices_raw (some (a : Int)) (some (c : Int)) none items.size (by simp)).trans (congrArg (pure : Int × Int × Int → Sem (Int × Int × Int)) (bounds_run hac hc))) ?_)
  show wpAny _ _ (if ((1 : Int) == 1) = true then _ else _) _ _ s
  rw [if_pos (by decide)]
  refine wpAny_bind (wpAny_rule ?_)
  first
    | simp only [notLongL hsz, Bool.false_eq_true, if_false]
    | refine PySem.W.KFB.if_not (notLongL hsz) ?_
  first | refine wpAny_bind (wpAny_pure ?_) | skip
  show wpAny _ _ (updateSeq l (fun xs => xs.extract 0 ((a : Int)).toNat ++ new ++ xs.extract (max (a : Int) (c : Int)).toNat xs.size) >>= _) _ _ s
  rw [hmax, Int.toNat_natCast]
  refine wpAny_bind (wpAny_updateSeq (hz := Nat.le_trans (Nat.le_add_right _ _) hsz) (_hz' := hz') e rfl ?_)
  refine wpAny_bind (wpAny_letGo ?_)
  first
    | exact wpAny_bind (wpAny_pure (wpAny_pure ⟨.none, rfl, wpAny_pure h⟩))
    | exact wpAny_pure ⟨.none, rfl, wpAny_pure h⟩
end

section
variable {X : Cx}
/-- xs[a:c] = ys of another list, at the value level: sl is the slice object that was just made -/
theorem set_slice {pins : List (Addr × Obj)} {s : Shared} {σ : St} {H : Hp} {l b sl : Addr} {xs ys : List V} {a c : Int} {vl vu : Value} {Q : Unit → Shared → Prop} (I : Inv X pins σ H s)
    (hH : H l = some (.lst xs)) (hB : H b = some (.lst ys)) (hne : l ≠ b) (hs : s.heap.IsSliceOf sl vl vu .none) (ra : RelV (.int a) vl) (rc : RelV (.int c) vu) (h0 : 0 ≤ a) (hac : a ≤ c) (hc : c ≤ xs.length)
    (hz : xs.length + ys.length ≤ sizeLine) (h : ∀ s', Inv X pins σ (upd H l (.lst (xs.take a.toNat ++ ys ++ xs.drop c.toNat))) s' → Q () s') :
    wpAny (model X.prog X.w) X.A (setItem (.ref l) (.ref sl) (.ref b)) Q X.xe s := by
  obtain ⟨ta, rfl⟩ := ra
  obtain ⟨tc, rfl⟩ := rc
  obtain ⟨z, its, n, r, hl, e⟩ := I.lstM hH
  obtain ⟨z2, its2, n2, r2, hl2, e2⟩ := I.lstM hB
  obtain ⟨a', rfl⟩ := Int.eq_ofNat_of_zero_le h0
  obtain ⟨c', rfl⟩ := Int.eq_ofNat_of_zero_le (Int.le_trans h0 hac)
  simp only [Int.toNat_natCast] at h
  refine setItem_slice (a := a') (c := c') e e2 hne hs (.int _ _) (.int _ _) (by omega) (by rw [List.size_toArray]; omega) (by rw [List.size_toArray, List.size_toArray]; omega) (h _ ?_)
  refine I.lset (its' := its.take a' ++ its2 ++ its.drop c') (t' := s.toks) hH e ?_ (Vals.append (Vals.append (r.take _) r2) (r.drop _)) ?_
  · exact splice_eq its its2 a' c'
  · rw [List.length_append, List.length_append, List.length_take, List.length_drop]
    omega
end
end L2

namespace Att
open PySem PySem.W PySem.Calls PyProof.Rows

/-! ### the script -/
theorem ints_of_wellAll {P : Params} {h : Heap} : ∀ (ns : List Int) (vs : List Value), WellAll P h vs (ns.map WData.int) → IntsAre vs ns := by
  intro ns
  induction ns with
  | nil =>
    intro vs w
    rw [List.map_nil] at w
    cases w
    exact .nil
  | cons n ns ih =>
    intro vs w
    rw [List.map_cons] at w
    cases w with
    | cons a b =>
      cases a
      exact .cons _ _ (ih _ b)

theorem script_of {l : OpenLaw} {n : Nat} (hn : l.most = some n) {P : Params} {h : Heap} {args : List WData} {vals : List Value}
    (hpre : l.row.toRowW.claim.pre args = true) (hwl : WellAll P h vals args) :
    ∃ a vs ns, vals = [Value.ref a] ∧ args = [WData.list (ns.map WData.int)] ∧ h.get? a = some { cls := .type "list", data := .seq vs.toArray } ∧ IntsAre vs ns ∧ ns.length ≤ n := by
  have hsh : WShape.hasAll [] args [.list .int] = true := (pre_splitW hpre).1
  have hc : l.pre.holds [] { args := args } = true := (pre_splitW hpre).2
  obtain ⟨d, r, rfl, h1, h2⟩ := hasAllW_cons hsh
  obtain rfl := hasAllW_nil h2
  obtain ⟨xs, rfl, h3⟩ := hasW_list h1
  obtain ⟨ns, rfl⟩ := items_int h3
  have hlen : ns.length ≤ n := by
    unfold OpenLaw.pre at hc
    have h4 : (WTm.not (.lt (.lit (.int (n : Int))) (.len (.arg 0)))).holds [] { args := [.list (ns.map .int)] } = true := by
      have h4 := (holds_andW hc).1
      rw [hn] at h4
      exact h4
    have h5 := condW_of h4 (w_not (w_lt w_lit (w_len_list (w_arg rfl))))
    rw [List.length_map] at h5
    refine Nat.le_of_not_lt fun q => ?_
    have q' : (n : Int) < ((ns.length : Nat) : Int) := by omega
    first
      | (rw [decide_eq_true q'] at h5; exact absurd h5 (by decide))
      | (simp at h5; omega)
  cases hwl with
  | cons w1 w2 =>
    cases w2
    cases w1 with
    | list ho hall => exact ⟨_, _, ns, rfl, rfl, ho, ints_of_wellAll ns _ hall, hlen⟩

theorem post_true (l : OpenLaw) (args : List WData) : l.row.toRowW.claim.post args (.bool true) args = true :=
  postW_of (r := l.row.toRowW) (X := (true == true))
    (show WShape.has [] (.bool true) .bool = true by first | rfl | decide | simp [WShape.has, WShape.arms, WShape.armsAll])
    (show (WTm.eq .res (.lit (.bool true))).value [] { args := args, res := some (.bool true), after := args } = some (.bool (true == true)) from w_eq_bool (w_res rfl) w_lit) rfl

/-! ### the attachment: holds_open's last premise (the goal 'hc' behind k_head) from a wpAny of the law's body -/
theorem attach {l : OpenLaw} {n : Nat} {q : Program} {loose : List Str} {XP : (Str → Option Value) → Heap → Prop} {YP : World → Heap → Prop} {d : DefRec} {x : Str}
    (hn : l.most = some n) (hdf : d.params.defaults = [])
    (hbind : ∀ pm cd doc v : Value, bindArgs (docDef d.name d.params d.body d.scope pm cd doc) ⟨[v], []⟩ = pure [(x, v)])
    (hx : d.scope.names.lookup x = some .local ∨ d.scope.names.lookup x = some .cell)
    (hk : d.scope.kind = .function) (hco : d.scope.isCoroutine = false) (hgen : d.scope.isGenerator = false)
    (body : ∀ (w : World) (s₀ s₁ s : Shared) (mg mb : Str → Option Value) (fa : Addr) (o : Obj) (pm cd doc : Value) (a : Addr) (vs : List Value) (ns : List Int),
      Ground q loose [] XP w s₀ mg mb s₁.heap → YP w s₁.heap →
      s₁.heap.get? fa = some o → o.data = .func (docDef d.name d.params d.body d.scope pm cd doc) → s₁.heap.CodeRec cd d.name → mg d.name = some (.ref fa) →
      s₁.heap.get? a = some { cls := .type "list", data := .seq vs.toArray } → IntsAre vs ns → ns.length ≤ n →
      s.gens = #[] → s.os = s₁.os →
      Fr s₁.heap s₁.heap.objs.size s.heap (bindL (envOfC d.name d.scope s₁.heap.objs.size fa cd).kindOf [(x, .ref a)] fun _ => none) →
      Cl s₁.heap.objs.size (cellsFrom (s₁.heap.objs.size + 1) d.scope.names []) s.heap (bindC (envOfC d.name d.scope s₁.heap.objs.size fa cd).kindOf [(x, .ref a)] fun _ => none) →
      wpAny (model l.prog w) (callerA.deeper (envOfC d.name d.scope s₁.heap.objs.size fa cd)) (execs d.body (envOfC d.name d.scope s₁.heap.objs.size fa cd))
        (fun f s' => f = .ret (.bool true) ∧ OldK s₁.heap s'.heap ∧ s'.os = s₁.os ∧ AllBare s'.gens) (fun _ _ => False) s) :
    WalkO q loose XP YP l.row.toRowW d [] (fun f vs => PySem.call f vs) := by
  intro w s₀ s₁ mg mb G Y fa o pm cd doc dV kV ho hd hcd hD hmg hg args vals as hpre hlay hrd hwl hlo
  obtain rfl : dV = .none := Dflts.none hD hdf
  obtain rfl : kV = .none := Dflts.noKw hD
  obtain ⟨a, vs, ns, rfl, rfl, hobj, hints, hlen⟩ := script_of hn hpre hwl
  refine enter_call ?_
  refine call_cells_ret (o := o) (by rw [depth_caller]; decide) ho (fd_plain hd) G.T.nolimit hcd (hbind pm cd doc (.ref a)) (fun y hy => ?_) (fun h₁ tk F X => ?_) hco hgen hk
  · obtain rfl : y = (x, Value.ref a) := List.mem_singleton.mp hy
    rcases hx with e | e
    · exact .inl e
    · exact .inr ⟨e, cellsFrom_some _ _ _ (.inl e)⟩
  · refine wpAny_mono (body w s₀ s₁ { s₁ with heap := h₁, toks := tk } mg mb fa o pm cd doc a vs ns G Y ho (fd_plain hd) hcd hmg hobj hints hlen hg rfl F X) (fun f s' hq => ?_) (fun _ _ hq => hq)
    obtain ⟨rfl, h2, h3, h4⟩ := hq
    exact ⟨.inl ⟨.bool true, .bool true, [], rfl, fun _ => rfl, .bool true, post_true l _, fun _ => ⟨List.Pairwise.nil, fun _ hm => (nomatch hm)⟩⟩, h2, h3, h4⟩

/-- the same from a codeAny of the CALL (for a layer whose function contracts speak of calls) -/
theorem attach_call {l : OpenLaw} {n : Nat} {q : Program} {loose : List Str} {XP : (Str → Option Value) → Heap → Prop} {YP : World → Heap → Prop} {d : DefRec}
    (hn : l.most = some n) (hdf : d.params.defaults = [])
    (call : ∀ (w : World) (s₀ s₁ : Shared) (mg mb : Str → Option Value) (fa : Addr) (o : Obj) (pm cd doc : Value) (a : Addr) (vs : List Value) (ns : List Int),
      Ground q loose [] XP w s₀ mg mb s₁.heap → YP w s₁.heap →
      s₁.heap.get? fa = some o → o.data = .func (docDef d.name d.params d.body d.scope pm cd doc) → s₁.heap.CodeRec cd d.name → mg d.name = some (.ref fa) →
      s₁.heap.get? a = some { cls := .type "list", data := .seq vs.toArray } → IntsAre vs ns → ns.length ≤ n → s₁.gens = #[] →
      codeAny (model l.prog w) callerA (.call (.ref fa) ⟨[.ref a], []⟩) (fun r s' => r = .ok (.ret (.bool true)) ∧ OldK s₁.heap s'.heap ∧ s'.os = s₁.os ∧ AllBare s'.gens) s₁) :
    WalkO q loose XP YP l.row.toRowW d [] (fun f vs => PySem.call f vs) := by
  intro w s₀ s₁ mg mb G Y fa o pm cd doc dV kV ho hd hcd hD hmg hg args vals as hpre hlay hrd hwl hlo
  obtain rfl : dV = .none := Dflts.none hD hdf
  obtain rfl : kV = .none := Dflts.noKw hD
  obtain ⟨a, vs, ns, rfl, rfl, hobj, hints, hlen⟩ := script_of hn hpre hwl
  refine enter_call (codeAny_mono (call w s₀ s₁ mg mb fa o pm cd doc a vs ns G Y ho (fd_plain hd) hcd hmg hobj hints hlen hg) fun r s' hq => ?_)
  obtain ⟨rfl, h2, h3, h4⟩ := hq
  exact ⟨.inl ⟨.bool true, .bool true, [], rfl, fun _ => rfl, .bool true, post_true l _, fun _ => ⟨List.Pairwise.nil, fun _ hm => (nomatch hm)⟩⟩, h2, h3, h4⟩

/-- the same where the top left finished generators (o_head chose holds_openN): nothing may have changed at all and no generator may be left -/
theorem attachN {l : OpenLaw} {n : Nat} {q : Program} {loose : List Str} {XP : (Str → Option Value) → Heap → Prop} {YP : World → Heap → Prop} {d : DefRec} {x : Str}
    (hn : l.most = some n) (hdf : d.params.defaults = [])
    (hbind : ∀ pm cd doc v : Value, bindArgs (docDef d.name d.params d.body d.scope pm cd doc) ⟨[v], []⟩ = pure [(x, v)])
    (hx : d.scope.names.lookup x = some .local ∨ d.scope.names.lookup x = some .cell)
    (hk : d.scope.kind = .function) (hco : d.scope.isCoroutine = false) (hgen : d.scope.isGenerator = false)
    (body : ∀ (w : World) (s₀ s₁ s : Shared) (mg mb : Str → Option Value) (fa : Addr) (o : Obj) (pm cd doc : Value) (a : Addr) (vs : List Value) (ns : List Int),
      Ground q loose [] XP w s₀ mg mb s₁.heap → YP w s₁.heap →
      s₁.heap.get? fa = some o → o.data = .func (docDef d.name d.params d.body d.scope pm cd doc) → s₁.heap.CodeRec cd d.name → mg d.name = some (.ref fa) →
      s₁.heap.get? a = some { cls := .type "list", data := .seq vs.toArray } → IntsAre vs ns → ns.length ≤ n →
      s.gens = #[] → s.os = s₁.os →
      Fr s₁.heap s₁.heap.objs.size s.heap (bindL (envOfC d.name d.scope s₁.heap.objs.size fa cd).kindOf [(x, .ref a)] fun _ => none) →
      Cl s₁.heap.objs.size (cellsFrom (s₁.heap.objs.size + 1) d.scope.names []) s.heap (bindC (envOfC d.name d.scope s₁.heap.objs.size fa cd).kindOf [(x, .ref a)] fun _ => none) →
      wpAny (model l.prog w) (callerA.deeper (envOfC d.name d.scope s₁.heap.objs.size fa cd)) (execs d.body (envOfC d.name d.scope s₁.heap.objs.size fa cd))
        (fun f s' => f = .ret (.bool true) ∧ (∀ b o, s₁.heap.get? b = some o → s'.heap.get? b = some o) ∧ s'.os = s₁.os ∧ s'.gens = #[]) (fun _ _ => False) s) :
    WalkN q loose XP YP l.row.toRowW d [] (fun f vs => PySem.call f vs) := by
  intro w s₀ s₁ mg mb G Y fa o pm cd doc dV kV ho hd hcd hD hmg hg args vals as hpre hlay hrd hwl hlo
  obtain rfl : dV = .none := Dflts.none hD hdf
  obtain rfl : kV = .none := Dflts.noKw hD
  obtain ⟨a, vs, ns, rfl, rfl, hobj, hints, hlen⟩ := script_of hn hpre hwl
  refine enter_callW ?_
  refine call_cells_ret (o := o) (by rw [depth_caller]; decide) ho (fd_plain hd) G.T.nolimit hcd (hbind pm cd doc (.ref a)) (fun y hy => ?_) (fun h₁ tk F X => ?_) hco hgen hk
  · obtain rfl : y = (x, Value.ref a) := List.mem_singleton.mp hy
    rcases hx with e | e
    · exact .inl e
    · exact .inr ⟨e, cellsFrom_some _ _ _ (.inl e)⟩
  · refine wpAny_mono (body w s₀ s₁ { s₁ with heap := h₁, toks := tk } mg mb fa o pm cd doc a vs ns G Y ho (fd_plain hd) hcd hmg hobj hints hlen hg rfl F X) (fun f s' hq => ?_) (fun _ _ hq => hq)
    obtain ⟨rfl, h2, h3, h4⟩ := hq
    exact ⟨.inl ⟨.bool true, .bool true, [], rfl, fun _ => rfl, .bool true, post_true l _, fun _ => ⟨List.Pairwise.nil, fun _ hm => (nomatch hm)⟩⟩, h2, h3, h4⟩

/-! ### rules over ANY heap (no ledger) from facts about the written part K: the library's own take a ledger (News) for what they write -/
section
variable {prog : Program} {w : World} {A : Around} {E : Value → Shared → Prop} {s : Shared} {K : Frag}

/-- a def of the module, or a method (qual 'C.m'), entered: the frame is the next address; cells behind it -/
theorem call_fn {R : Result → Shared → Prop} {name qual : Str} {params : Arguments} {body : List Stmt} {scope : Scope} {dV kV doc pm cdv ct oc : Value} {an od : Option Addr} {osl : Array (Option Value)} {f : Addr} {args : Args} {binds : List (Str × Value)}
    (X : K.In s.heap) (hlim : s.heap.NoLimit) (ho : K.lookup f = some ⟨oc, od, .func (fnOf name qual params body scope dV kV doc pm an cdv ct), osl⟩) (hcd : codeIn K cdv qual = true) (hroom : A.depth < recursionLimit)
    (hbind : BindsTo s (fnOf name qual params body scope dV kV doc pm an cdv ct) args binds)
    (hkind : (binds.all fun y => scope.names.lookup y.1 == some .local || scope.names.lookup y.1 == some .cell) = true)
    (h : ∀ s₁, InCallC s s.heap.objs.size (bindL (envOfC qual scope s.heap.objs.size f cdv).kindOf binds fun _ => none) (cellsFrom (s.heap.objs.size + 1) scope.names [])
        (bindC (envOfC qual scope s.heap.objs.size f cdv).kindOf binds fun _ => none) s₁ →
      wpAny (model prog w) (A.deeper (envOfC qual scope s.heap.objs.size f cdv)) (execs body (envOfC qual scope s.heap.objs.size f cdv))
        (fun fl s' => R (.ok (.ret (match fl with | .ret v => v | _ => .none))) s')
        (fun e s' => wpAny (model prog w) (A.deeper (envOfC qual scope s.heap.objs.size f cdv)) (leaving (envOfC qual scope s.heap.objs.size f cdv) e) (fun _ s'' => R (.error e) s'') (fun e' s'' => R (.error e') s'') s') s₁)
    (hco : scope.isCoroutine = false) (hgen : scope.isGenerator = false) (hk : scope.kind = .function) : codeAny (model prog w) A (.call (.ref f) args) R s := by
  refine codeAny_call_function hroom (X _ _ ho) rfl hco hgen rfl (codeRec_of X hcd) (hbind _ _ _ _ ?_)
  refine wpAny_newFunctionEnv_cells hk (kindsX hkind _) fun env he s₁ x => ?_
  subst he
  exact ⟨hlim.keeps x.toInCall.keep, codeAny_func (h s₁ x)⟩

/-- C(..): dict at size, instance at size + 1, then __init__ -/
theorem make_obj {R : Result → Shared → Prop} {C fI : Addr} {rest : List Value} {kw : List (Str × Value)}
    (X : K.In s.heap) (hm : makesIn K C = true) (hi : findIn K (.ref C) "__init__" = some (some (.ref fI))) (hf : isFn K (.ref fI) = true)
    (h : codeAny (model prog w) (A.under (.builtin "type.__call__" ⟨.ref C :: rest, kw⟩)) (.call (.ref fI) ⟨.ref (s.heap.objs.size + 1) :: rest, kw⟩) (InitBack (s.heap.objs.size + 1) R)
      { s with heap := (s.heap.push emptyDict).push (instObj C s.heap.objs.size) }) : codeAny (model prog w) A (.call (.ref C) ⟨rest, kw⟩) R s := by
  obtain ⟨hh, g, d, t, os⟩ := s
  exact make_core (makes_of X hm) (looks_findIn X hi) (fun self => bind_fn X self (beq_iff_eq.mp hf)) (.inl rfl) h

/-- x.name where the instance's dict holds the name and the class does not -/
theorem get_field {x C : Addr} {ox : Obj} {es : List DictEntry} {n : Nat} {name : Str} {expr : Bool} {v : Value} {Q : Value → Shared → Prop}
    (X : K.In s.heap) (I : PySem.W.InstAt s.heap x ox C (some (dictOf es n))) (hg : plainGet K C name = true) (hh : hasDictIn K C = true) (ha : findIn K (.ref C) name = some none)
    (hl : getL name es = some (some v)) (hv : handedIn v = true) (h : Q v { s with toks := s.toks + 1 }) : wpAny (model prog w) A (getAttr (.ref x) name expr) Q E s :=
  get_value X I (plainGet_of hg).1 (findObj_own hh ha rfl hl) hv h

/-- x.m(..): the method found in the class -/
theorem get_method {x C f : Addr} {ox : Obj} {es : List DictEntry} {n : Nat} {name : Str} {pl : Sem Bool} {Q : Value × List Value → Shared → Prop}
    (X : K.In s.heap) (I : PySem.W.InstAt s.heap x ox C (some (dictOf es n))) (hg : plainGet K C name = true) (hf : findIn K (.ref C) name = some (some (.ref f))) (ht : isFn K (.ref f) = true)
    (hl : getL name es = some none) (h : Q (.ref f, [.ref x]) s) : wpAny (model prog w) A (getMethod (.ref x) name pl) Q E s :=
  method_fn X I (plainGet_of hg).1 (plainGet_of hg).2 hf (beq_iff_eq.mp ht) (by show (lookIn name (dictOf es n)).map _ = _; rw [lookIn_dict, hl]; rfl) h

/-! the whole heap as the ledger: makes every rule that writes through a ledger a rule over any heap -/
def noObjs (h : Heap) : Heap := { h with objs := #[] }
theorem noObjs_get (h : Heap) (b : Addr) : (noObjs h).get? b = none := by
  cases e : (noObjs h).get? b with
  | none => rfl
  | some o => exact absurd (Heap.lt_size e) (Nat.not_lt_zero _)
def ledger (h : Heap) (L d : Addr) : List (Addr × Obj) := (List.range h.objs.size).filterMap fun a => if a = L ∨ a = d then none else (h.get? a).map fun o => (a, o)
theorem mem_ledger {h : Heap} {L d a : Addr} {o : Obj} : (a, o) ∈ ledger h L d ↔ a ≠ L ∧ a ≠ d ∧ h.get? a = some o := by
  unfold ledger
  rw [List.mem_filterMap]
  constructor
  · rintro ⟨b, _, e⟩
    split at e
    · cases e
    · rename_i hb
      obtain ⟨o', ho, e'⟩ := Option.map_eq_some_iff.mp e
      cases e'
      exact ⟨fun q => hb (.inl q), fun q => hb (.inr q), ho⟩
  · rintro ⟨n1, n2, ho⟩
    refine ⟨a, List.mem_range.mpr (Heap.lt_size ho), ?_⟩
    rw [if_neg (show ¬ (a = L ∨ a = d) from fun q => q.elim n1 n2), ho] <;> rfl
theorem news_ledger {h : Heap} {L d : Addr} {od : Obj} (hne : d ≠ L) (ho : h.get? d = some od) : News (noObjs h) L h ([] ++ (d, od) :: ledger h L d) := by
  rintro ⟨a, o⟩ hp
  rcases List.mem_cons.mp hp with e | hp
  · cases e
    exact ⟨ho, hne, noObjs_get _ _⟩
  · obtain ⟨n1, n2, e⟩ := mem_ledger.mp hp
    exact ⟨e, n1, noObjs_get _ _⟩
theorem fr_all {h : Heap} {L : Addr} {m : Str → Option Value} (n : h.Ns L m) : Fr (noObjs h) L h m :=
  ⟨n, fun b o e => (by rw [noObjs_get] at e; cases e), Nat.zero_le _⟩
/-- Upd of the head entry (for append_K, setItem_K ..) -/
theorem upd_ledger {h : Heap} {L d : Addr} {o o' : Obj} : Upd d o o' ((d, o) :: ledger h L d) ((d, o') :: ledger h L d) :=
  .head fun ⟨_, _⟩ hp => (mem_ledger.mp hp).2.1

/-- x.name = v over any heap: L is any namespace of the heap (the frame's, say): its map stays, its object is not told; all else but the dict stays -/
theorem set_field {x C dx L : Addr} {ox : Obj} {m : Str → Option Value} {es es' : List DictEntry} {n n' : Nat} {name : Str} {v : Value} {Q : Unit → Shared → Prop}
    (X : K.In s.heap) (I : PySem.W.InstAt s.heap x ox C (some (dictOf es n))) (hd : ox.dict = some dx) (hL : s.heap.Ns L m) (hne : dx ≠ L)
    (hs : findIn K (.ref C) "__setattr__" = some (some (.builtin "object.__setattr__"))) (hp : plainOver K C = true) (ht : takerIn K C name = some none) (hh : hasDictIn K C = true) (hl : (getL name es).isSome = true)
    (e : (putL name (PyData.keyHash w.params name) (.str name (s.toks + 1)) v es, putN name es n) = (es', n')) (hz : es'.length ≤ 1000)
    (h : ∀ h' : Heap, h'.Ns L m → h'.get? dx = some (dictOf es' n') → (∀ b o, b ≠ dx → b ≠ L → s.heap.get? b = some o → h'.get? b = some o) → Q () { s with heap := h', toks := s.toks + 2 }) :
    wpAny (model prog w) A (setAttr (.ref x) name v) Q E s := by
  obtain ⟨e1, e2⟩ := Prod.mk.inj e
  have hdx : s.heap.get? dx = some (dictOf es n) := by
    have := I.dict
    rw [hd] at this
    exact this
  refine set_plain X I hs (osa_dict (s := { s with toks := s.toks + 1 }) (h₀ := noObjs s.heap) (L := L) (m := m) (od := dictOf es n) (od' := dictOf es' n') (es := es') (n := n') (pre := []) (post := ledger s.heap L dx)
    (fr_all hL) (news_ledger hne hdx) X I hd hp ht hh hl (fun _ q => nomatch q) (fun ⟨_, _⟩ q => (mem_ledger.mp q).2.1) (by rw [putName_dict, e1, e2]) rfl hz fun h' F' N' => ?_)
  exact h h' F'.ns (N'.get (List.Mem.head _)) fun b o n1 n2 ho => N'.get (List.Mem.tail _ (mem_ledger.mpr ⟨n2, n1, ho⟩))
end
end Att

namespace L2
open PySem PySem.Spec PyProof.Rows

theorem vals_ints : ∀ {vs : List Value} {ns : List Int}, IntsAre vs ns → Vals (ns.map V.int) vs
  | _, _, .nil => .nil
  | _, _, .cons n t h => .cons ⟨t, rfl⟩ (vals_ints h)

/-- nothing is tracked but the script, known to the object (or it is an object of the module) -/
def Only (H : Hp) : Prop := ∀ b, H b = none ∨ ∃ o xs, H b = some (.frz o (.lst xs))

/-- THE HEAD: the law's promise, at the heap behind the top. F, the promise of the law's def, may use that base is part of the heap (so K.In base, base.Ns mainGlobals mg stand in Mod) -/
theorem law_call {P : Program} {w : World} {K : PySem.W.Frag} {mg mb : Str → Option Value} {CX : CXT} {k : Nat} {fa a : Addr} {fd : FuncData} {x : Str} {sp : Sp} {s₁ : Shared} {vs : List Value} {ns : List Int}
    (KX : K.In s₁.heap) (hns : s₁.heap.Ns mainGlobals mg) (hb : s₁.heap.Ns builtinsNs mb) (hbb : ∀ x : Str, x ≠ "__name__" → mb x = bootBuiltins x) (hlim : s₁.heap.NoLimit) (hg : s₁.gens = #[])
    (ha : s₁.heap.get? a = some { cls := .type "list", data := .seq vs.toArray }) (hi : IntsAre vs ns) (hl : ns.length ≤ sizeLine) (hr : Room k callerA)
    (F : ∀ base : Heap, K.In base → base.Ns mainGlobals mg → FnOk P w K mg base CX k fa fd [x] sp) (hbind : ∀ (s : Shared) (u : Value), BindsTo s fd ⟨[u], []⟩ [(x, u)])
    (hsp : ∀ H : Hp, Only H → SqL K H a (ns.map V.int) → sp [.ref a] H (fun v _ => v = .bl true) fun _ _ _ => False)
    (hCX : ∀ H e s', CX [] H s₁ (fun _ _ _ => False) e s' → False) :
    codeAny (model P w) callerA (.call (.ref fa) ⟨[.ref a], []⟩) (fun r s' => r = .ok (.ret (.bool true)) ∧ OldK s₁.heap s'.heap ∧ s'.os = s₁.os ∧ AllBare s'.gens) s₁ := by
  have rv := vals_ints hi
  have lenV := hi.length
  -- from an abstract heap in which nothing but the script may be tracked
  have core : ∀ H : Hp, Only H → SqL K H a (ns.map V.int) → HOk P w H s₁.heap → (∀ b, H b ≠ none → b = a) → (H a ≠ none → K.lookup a = none) →
      codeAny (model P w) callerA (.call (.ref fa) ⟨[.ref a], []⟩) (fun r s' => r = .ok (.ret (.bool true)) ∧ OldK s₁.heap s'.heap ∧ s'.os = s₁.os ∧ AllBare s'.gens) s₁ := by
    intro H hO hS hok hA hK
    have base_of : ∀ {b : Addr} {o : Obj}, s₁.heap.get? b = some o → H b = none → (hidT s₁.heap H).get? b = some o := fun e n => hidT_get e n
    have noA : ∀ {b : Addr} {o : Obj} {es : Array DictEntry} {ep : Nat}, s₁.heap.get? b = some o → o.data = .dict es ep → H b = none := fun {b o es ep} e d => by
      cases q : H b with
      | none => rfl
      | some u =>
        have e' : b = a := hA b (by rw [q]; simp)
        subst e'
        rw [ha] at e; cases e
        have d' : Data.seq vs.toArray _ = Data.dict es ep := d
        cases d'
    have nsK : ∀ {b : Addr} {m : Str → Option Value}, s₁.heap.Ns b m → (hidT s₁.heap H).Ns b m := fun {b m} ⟨o, es, ep, e, d, r⟩ => ⟨o, es, ep, base_of e (noA e d), d, r⟩
    have hKb : K.In (hidT s₁.heap H) := fun b o e => base_of (KX b o e) (by
      cases q : H b with
      | none => rfl
      | some u =>
        have e' : b = a := hA b (by rw [q]; simp)
        subst e'
        rw [hK (by rw [q]; simp)] at e; cases e)
    have hM : Mod K mg (hidT s₁.heap H) := ⟨hKb, nsK hns, ⟨mb, nsK hb, hbb⟩, let ⟨mc, h1, h2⟩ := hlim; ⟨mc, nsK h1, h2⟩⟩
    have e0 : Env0 P w K mg (hidT s₁.heap H) callerA [] s₁ H := ⟨rfl, hM, fun b o e => of_hidT e, Nat.le_of_eq (hidT_size _ _), trivial, fun b hb => absurd (show b ∈ ([] : List Addr) from hb) (by simp), hok, .of_eq hg⟩
    refine codeAny_mono ((F _ hKb (nsK hns)).run callerA [] s₁ H ⟨[.ref a], []⟩ [.ref a] [.ref a] _ _ hr e0 (hbind s₁ (.ref a)) (.cons rfl .nil) (hsp H hO hS)) fun r s' h => ?_
    cases r with
    | error e => exact (hCX H e s' h).elim
    | ok fl =>
      cases fl with
      | next => exact False.elim h
      | brk => exact False.elim h
      | cont => exact False.elim h
      | ret u =>
        obtain ⟨v, H', os, bare, un, hok', r', q⟩ := h
        have q' : v = .bl true := q
        subst q'
        obtain rfl : u = Value.bool true := r'
        refine ⟨rfl, OldK.of_keep fun b o e => ?_, os, bare⟩
        cases q : H b with
        | none => exact un.keep b o e q (by intro z; exact absurd (show b ∈ ([] : List Addr) from z) (by simp)) (by simp)
        | some u =>
          rcases hO b with z | ⟨ob, xs, z⟩
          · rw [q] at z; cases z
          · have z2 := un.frzs b ob _ z
            obtain ⟨e1, _⟩ := hok b _ z
            obtain ⟨e2, _⟩ := hok' b _ z2
            rw [e] at e1; cases e1
            exact e2
  cases hk : K.lookup a with
  | some o =>
    -- the script is one of the module's own objects
    have e := KX a o hk
    rw [ha] at e
    cases e
    refine core (fun _ => none) (fun _ => .inl rfl) (.inr ⟨_, vs.toArray, _, hk, rfl, rfl, rfl, by rw [List.size_toArray, lenV]; exact hl, by simpa using rv⟩) (fun b u z => by have z' : (none : Option HO) = some u := z; cases z') (fun b z => absurd rfl z) fun z => absurd rfl z
  | none =>
    refine core (fun b => if b = a then some (.frz { cls := .type "list", data := .seq vs.toArray } (.lst (ns.map V.int))) else none) (fun b => ?_) (.inl (.inr ⟨{ cls := .type "list", data := .seq vs.toArray }, if_pos rfl⟩)) (fun b u z => ?_) (fun b z => ?_) fun _ => hk
    · by_cases hb : b = a
      · exact .inr ⟨_, _, if_pos hb⟩
      · exact .inl (if_neg hb)
    · by_cases hb : b = a
      · have z' := (if_pos hb).symm.trans z
        cases z'
        subst hb
        exact ⟨ha, by rw [List.length_map]; exact hl, vs, _, rv, ha⟩
      · have z' := (if_neg hb).symm.trans z
        cases z'
    · by_cases hb : b = a
      · exact hb
      · exact absurd (if_neg hb) z
end L2

namespace L2
open PySem PySem.Spec PyProof.Rows

abbrev KOf {K : PySem.W.Frag} {h : Heap} (_ : K.In h) : PySem.W.Frag := K

/-- the goal that k_head leaves (case hc), from the law's promise. F gives the function object fd (K's own) once, then the promise over every base -/
theorem walk_of {l : PySem.W.OpenLaw} {n k : Nat} {q : Program} {loose : List Str} {XP : (Str → Option Value) → Heap → Prop} {YP : World → Heap → Prop} {d : DefRec} {K : Params → PySem.W.Frag} {CX : World → CXT} {sp : World → Sp} {x : Str}
    (hn : l.most = some n) (hn2 : n ≤ sizeLine) (hdf : d.params.defaults = []) (hr : Room k callerA)
    (hY : ∀ (w : World) (h : Heap), YP w h → (K w.params).In h)
    (F : ∀ (w : World) (mg : Str → Option Value) (fa : Addr) (h : Heap), (K w.params).In h → h.Ns mainGlobals mg → mg d.name = some (.ref fa) →
      ∃ fd : FuncData, (∀ (s : Shared) (u : Value), BindsTo s fd ⟨[u], []⟩ [(x, u)]) ∧
        ∀ base : Heap, (K w.params).In base → base.Ns mainGlobals mg → FnOk l.prog w (K w.params) mg base (CX w) k fa fd [x] (sp w))
    (hsp : ∀ (w : World) (H : Hp) (a : Addr) (ns : List Int), ns.length ≤ n → Only H → SqL (K w.params) H a (ns.map V.int) → sp w [.ref a] H (fun v _ => v = .bl true) fun _ _ _ => False)
    (hCX : ∀ (w : World) (H : Hp) (s : Shared) (e : Value) (s' : Shared), CX w [] H s (fun _ _ _ => False) e s' → False) :
    PySem.W.WalkO q loose XP YP l.row.toRowW d [] (fun f vs => PySem.call f vs) := by
  refine Att.attach_call hn hdf fun w s₀ s₁ mg mb fa o pm cd doc a vs ns G Y ho hd hcd hmg hobj hints hlen hg => ?_
  have KX := hY w _ Y
  obtain ⟨fd, hb, hF⟩ := F w mg fa _ KX G.T.g hmg
  exact law_call KX G.T.g G.T.b G.T.builtins G.T.nolimit hg hobj hints (Nat.le_trans hlen hn2) hr hF hb (fun H hO hS => hsp w H a ns hlen hO hS) fun H e s' => hCX w H s₁ e s'
/-- the same where the promise hangs on the written part alone: (sp := My.sp_law), no hole under a binder -/
theorem walk_ofK {l : PySem.W.OpenLaw} {n k : Nat} {q : Program} {loose : List Str} {XP : (Str → Option Value) → Heap → Prop} {YP : World → Heap → Prop} {d : DefRec} {K : Params → PySem.W.Frag} {CX : CXT} {sp : PySem.W.Frag → Sp} {x : Str}
    (hn : l.most = some n) (hn2 : n ≤ sizeLine) (hdf : d.params.defaults = []) (hr : Room k callerA)
    (hY : ∀ (w : World) (h : Heap), YP w h → (K w.params).In h)
    (F : ∀ (w : World) (mg : Str → Option Value) (fa : Addr) (h : Heap), (K w.params).In h → h.Ns mainGlobals mg → mg d.name = some (.ref fa) →
      ∃ fd : FuncData, (∀ (s : Shared) (u : Value), BindsTo s fd ⟨[u], []⟩ [(x, u)]) ∧
        ∀ base : Heap, (K w.params).In base → base.Ns mainGlobals mg → FnOk l.prog w (K w.params) mg base CX k fa fd [x] (sp (K w.params)))
    (hsp : ∀ (K : PySem.W.Frag) (H : Hp) (a : Addr) (ns : List Int), ns.length ≤ n → Only H → SqL K H a (ns.map V.int) → sp K [.ref a] H (fun v _ => v = .bl true) fun _ _ _ => False)
    (hCX : ∀ (H : Hp) (s : Shared) (e : Value) (s' : Shared), CX [] H s (fun _ _ _ => False) e s' → False) :
    PySem.W.WalkO q loose XP YP l.row.toRowW d [] (fun f vs => PySem.call f vs) :=
  walk_of (K := K) (CX := fun _ => CX) (sp := fun w => sp (K w.params)) hn hn2 hdf hr hY F (fun w H a ns h1 h2 h3 => hsp (K w.params) H a ns h1 h2 h3) fun _ H s e s' => hCX H s e s'
end L2

/- THE LAST THEOREM (shape; LID, My.* are yours):
   My.Adr: a structure of the addresses that your layer names (classes, functions); My.Txt K t: a structure (Prop) of the equations over K;
   My.txt_mk : {K} {implicit addresses ..} (e1 : nsIn K mainGlobals "law" = some (some (.ref f))) (e2 : K.lookup f = some ⟨oc, od, .func (fnOf "law" "law" params body scope dV kV doc pm an cdv ct), sl⟩) (e3 : codeIn K cdv "law" = true) .. : ∃ t, My.Txt K t

set_option maxRecDepth 100000 in
set_option maxHeartbeats 0 in
theorem PySem.Challenge.cw_LID_holds : PySem.Challenge.rw_LID.Holds := by
  w_on; o_law; k_head; (case hw => w_witness2)
  k_fill
  refine L2.walk_of (l := PySem.Challenge.rw_LID) (n := 63) (k := 40) (x := "script") (CX := fun w => ..) (sp := fun _ => My.sp_law) rfl (by decide) rfl ⟨rfl, by decide, by decide⟩ (fun w h Y => PySem.W.kIn_of Y) ?F ?S ?C
  case F =>
    intro w mg fa h KX G hmg
    have T : ∃ t, My.Txt (L2.KOf KX) t := by
      dsimp only [L2.KOf]                          -- K must stand as «<heap const> w.params» for k_is
      refine' My.txt_mk ?e1 ?e2 ?e3 ..
      (case e1 => PySem.W.k_is)                    -- in the order: a name -> its address -> its object -> its parts
      (case e2 => PySem.W.k_is)
      ..
    obtain ⟨t, T⟩ := T
    have e0 := hmg.symm.trans (PySem.W.mg_of KX G T.law)
    cases e0                                       -- fa is the law's own address
    exact ⟨_, fun s u => .of_eq rfl, fun base kb nb => My.law_fn T kb nb⟩     -- if «.of_eq rfl» comes too early: refine' ⟨_, ?b, fun base kb nb => My.law_fn T kb nb⟩; exact fun s u => .of_eq rfl
  case S => exact fun w H a ns hl hO hS => ..
  case C => exact ..
(the tactic k_is has no namespace: write k_is) -/

/-! SHORT WORDS over the layer: a def of the text, its body, what a loop and a test want. -/
namespace L2
open PySem PySem.Spec PyProof.Rows

/-! ### the text by places -/
/-- the j-th statement of a class's body -/
def inClass (s : Stmt) (j : Nat) : Stmt := match s with
  | .ClassDef _ _ _ body _ _ _ _ _ _ _ => body.getD j (.Pass ⟨0, 0, 0, 0⟩)
  | _ => .Pass ⟨0, 0, 0, 0⟩
def defArgs (s : Stmt) : Arguments := match s with
  | .FunctionDef _ a _ _ _ _ _ _ _ _ => a
  | _ => { posonlyargs := [], args := [], vararg := none, kwonlyargs := [], kw_defaults := [], kwarg := none, defaults := [] }
def defBody (s : Stmt) : List Stmt := match s with
  | .FunctionDef _ _ b _ _ _ _ _ _ _ => b
  | _ => []
def defScope (s : Stmt) : Scope := match s with
  | .FunctionDef _ _ _ _ _ _ sc _ _ _ => sc
  | _ => { kind := .function, names := [], isGenerator := false, isCoroutine := false }

/-! ### no exception leaves a def -/
abbrev CX0 : CXT := fun _ _ _ _ _ _ => False
abbrev E0 : XK := fun _ _ _ => False
theorem pass0 {X : Cx} : Passes CX0 X E0 := fun _ _ _ _ _ _ _ h => h.elim

/-! ### a def (or method) of the text as it stands behind the top -/
structure Fun (K : PySem.W.Frag) (x qual : Str) (st : Stmt) (f : Addr) (fd : FuncData) : Prop where
  ex : ∃ (oc : Value) (od : Option Addr) (kV doc pm : Value) (an : Option Addr) (cdv ct : Value) (osl : Array (Option Value)),
    fd = PySem.W.fnOf x qual (defArgs st) (defBody st) (defScope st) .none kV doc pm an cdv ct ∧ K.lookup f = some ⟨oc, od, .func fd, osl⟩ ∧ PySem.W.codeIn K cdv qual = true
  kp : PySem.W.keepIn K (.ref f) = true
section
variable {P : Program} {w : World} {K : PySem.W.Frag} {mg : Str → Option Value} {base : Heap}
/-- THE RULE for a def: its body as a term of rules, and the reading of that term -/
theorem Fun.ok {x qual : Str} {st : Stmt} {f : Addr} {fd : FuncData} {N ps : List Str} {k : Nat} {sp : Sp} (F : Fun K x qual st f fd) (S : FnScope N ps (defScope st)) (len : ∀ vs H Q E, sp vs H Q E → vs.length = ps.length)
    (hbody : ∀ (cdv : Value) (A : Around) (outer : List Env) (s : Shared) (H : Hp) (vs : List V) (Q : VK) (E : XK), Room k (A.deeper (envOfC qual (defScope st) s.heap.objs.size f cdv)) → sp vs H Q E →
      ∃ t, PSs (cxOf CX0 P w K mg base N qual (defScope st) f cdv A outer s H E).nox (defBody st) t ∧ t { nx := fun _ H' => Q .non H', rt := Q } (start N vs) H) : FnOk P w K mg base CX0 (k + 1) f fd ps sp := by
  obtain ⟨oc, od, kV, doc, pm, an, cdv, ct, osl, rfl, lk, hcd⟩ := F.ex
  refine fn_of lk hcd S len fun A outer s H vs Q E hr hsp => ?_
  obtain ⟨t, h, q⟩ := hbody cdv A outer s H vs Q E hr hsp
  exact ⟨t, h.nox, q⟩
/-- how its arguments bind (no defaults): h is «fun _ _ _ _ _ _ us hl => match us, hl with | [_, _], _ => rfl», one _ a parameter -/
theorem Fun.binds {x qual : Str} {st : Stmt} {f : Addr} {fd : FuncData} {ps : List Str} (F : Fun K x qual st f fd)
    (h : ∀ (kV doc pm : Value) (an : Option Addr) (cdv ct : Value) (us : List Value), us.length = ps.length → bindArgs (PySem.W.fnOf x qual (defArgs st) (defBody st) (defScope st) .none kV doc pm an cdv ct) ⟨us, []⟩ = pure (ps.zip us)) : Binds K fd ps [] := by
  obtain ⟨oc, od, kV, doc, pm, an, cdv, ct, osl, rfl, lk, hcd⟩ := F.ex
  exact .all (h kV doc pm an cdv ct)
theorem fun_mk {x qual : Str} {st : Stmt} {f : Addr} {oc : Value} {od an : Option Addr} {osl : Array (Option Value)} {kV doc pm cdv ct : Value} (l : K.lookup f = some ⟨oc, od, .func (PySem.W.fnOf x qual (defArgs st) (defBody st) (defScope st) .none kV doc pm an cdv ct), osl⟩)
    (c : PySem.W.codeIn K cdv qual = true) (k : PySem.W.keepIn K (.ref f) = true) : Fun K x qual st f (PySem.W.fnOf x qual (defArgs st) (defBody st) (defScope st) .none kV doc pm an cdv ct) := ⟨⟨oc, od, kV, doc, pm, an, cdv, ct, osl, rfl, l, c⟩, k⟩
end
theorem hu_of {A : Around} {k : Nat} (hr : Room k A) : A.units + 1 < cLine := Nat.lt_of_le_of_lt (Nat.add_le_add_left (by decide : 1 ≤ 64) _) hr.units
theorem small1000 {n : Nat} (h : n ≤ 1000) : n < sizeLine := Nat.lt_of_le_of_lt h (by decide)

/-! ### expressions in short: the name that stands in the i-th slot -/
section
variable {X : Cx}
theorem pv (i : Nat) {x : Str} {pos : Pos} (hN : X.N[i]? = some x := by rfl) (hv : Vis X.env.scope x := by first | exact Or.inl rfl | exact Or.inr (Or.inl rfl) | exact Or.inr (Or.inr rfl)) (hd : (x == ("__debug__" : Str)) = false := by decide)
    (hcd : (x == ("__classdict__" : Str)) = false := by decide) : PE X (.Name x pos) (tVar i) := pe_var hN hv hd hcd
end

/-! ### tests -/
theorem iteF {A B : Prop} (h : B) : if false = true then A else B := by
  rw [if_neg Bool.false_ne_true]
  exact h
theorem iteT {A B : Prop} (h : A) : if true = true then A else B := by
  rw [if_pos rfl]
  exact h
theorem ite2 {c A B : Prop} [Decidable c] (h1 : c → A) (h2 : ¬ c → B) : if c then A else B := by
  by_cases h : c
  · rw [if_pos h]
    exact h1 h
  · rw [if_neg h]
    exact h2 h
theorem iteNS {c A B : Prop} [Decidable c] (hc : c) (h : B) : if (!decide c) = true then A else B := by
  rw [decide_eq_true hc]
  exact iteF h

/-! ### heaps -/
/-- all that was tracked is as it was -/
def Same (H H' : Hp) : Prop := ∀ b o, H b = some o → H' b = some o
theorem Same.refl (H : Hp) : Same H H := fun _ _ h => h
theorem Same.trans {H H1 H2 : Hp} (a : Same H H1) (b : Same H1 H2) : Same H H2 := fun c o h => b c o (a c o h)
theorem Same.free {H H' : Hp} (e : Same H H') {l : Addr} (h : H' l = Option.none) : H l = Option.none := by
  cases q : H l with
  | none => rfl
  | some o =>
    rw [e l o q] at h
    cases h
theorem Same.seq {K : PySem.W.Frag} {H H' : Hp} {a : Addr} {xs : List V} (e : Same H H') (h : SqL K H a xs) : SqL K H' a xs := by
  rcases h with (h | ⟨o, h⟩) | h
  · exact .inl (.inl (e _ _ h))
  · exact .inl (.inr ⟨o, e _ _ h⟩)
  · exact .inr h

end L2

/-! MORE RULES over the hand layer: large ints, isinstance, deep ==, calls by one bundle, and the readings' own rules. -/
namespace L2
open PySem PySem.Spec PyProof.Rows

/-! ### large ints -/
def CMulB (i j : Int) : Prop := CMul i j ∨ ∃ m n : Nat, i.natAbs < 2 ^ m ∧ j.natAbs < 2 ^ n ∧ m + n ≤ 134217728
def CDivB (_i j : Int) : Prop := 0 < j ∧ ∃ n : Nat, j.natAbs < 2 ^ n ∧ n ≤ 9000
section
variable {X : Cx}
theorem op_mulB : OpR X (binaryOp .Mult) (rI CMulB fun i j => .int (i * j)) := opI fun _ _ _ _ _ _ _ hc q => by
  rcases hc with hc | ⟨m, n, h1, h2, h3⟩
  · exact mul_int q hc.ok
  exact mul_int q (PySem.IntMulOk.of_le (PySem.intBits_le_iff.mpr h1) (PySem.intBits_le_iff.mpr h2) h3)
theorem op_fdivB : OpR X (binaryOp .FloorDiv) (rI CDivB fun i j => .int (i / j)) := opI fun i j _ _ _ _ _ hc q => by
  obtain ⟨h1, n, h2, h3⟩ := hc
  refine floordiv_int (by omega) (by rw [Int.fdiv_eq_ediv_of_nonneg i (by omega)]; exact q) (.inl (PyProof.noPylong_of_log2 ?_))
  exact (Nat.log2_lt (by omega)).mpr (Nat.lt_of_lt_of_le h2 (Nat.pow_le_pow_right (by decide) h3))
end
theorem CMulB.of {i j : Int} (m n : Nat) (h1 : i.natAbs < 2 ^ m) (h2 : j.natAbs < 2 ^ n) (h3 : m + n ≤ 134217728 := by decide) : CMulB i j := .inr ⟨m, n, h1, h2, h3⟩
theorem CDivB.of {i j : Int} (n : Nat) (h1 : 0 < j) (h2 : j.natAbs < 2 ^ n) (h3 : n ≤ 9000 := by decide) : CDivB i j := ⟨h1, n, h2, h3⟩
theorem CDivB.small {i j : Int} (h1 : 0 < j) (h2 : j < 4294967296) : CDivB i j := .of 32 h1 (by omega)
theorem CMulB.left {i j : Int} (h1 : -18446744073709551616 < i) (h2 : i < 18446744073709551616) : CMulB i j := .inl (.inl ⟨h1, h2⟩)
theorem CMulB.right {i j : Int} (h1 : -18446744073709551616 < j) (h2 : j < 18446744073709551616) : CMulB i j := .inl (.inr ⟨h1, h2⟩)

/-! ### isinstance -/
def rIsi (K : PySem.W.Frag) : List V → Hp → VK → Prop := fun xs H Q => ∃ x n t b, xs = [x, .ty n] ∧ TyOf K H x t ∧ PySem.W.kitOne K t (.type n) = some b ∧ Q (.bl b) H
def rAbs : List V → Hp → VK → Prop := fun xs H Q => ∃ i, xs = [.int i] ∧ Q (.int (if i < 0 then -i else i)) H
def rMin2 : List V → Hp → VK → Prop := fun xs H Q => ∃ i j, xs = [.int i, .int j] ∧ Q (.int (if j < i then j else i)) H
def rMax2 : List V → Hp → VK → Prop := fun xs H Q => ∃ i j, xs = [.int i, .int j] ∧ Q (.int (if j > i then j else i)) H
def rInt1 : List V → Hp → VK → Prop := fun xs H Q => (∃ i, xs = [.int i] ∧ Q (.int i) H) ∨ ∃ k, xs = [.bl k] ∧ Q (.int (if k then 1 else 0)) H
def rLen (K : PySem.W.Frag) : List V → Hp → VK → Prop := fun xs H Q => ∃ p ys, xs = [.ref p] ∧ (SqL K H p ys ∨ SqT K H p ys) ∧ Q (.int ys.length) H
def rListOf (K : PySem.W.Frag) : List V → Hp → VK → Prop := fun xs H Q => ∃ p ys, xs = [.ref p] ∧ (SqL K H p ys ∨ SqT K H p ys) ∧ ∀ l, H l = none → Q (.ref l) (upd H l (.lst ys))
def rTupleOf (K : PySem.W.Frag) : List V → Hp → VK → Prop := fun xs H Q => ∃ p ys, xs = [.ref p] ∧ SqL K H p ys ∧ ∀ l, H l = none → Q (.ref l) (upd H l (.tup ys))
section
variable {X : Cx}
theorem cl_isi : CallR X (.builtin "isinstance") (rIsi X.K) := by
  intro pins s σ H xs us Q I r h
  obtain ⟨x, n, t, b, rfl, ty, e, q⟩ := h
  obtain ⟨u, c, rfl, ru, rc⟩ := vals2 r
  cases rc
  exact isinst_ok I ru ty e fun tk => ⟨.bl b, H, I.tok _, rfl, q⟩
theorem cl_abs : CallR X (.builtin "abs") rAbs := call_abs
theorem cl_min2 (hc : X.calm = true) : CallR X (.builtin "min") rMin2 := call_min2 hc
theorem cl_max2 (hc : X.calm = true) : CallR X (.builtin "max") rMax2 := call_max2 hc
theorem cl_int1 : CallR X (.type "int") rInt1 := call_int1
theorem cl_len : CallR X (.builtin "len") (rLen X.K) := call_len_seq
theorem cl_list : CallR X (.type "list") (rListOf X.K) := call_list_of
theorem cl_tuple : CallR X (.type "tuple") (rTupleOf X.K) := by
  intro pins s σ H xs us Q I r h
  obtain ⟨p, ys, rfl, hq, q⟩ := h
  exact call_tuple_of pins s σ H _ us Q I r ⟨p, ys, rfl, .inl ⟨hq, q⟩⟩
end
theorem bt_isinstance : bootBuiltins "isinstance" = some (.builtin "isinstance") := by decide +kernel
theorem bt_abs : bootBuiltins "abs" = some (.builtin "abs") := by decide +kernel
theorem bt_len : bootBuiltins "len" = some (.builtin "len") := by decide +kernel
theorem bt_min : bootBuiltins "min" = some (.builtin "min") := by decide +kernel
theorem bt_max : bootBuiltins "max" = some (.builtin "max") := by decide +kernel
theorem bt_sum : bootBuiltins "sum" = some (.builtin "sum") := by decide +kernel
theorem bt_any : bootBuiltins "any" = some (.builtin "any") := by decide +kernel
theorem bt_all : bootBuiltins "all" = some (.builtin "all") := by decide +kernel
theorem bt_int : bootBuiltins "int" = some (.type "int") := by decide +kernel
theorem bt_bool : bootBuiltins "bool" = some (.type "bool") := by decide +kernel
theorem bt_str : bootBuiltins "str" = some (.type "str") := by decide +kernel
theorem bt_list : bootBuiltins "list" = some (.type "list") := by decide +kernel
theorem bt_tuple : bootBuiltins "tuple" = some (.type "tuple") := by decide +kernel
theorem bt_dict : bootBuiltins "dict" = some (.type "dict") := by decide +kernel

/-! ### a def of the text in one bundle -/
structure Up (K : PySem.W.Frag) (mg : Str → Option Value) (x : Str) (st : Stmt) (ps : List Str) : Prop where
  ex : ∃ (f : Addr) (fd : FuncData), Fun K x x st f fd ∧ mg x = some (.ref f) ∧ Binds K fd ps []
structure Callee (P : Program) (w : World) (K : PySem.W.Frag) (mg : Str → Option Value) (base : Heap) (k : Nat) (x : Str) (ps : List Str) (sp : Sp) : Prop where
  ex : ∃ (f : Addr) (fd : FuncData), FnOk P w K mg base CX0 k f fd ps sp ∧ mg x = some (.ref f) ∧ PySem.W.keepIn K (.ref f) = true ∧ Binds K fd ps []
theorem Callee.of {P : Program} {w : World} {K : PySem.W.Frag} {mg : Str → Option Value} {base : Heap} {x : Str} {st : Stmt} {N ps : List Str} {k : Nat} {sp : Sp} (U : Up K mg x st ps) (S : FnScope N ps (defScope st))
    (len : ∀ vs H Q E, sp vs H Q E → vs.length = ps.length)
    (hbody : ∀ (f : Addr) (cdv : Value) (A : Around) (outer : List Env) (s : Shared) (H : Hp) (vs : List V) (Q : VK) (E : XK), Room k (A.deeper (envOfC x (defScope st) s.heap.objs.size f cdv)) → sp vs H Q E →
      ∃ t, PSs (cxOf CX0 P w K mg base N x (defScope st) f cdv A outer s H E).nox (defBody st) t ∧ t { nx := fun _ H' => Q .non H', rt := Q } (start N vs) H) : Callee P w K mg base (k + 1) x ps sp := by
  obtain ⟨f, fd, F, hm, hb⟩ := U.ex
  exact ⟨f, fd, F.ok S len fun cdv A outer s H vs Q E hr h => hbody f cdv A outer s H vs Q E hr h, hm, F.kp, hb⟩
theorem Callee.mono {P : Program} {w : World} {K : PySem.W.Frag} {mg : Str → Option Value} {base : Heap} {x : Str} {ps : List Str} {j k : Nat} {sp : Sp} (C : Callee P w K mg base j x ps sp) (h : j ≤ k) : Callee P w K mg base k x ps sp := by
  obtain ⟨f, fd, F, r⟩ := C.ex
  exact ⟨f, fd, F.mono h, r⟩
theorem Callee.imp {P : Program} {w : World} {K : PySem.W.Frag} {mg : Str → Option Value} {base : Heap} {x : Str} {ps : List Str} {k : Nat} {sp sp' : Sp} (C : Callee P w K mg base k x ps sp) (h : ∀ vs H Q E, sp' vs H Q E → sp vs H Q E) : Callee P w K mg base k x ps sp' := by
  obtain ⟨f, fd, F, r⟩ := C.ex
  exact ⟨f, fd, F.imp h, r⟩
def tCl (sp : Sp) (t : TA) : TE := fun σ H Q => t σ H fun vs H1 => sp vs H1 Q E0
section
variable {X : Cx} {k : Nat} {ps : List Str} {sp : Sp} {x : Str} {p pos : Pos} {e : Expr} {es : List Expr} {t : TA}
theorem pe_c (C : Callee X.prog X.w X.K X.mg X.base k x ps sp) (hr : Room k X.A) (hg : Gl X x) (ha : PA X (e :: es) t) (hdb : (x == ("__debug__" : Str)) = false := by decide)
    (he : starEach (e :: es) X.env = (false, eval e X.env) :: starEach es X.env := by rfl) (hpl : (backTo pos (starEach es X.env)).any (·.1) = false := by rfl) : PE X (.Call (.Name x p) (e :: es) [] pos) (tCl sp t) := by
  obtain ⟨f, fd, F, hm, hk, hb⟩ := C.ex
  have h := pe_call (p := p) (E := E0) F hr hg hm hk hb .nil pass0 ha hdb he hpl
  intro pins s σ H Q I q
  refine h pins s σ H Q I ?_
  unfold tCl at q
  unfold tCall
  simp only [List.append_nil]
  exact q
theorem pe_c0 (C : Callee X.prog X.w X.K X.mg X.base k x ps sp) (hr : Room k X.A) (hg : Gl X x) (hdb : (x == ("__debug__" : Str)) = false := by decide) : PE X (.Call (.Name x p) [] [] pos) (tCl sp tNil) := by
  obtain ⟨f, fd, F, hm, hk, hb⟩ := C.ex
  have h := pe_call0 (p := p) (pos := pos) (E := E0) F hr hg hm hk hb .nil pass0 hdb
  intro pins s σ H Q I q
  refine h pins s σ H Q I ?_
  unfold tCl at q
  unfold tCall
  simp only [List.append_nil]
  exact q
end

/-! ### a statement, then the rest, by a word between them -/
def tSeqM (t u : TS) : TS := fun D σ H => ∃ M : St → Hp → Prop, t { D with nx := M } σ H ∧ ∀ σ' H', M σ' H' → u D σ' H'
theorem pss_consM {X : Cx} {st : Stmt} {rest : List Stmt} {t u : TS} (h1 : PS X st t) (h2 : PSs X rest u) : PSs X (st :: rest) (tSeqM t u) := by
  intro pins s σ H D I h
  obtain ⟨M, ht, hu⟩ := h
  refine wpAny_execs_cons (thn (h1 pins s σ H _ I ht) fun f s1 q => ?_)
  cases f with
  | next =>
    obtain ⟨σ', H', I', m⟩ := q
    exact h2 pins s1 σ' H' D I' (hu σ' H' m)
  | brk => exact q
  | cont => exact q
  | ret u => exact q
end L2

/-! THE READINGS' RULES: one for each transformer, its head the transformer itself; a reading is walked from the left by them. -/
namespace L2
open PySem PySem.Spec PyProof.Rows
section
variable {t u tb : TS} {n b c : St → Hp → Prop} {r : VK} {σ : St} {H : Hp} {D : Ends} {te ta tb' : TE} {tc td : TT} {g : TG} {Q : VK} {QB : Bool → Hp → Prop} {QA : List V → Hp → Prop} {QS : St → Hp → Prop} {i j : Nat} {v w x y : V} {tA tr : TA}
-- statements
theorem r_seq (h : t ⟨u ⟨n, r, b, c⟩, r, b, c⟩ σ H) : tSeq t u ⟨n, r, b, c⟩ σ H := h
theorem r_seqM (M : St → Hp → Prop) (h : t ⟨M, r, b, c⟩ σ H) (h2 : ∀ σ' H', M σ' H' → u ⟨n, r, b, c⟩ σ' H') : tSeqM t u ⟨n, r, b, c⟩ σ H := ⟨M, h, h2⟩
theorem r_next (h : n σ H) : tNext ⟨n, r, b, c⟩ σ H := h
theorem r_break (h : b σ H) : tBreak ⟨n, r, b, c⟩ σ H := h
theorem r_cont (h : c σ H) : tCont ⟨n, r, b, c⟩ σ H := h
theorem r_asg (h : te σ H fun x H1 => g x σ H1 n) : tAsg te g ⟨n, r, b, c⟩ σ H := h
theorem r_gname (h : QS (σ.set i (some v)) H) : gName i v σ H QS := h
theorem r_gsub {to ti : TE} {ts : TSet} (h : to σ H fun o H1 => ti σ H1 fun i H2 => ts o i v H2 fun H3 => QS σ H3) : gSub to ti ts v σ H QS := h
theorem r_gnil (h : QS σ H) : gNil [] σ H QS := ⟨rfl, h⟩
theorem r_gcons {gs : TGs} {vs : List V} (h : g v σ H fun σ' H' => gs vs σ' H' QS) : gCons g gs (v :: vs) σ H QS := ⟨v, vs, rfl, h⟩
theorem r_gtup {K : PySem.W.Frag} {gs : TGs} {a : Addr} {xs : List V} {k : Nat} (h1 : H a = some (.tup xs)) (h2 : xs.length = k) (h : gs xs σ H QS) : gTup K k gs (.ref a) σ H QS := ⟨a, xs, rfl, SqT.of h1, h2, h⟩
theorem r_drop (h : te σ H fun _ H1 => n σ H1) : tDrop te ⟨n, r, b, c⟩ σ H := h
theorem r_ret (h : te σ H r) : tRet te ⟨n, r, b, c⟩ σ H := h
theorem r_retN (h : r .non H) : tRetN ⟨n, r, b, c⟩ σ H := h
theorem r_ifs (h : tc σ H fun q H1 => if q = true then t D σ H1 else u D σ H1) : tIfS tc t u D σ H := h
theorem r_par (h : tA σ H fun vs H1 => ∃ v w, vs = [v, w] ∧ n ((σ.set i (some v)).set j (some w)) H1) : tPar i j tA ⟨n, r, b, c⟩ σ H := h
theorem r_par2 {P : V → V → Prop} (h : P x y) : ∃ v w, [x, y] = [v, w] ∧ P v w := ⟨x, y, rfl, h⟩
theorem r_aug {ti : TIp} (e : σ[i]? = some (some x)) (h : te σ H fun y H1 => ti x y H1 fun z H2 => n (σ.set i (some z)) H2) : tAug i te ti ⟨n, r, b, c⟩ σ H := ⟨x, e, h⟩
theorem r_ipI {f : Int → Int → Int} {p q : Int} (h : Q (.int (f p q)) H) : ipI f (.int p) (.int q) H Q := ⟨p, q, rfl, rfl, h⟩
theorem r_while (Pv : Nat → St → Hp → Prop) (m : Nat) (h0 : Pv m σ H)
    (hs : ∀ m σ H, Pv m σ H → tc σ H fun q H1 => if q = true then ∃ N : St → Hp → Prop, (∀ σ' H', N σ' H' → ∃ m', m' < m ∧ Pv m' σ' H') ∧ tb ⟨N, r, n, N⟩ σ H1 else n σ H1) : tWhile tc tb ⟨n, r, b, c⟩ σ H := ⟨Pv, ⟨m, h0⟩, hs⟩
-- expressions
theorem r_var (e : σ[i]? = some (some v)) (h : Q v H) : tVar i σ H Q := ⟨v, e, h⟩
theorem r_c (h : Q v H) : tC v σ H Q := h
theorem r_op {o : R2} (h : ta σ H fun x H1 => tb' σ H1 fun y H2 => o x y H2 Q) : tOp o ta tb' σ H Q := h
theorem r_un {o : V → Hp → VK → Prop} (h : ta σ H fun x H1 => o x H1 Q) : tUn o ta σ H Q := h
theorem r_rU {f : Int → V} {p : Int} (h : Q (f p) H) : rU f (.int p) H Q := ⟨p, rfl, h⟩
theorem r_rI0 {f : Int → Int → V} {p q : Int} (h : Q (f p q) H) : rI0 f (.int p) (.int q) H Q := ⟨p, q, rfl, rfl, h⟩
theorem r_rI {C : Int → Int → Prop} {f : Int → Int → V} {p q : Int} (hc : C p q) (h : Q (f p q) H) : rI C f (.int p) (.int q) H Q := ⟨p, q, rfl, rfl, hc, h⟩
theorem r_rEqI {p q : Int} (h : Q (.bl (decide (p = q))) H) : rEq (.int p) (.int q) H Q := ⟨rfl, by
  have e : decide (V.int p = V.int q) = decide (p = q) := by by_cases z : p = q <;> simp [z]
  rw [e]; exact h⟩
theorem r_rNeI {p q : Int} (h : Q (.bl (!decide (p = q))) H) : rNe (.int p) (.int q) H Q := ⟨rfl, by
  have e : decide (V.int p = V.int q) = decide (p = q) := by by_cases z : p = q <;> simp [z]
  rw [e]; exact h⟩
theorem r_rEqB {p q : Bool} (h : Q (.bl (p == q)) H) : rEq (.bl p) (.bl q) H Q := ⟨rfl, by
  have e : decide (V.bl p = V.bl q) = (p == q) := by cases p <;> cases q <;> rfl
  rw [e]; exact h⟩
theorem r_rNeB {p q : Bool} (h : Q (.bl (p != q)) H) : rNe (.bl p) (.bl q) H Q := ⟨rfl, by
  have e : (!decide (V.bl p = V.bl q)) = (p != q) := by cases p <;> cases q <;> rfl
  rw [e]; exact h⟩
theorem r_rEqS {p q : Str} (h : Q (.bl (decide (p = q))) H) : rEq (.str p) (.str q) H Q := ⟨rfl, by
  have e : decide (V.str p = V.str q) = decide (p = q) := by by_cases z : p = q <;> simp [z]
  rw [e]; exact h⟩
theorem r_rNeS {p q : Str} (h : Q (.bl (!decide (p = q))) H) : rNe (.str p) (.str q) H Q := ⟨rfl, by
  have e : decide (V.str p = V.str q) = decide (p = q) := by by_cases z : p = q <;> simp [z]
  rw [e]; exact h⟩
theorem r_test (h : te σ H fun x H' => ∃ k, x = .bl k ∧ QB k H') : tTest te σ H QB := h
theorem r_tB (h : te σ H fun x H' => ∃ k, x = .bl k ∧ QB k H') : tB te σ H QB := h
theorem r_bl {k : Bool} {P : Bool → Prop} (h : P k) : ∃ k', V.bl k = .bl k' ∧ P k' := ⟨k, rfl, h⟩
theorem r_and (h : tc σ H fun q H1 => if q = true then td σ H1 QB else QB false H1) : tAnd tc td σ H QB := h
theorem r_or (h : tc σ H fun q H1 => if q = true then QB true H1 else td σ H1 QB) : tOr tc td σ H QB := h
theorem r_not (h : tc σ H fun q H1 => QB (!q) H1) : tNot tc σ H QB := h
theorem r_andV (h : ta σ H fun x H1 => ∃ q, x = .bl q ∧ if q = true then tb' σ H1 Q else Q (.bl false) H1) : tAndV ta tb' σ H Q := h
theorem r_orV (h : ta σ H fun x H1 => ∃ q, x = .bl q ∧ if q = true then Q (.bl true) H1 else tb' σ H1 Q) : tOrV ta tb' σ H Q := h
theorem r_notV (h : ta σ H fun x H1 => ∃ q, x = .bl q ∧ Q (.bl (!q)) H1) : tNotV ta σ H Q := h
theorem r_ifx (h : tc σ H fun q H1 => if q = true then ta σ H1 Q else tb' σ H1 Q) : tIf tc ta tb' σ H Q := h
theorem r_nil (h : QA [] H) : tNil σ H QA := h
theorem r_cons (h : te σ H fun x H1 => tr σ H1 fun xs H2 => QA (x :: xs) H2) : tCons te tr σ H QA := h
theorem r_tup (h : tA σ H fun xs H1 => xs.length ≤ sizeLine ∧ ∀ p, H1 p = none → Q (.ref p) (upd H1 p (.tup xs))) : tTup tA σ H Q := h
theorem r_lst (h : tA σ H fun xs H1 => xs.length ≤ sizeLine ∧ ∀ p, H1 p = none → Q (.ref p) (upd H1 p (.lst xs))) : tLst tA σ H Q := h
theorem r_cb {o : List V → Hp → VK → Prop} (h : tA σ H fun vs H1 => o vs H1 Q) : tCB o tA σ H Q := h
theorem r_cl {sp : Sp} (h : tA σ H fun vs H1 => sp vs H1 Q E0) : tCl sp tA σ H Q := h
-- built-ins
theorem r_abs {p : Int} (h : Q (.int (if p < 0 then -p else p)) H) : rAbs [.int p] H Q := ⟨p, rfl, h⟩
theorem r_min2 {p q : Int} (h : Q (.int (if q < p then q else p)) H) : rMin2 [.int p, .int q] H Q := ⟨p, q, rfl, h⟩
theorem r_max2 {p q : Int} (h : Q (.int (if q > p then q else p)) H) : rMax2 [.int p, .int q] H Q := ⟨p, q, rfl, h⟩
theorem r_int1 {p : Int} (h : Q (.int p) H) : rInt1 [.int p] H Q := .inl ⟨p, rfl, h⟩
theorem r_int1B {k : Bool} (h : Q (.int (if k then 1 else 0)) H) : rInt1 [.bl k] H Q := .inr ⟨k, rfl, h⟩
theorem r_isi {K : PySem.W.Frag} {s : String} {ty : Value} {k : Bool} (h1 : TyOf K H x ty) (h2 : PySem.W.kitOne K ty (.type s) = some k) (h : Q (.bl k) H) : rIsi K [x, .ty s] H Q := ⟨x, s, ty, k, rfl, h1, h2, h⟩
theorem r_lenL {K : PySem.W.Frag} {p : Addr} {xs : List V} (h1 : H p = some (.lst xs)) (h : Q (.int xs.length) H) : rLen K [.ref p] H Q := ⟨p, xs, rfl, .inl (SqL.of h1), h⟩
theorem r_lenT {K : PySem.W.Frag} {p : Addr} {xs : List V} (h1 : H p = some (.tup xs)) (h : Q (.int xs.length) H) : rLen K [.ref p] H Q := ⟨p, xs, rfl, .inr (SqT.of h1), h⟩
theorem r_listL {K : PySem.W.Frag} {p : Addr} {xs : List V} (h1 : SqL K H p xs) (h : ∀ l, H l = none → Q (.ref l) (upd H l (.lst xs))) : rListOf K [.ref p] H Q := ⟨p, xs, rfl, .inl h1, h⟩
theorem r_listT {K : PySem.W.Frag} {p : Addr} {xs : List V} (h1 : SqT K H p xs) (h : ∀ l, H l = none → Q (.ref l) (upd H l (.lst xs))) : rListOf K [.ref p] H Q := ⟨p, xs, rfl, .inr h1, h⟩
theorem r_tupleL {K : PySem.W.Frag} {p : Addr} {xs : List V} (h1 : H p = some (.lst xs)) (h : ∀ l, H l = none → Q (.ref l) (upd H l (.tup xs))) : rTupleOf K [.ref p] H Q := ⟨p, xs, rfl, SqL.of h1, h⟩
-- items
theorem r_ixL {K : PySem.W.Frag} {p : Addr} {xs : List V} {k : Int} (h1 : H p = some (.lst xs)) (h2 : atI xs k = some v) (h : Q v H) : rIxL K (.ref p) (.int k) H Q := ⟨p, xs, k, v, rfl, rfl, SqL.of h1, h2, h⟩
theorem r_ixT {K : PySem.W.Frag} {p : Addr} {xs : List V} {k : Int} (h1 : H p = some (.tup xs)) (h2 : atI xs k = some v) (h : Q v H) : rIxT K (.ref p) (.int k) H Q := ⟨p, xs, k, v, rfl, rfl, SqT.of h1, h2, h⟩
theorem r_setL {p : Addr} {xs : List V} {k : Int} {QH : Hp → Prop} {m : Nat} (h1 : H p = some (.lst xs)) (h2 : ixN xs.length k = some m) (h : QH (upd H p (.lst (xs.set m v)))) : rSetL (.ref p) (.int k) v H QH := ⟨p, xs, k, m, rfl, rfl, h1, h2, h⟩
theorem r_bmL {K : PySem.W.Frag} {o : V → List V → Hp → VK → Prop} (h : te σ H fun x H1 => tyV K "list" x H1 ∧ tA σ H1 fun xs H2 => o x xs H2 Q) : tBM K "list" o te tA σ H Q := h
theorem r_tyL {K : PySem.W.Frag} {p : Addr} {xs : List V} {R : Prop} (h1 : H p = some (.lst xs)) (h : R) : tyV K "list" (.ref p) H ∧ R := ⟨.inl ⟨rfl, _, SqL.of h1⟩, h⟩
theorem r_append {p : Addr} {xs : List V} (h1 : H p = some (.lst xs)) (h2 : xs.length < sizeLine) (h : Q .non (upd H p (.lst (xs ++ [y])))) : rAppend (.ref p) [y] H Q := ⟨p, xs, y, rfl, rfl, h1, h2, h⟩
-- tests
theorem r_iteD {p A B : Prop} [Decidable p] (h1 : p → A) (h2 : ¬ p → B) : if decide p = true then A else B := ite2 (fun z => h1 (of_decide_eq_true z)) fun z => h2 fun y => z (decide_eq_true y)
theorem r_iteN {p A B : Prop} [Decidable p] (h1 : ¬ p → A) (h2 : p → B) : if (!decide p) = true then A else B := by
  by_cases z : p
  · rw [decide_eq_true z]; exact iteF (h2 z)
  · rw [decide_eq_false z]; exact iteT (h1 z)
theorem r_iteB {k : Bool} {A B : Prop} (h1 : k = true → A) (h2 : k = false → B) : if k = true then A else B := by
  cases k
  · exact iteF (h2 rfl)
  · exact iteT (h1 rfl)
theorem r_iteNB {k : Bool} {A B : Prop} (h1 : k = false → A) (h2 : k = true → B) : if (!k) = true then A else B := by
  cases k
  · exact iteT (h1 rfl)
  · exact iteF (h2 rfl)
theorem r_iteNT {A B : Prop} (h : B) : if (!true) = true then A else B := iteF h
theorem r_iteNF {A B : Prop} (h : A) : if (!false) = true then A else B := iteT h
theorem r_size0 {n : Nat} {R : Prop} (h1 : n ≤ sizeLine) (h : R) : n ≤ sizeLine ∧ R := ⟨h1, h⟩
end
/-! ### loops -/
/-- for .. in range(j), behind the argument -/
def ForR (vs : List V) (g : TG) (tb : TS) (D : Ends) (σ : St) (H : Hp) : Prop := ∃ j : Int, vs = [.int j] ∧ -(2 ^ 62) ≤ j ∧ j < 2 ^ 62 ∧
  ∃ W : Nat → Nat → St → Hp → Prop, (∃ m, W 0 m σ H) ∧ ∀ i m σ H, W i m σ H →
    ((Itr 0 j.toNat).stop i H ∧ D.nx σ H) ∨ ((Itr 0 j.toNat).go i H ∧ ∃ N : St → Hp → Prop, (∀ σ' H', N σ' H' → ∃ m', m' < m ∧ W (i + 1) m' σ' H') ∧ ∀ x H', (Itr 0 j.toNat).yld i H x H' → g x σ H' fun σ2 H2 => tb { D with nx := N, ct := N, bk := D.nx } σ2 H2)
theorem r_forR {tA : TA} {g : TG} {tb : TS} {D : Ends} {σ : St} {H : Hp} (h : tA σ H fun vs H1 => ForR vs g tb D σ H1) : tFor (iRng1 tA) g tb D σ H := h
theorem forR {j : Int} {g : TG} {tb : TS} {n b c : St → Hp → Prop} {r : VK} {σ : St} {H : Hp} (Pv : Nat → St → Hp → Prop) (h1 : -(2 ^ 62) ≤ j) (h2 : j < 2 ^ 62) (h0 : Pv 0 σ H)
    (hs : ∀ (i : Nat) σ H, (i : Int) < j → Pv i σ H → g (.int (i : Int)) σ H fun σ2 H2 => tb ⟨Pv (i + 1), r, n, Pv (i + 1)⟩ σ2 H2) (hd : ∀ σ H, Pv j.toNat σ H → n σ H) : ForR [.int j] g tb ⟨n, r, b, c⟩ σ H := by
  refine ⟨j, rfl, h1, h2, ?_⟩
  refine for_range (lo := 0) (n := j.toNat) (D := ⟨n, r, b, c⟩) Pv h0 (fun i σ H hi p => ?_) hd
  rw [Int.zero_add]
  exact hs i σ H (by omega) p
/-- for .. in a list, behind the list's own expression -/
def ForL (K : PySem.W.Frag) (x : V) (g : TG) (tb : TS) (D : Ends) (σ : St) (H : Hp) : Prop := ∃ a, x = .ref a ∧ (∃ xs, SqL K H a xs) ∧
  ∃ W : Nat → Nat → St → Hp → Prop, (∃ m, W 0 m σ H) ∧ ∀ i m σ H, W i m σ H →
    ((Itl K a).stop i H ∧ D.nx σ H) ∨ ((Itl K a).go i H ∧ ∃ N : St → Hp → Prop, (∀ σ' H', N σ' H' → ∃ m', m' < m ∧ W (i + 1) m' σ' H') ∧ ∀ x H', (Itl K a).yld i H x H' → g x σ H' fun σ2 H2 => tb { D with nx := N, ct := N, bk := D.nx } σ2 H2)
theorem r_forL {K : PySem.W.Frag} {te : TE} {g : TG} {tb : TS} {D : Ends} {σ : St} {H : Hp} (h : te σ H fun x H1 => ForL K x g tb D σ H1) : tFor (iList K te) g tb D σ H := h
theorem forL {K : PySem.W.Frag} {a : Addr} {xs : List V} {g : TG} {tb : TS} {n b c : St → Hp → Prop} {r : VK} {σ : St} {H : Hp} (Pv : Nat → St → Hp → Prop) (h0 : Pv 0 σ H) (hl : ∀ i σ H, i ≤ xs.length → Pv i σ H → SqL K H a xs)
    (hs : ∀ i x σ H, xs[i]? = some x → Pv i σ H → g x σ H fun σ2 H2 => tb ⟨Pv (i + 1), r, n, Pv (i + 1)⟩ σ2 H2) (hd : ∀ σ H, Pv xs.length σ H → n σ H) : ForL K (.ref a) g tb ⟨n, r, b, c⟩ σ H :=
  ⟨a, rfl, ⟨xs, hl 0 σ H (Nat.zero_le _) h0⟩, for_list (D := ⟨n, r, b, c⟩) Pv h0 hl hs hd⟩
def ForT (K : PySem.W.Frag) (x : V) (g : TG) (tb : TS) (D : Ends) (σ : St) (H : Hp) : Prop := ∃ a, x = .ref a ∧ (∃ xs, SqT K H a xs) ∧
  ∃ W : Nat → Nat → St → Hp → Prop, (∃ m, W 0 m σ H) ∧ ∀ i m σ H, W i m σ H →
    ((Itt K a).stop i H ∧ D.nx σ H) ∨ ((Itt K a).go i H ∧ ∃ N : St → Hp → Prop, (∀ σ' H', N σ' H' → ∃ m', m' < m ∧ W (i + 1) m' σ' H') ∧ ∀ x H', (Itt K a).yld i H x H' → g x σ H' fun σ2 H2 => tb { D with nx := N, ct := N, bk := D.nx } σ2 H2)
theorem r_forT {K : PySem.W.Frag} {te : TE} {g : TG} {tb : TS} {D : Ends} {σ : St} {H : Hp} (h : te σ H fun x H1 => ForT K x g tb D σ H1) : tFor (iTup K te) g tb D σ H := h
theorem forT {K : PySem.W.Frag} {a : Addr} {xs : List V} {g : TG} {tb : TS} {n b c : St → Hp → Prop} {r : VK} {σ : St} {H : Hp} (Pv : Nat → St → Hp → Prop) (h0 : Pv 0 σ H) (hl : ∀ i σ H, i ≤ xs.length → Pv i σ H → SqT K H a xs)
    (hs : ∀ i x σ H, xs[i]? = some x → Pv i σ H → g x σ H fun σ2 H2 => tb ⟨Pv (i + 1), r, n, Pv (i + 1)⟩ σ2 H2) (hd : ∀ σ H, Pv xs.length σ H → n σ H) : ForT K (.ref a) g tb ⟨n, r, b, c⟩ σ H :=
  ⟨a, rfl, ⟨xs, hl 0 σ H (Nat.zero_le _) h0⟩, for_tup (D := ⟨n, r, b, c⟩) Pv h0 hl hs hd⟩

/-! ### what a call leaves: all that was tracked but d -/
def Fr1 (d : Addr) (H H' : Hp) : Prop := ∀ b o, H b = some o → b ≠ d → H' b = some o
theorem Fr1.refl (d : Addr) (H : Hp) : Fr1 d H H := fun _ _ h _ => h
theorem Fr1.trans {d : Addr} {H H1 H2 : Hp} (a : Fr1 d H H1) (b : Fr1 d H1 H2) : Fr1 d H H2 := fun c o h n => b c o (a c o h n) n
theorem Fr1.upd {d : Addr} {H H' : Hp} {o : HO} (a : Fr1 d H H') : Fr1 d H (upd H' d o) := fun b u h n => by rw [upd_ne n]; exact a b u h n
theorem Fr1.new {d p : Addr} {H H' : Hp} {o : HO} (a : Fr1 d H H') (e : H' p = none) : Fr1 d H (L2.upd H' p o) := fun b u h n => by rw [upd_ne (ne_of_none (a b u h n) e)]; exact a b u h n
theorem Fr1.get {d b : Addr} {H H' : Hp} {o : HO} (a : Fr1 d H H') (h : H b = some o) (n : b ≠ d) : H' b = some o := a b o h n
theorem Same.get {H H' : Hp} {b : Addr} {o : HO} (a : Same H H') (h : H b = some o) : H' b = some o := a b o h
theorem Same.new {H H' : Hp} {p : Addr} {o : HO} (a : Same H H') (e : H' p = none) : Same H (upd H' p o) := fun b u h => by rw [upd_ne (ne_of_none (a b u h) e)]; exact a b u h
theorem Same.fr1 {d : Addr} {H H' : Hp} (a : Same H H') : Fr1 d H H' := fun b o h _ => a b o h
theorem upd_get {H : Hp} {a b : Addr} {o u : HO} (n : b ≠ a) (h : H b = some u) : upd H a o b = some u := by rw [upd_ne n]; exact h
end L2

/-! == and != at any depth, over data without the heap; operations by the kinds of their values. -/
namespace L2
open PySem PySem.Spec PyProof.Rows

/-- data: a flat value, a tuple, a list -/
inductive D where
  | v (x : V)
  | t (ds : List D)
  | l (ds : List D)
mutual
def IsD (K : PySem.W.Frag) (H : Hp) : D → V → Prop
  | .v x, y => flatV x = true ∧ y = x
  | .t ds, y => ∃ p xs, y = .ref p ∧ SqT K H p xs ∧ IsDs K H ds xs
  | .l ds, y => ∃ p xs, y = .ref p ∧ SqL K H p xs ∧ IsDs K H ds xs
def IsDs (K : PySem.W.Frag) (H : Hp) : List D → List V → Prop
  | [], xs => xs = []
  | d :: ds, xs => ∃ x r, xs = x :: r ∧ IsD K H d x ∧ IsDs K H ds r
end
mutual
def eqD : D → D → Bool
  | .v a, .v b => eqV a b
  | .t as, .t bs => eqDs as bs
  | .l as, .l bs => eqDs as bs
  | _, _ => false
def eqDs : List D → List D → Bool
  | [], [] => true
  | a :: as, b :: bs => eqD a b && eqDs as bs
  | _, _ => false
end
mutual
def dep : D → Nat
  | .v _ => 0
  | .t ds => deps ds + 1
  | .l ds => deps ds + 1
def deps : List D → Nat
  | [] => 0
  | d :: ds => max (dep d) (deps ds)
end
theorem IsDs.length {K : PySem.W.Frag} {H : Hp} : ∀ {ds : List D} {xs : List V}, IsDs K H ds xs → ds.length = xs.length
  | [], xs, h => by unfold IsDs at h; subst h; rfl
  | d :: ds, xs, h => by
    unfold IsDs at h
    obtain ⟨x, r, rfl, _, h2⟩ := h
    rw [List.length_cons, List.length_cons, IsDs.length h2]
theorem IsDs.get {K : PySem.W.Frag} {H : Hp} : ∀ {ds : List D} {xs : List V} {j : Nat} {x : V}, IsDs K H ds xs → xs[j]? = some x → ∃ d, ds[j]? = some d ∧ IsD K H d x
  | [], xs, j, x, h, e => by unfold IsDs at h; subst h; simp at e
  | d :: ds, xs, j, x, h, e => by
    unfold IsDs at h
    obtain ⟨y, r, rfl, h1, h2⟩ := h
    cases j with
    | zero => simp at e; subst e; exact ⟨d, by simp, h1⟩
    | succ j => obtain ⟨d', q, h3⟩ := IsDs.get (j := j) (x := x) h2 (by simpa using e); exact ⟨d', by simpa using q, h3⟩
theorem dep_le_deps : ∀ {ds : List D} {j : Nat} {d : D}, ds[j]? = some d → dep d ≤ deps ds
  | [], j, d, e => by simp at e
  | a :: ds, 0, d, e => by simp at e; subst e; unfold deps; exact Nat.le_max_left _ _
  | a :: ds, j + 1, d, e => by
    have := dep_le_deps (ds := ds) (j := j) (d := d) (by simpa using e)
    unfold deps
    exact Nat.le_trans this (Nat.le_max_right _ _)
/-- the items' answer at a place -/
def eqAtJ (ds es : List D) (j : Nat) : Bool := match ds[j]?, es[j]? with
  | some d, some e => eqD d e
  | _, _ => false
theorem eqDs_range : ∀ (ds es : List D), ds.length = es.length → (List.range ds.length).all (eqAtJ ds es) = eqDs ds es
  | [], [], _ => by simp [eqDs]
  | [], _ :: _, h => by simp at h
  | _ :: _, [], h => by simp at h
  | d :: ds, e :: es, h => by
    have ih := eqDs_range ds es (by simpa using h)
    unfold eqDs
    rw [← ih, List.length_cons, List.range_succ_eq_map, List.all_cons, List.all_map]
    have e1 : eqAtJ (d :: ds) (e :: es) 0 = eqD d e := by simp [eqAtJ]
    rw [e1]
    congr 1
theorem eqDs_len : ∀ (ds es : List D), ds.length ≠ es.length → eqDs ds es = false
  | [], [], h => absurd rfl h
  | [], _ :: _, _ => by simp [eqDs]
  | _ :: _, [], _ => by simp [eqDs]
  | d :: ds, e :: es, h => by
    unfold eqDs
    rw [eqDs_len ds es (by simpa using h), Bool.and_false]
theorem eqV_refl {x : V} (h : flatV x = true) : eqV x x = true := by
  cases x <;> simp [eqV] <;> cases h
mutual
theorem eqD_refl {K : PySem.W.Frag} {H : Hp} : ∀ {d : D} {x : V}, IsD K H d x → eqD d d = true
  | .v y, x, h => by unfold IsD at h; unfold eqD; exact eqV_refl h.1
  | .t ds, x, h => by unfold IsD at h; obtain ⟨p, xs, _, _, h⟩ := h; unfold eqD; exact eqDs_refl h
  | .l ds, x, h => by unfold IsD at h; obtain ⟨p, xs, _, _, h⟩ := h; unfold eqD; exact eqDs_refl h
theorem eqDs_refl {K : PySem.W.Frag} {H : Hp} : ∀ {ds : List D} {xs : List V}, IsDs K H ds xs → eqDs ds ds = true
  | [], _, _ => by unfold eqDs; rfl
  | d :: ds, xs, h => by
    unfold IsDs at h
    obtain ⟨x, r, _, h1, h2⟩ := h
    unfold eqDs
    rw [eqD_refl h1, eqDs_refl h2]; rfl
end
section
variable {X : Cx} {pins : List (Addr × Obj)} {σ : St} {H : Hp} {s : Shared}
theorem list_not_tuple {a : Addr} {xs ys : List V} (I : Inv X pins σ H s) (h : SqL X.K H a xs) (h' : SqT X.K H a ys) : False := by
  obtain ⟨_, _, ⟨o, n, e, c, _⟩, _⟩ := I.list h
  obtain ⟨_, _, ⟨o', e', c', _⟩, _⟩ := I.tuple h'
  rw [e] at e'; cases e'
  rw [c] at c'
  injection c' with c'
  exact absurd c' (by decide)
mutual
theorem isD_inj (I : Inv X pins σ H s) : ∀ {d e : D} {x : V}, IsD X.K H d x → IsD X.K H e x → d = e
  | .v y, e, x, h, h' => by
    unfold IsD at h
    obtain ⟨f, rfl⟩ := h
    cases e with
    | v z => unfold IsD at h'; rw [h'.2]
    | t es => unfold IsD at h'; obtain ⟨p, _, rfl, _⟩ := h'; cases f
    | l es => unfold IsD at h'; obtain ⟨p, _, rfl, _⟩ := h'; cases f
  | .t ds, e, x, h, h' => by
    unfold IsD at h
    obtain ⟨p, xs, rfl, hs, hd⟩ := h
    cases e with
    | v z => unfold IsD at h'; obtain ⟨f, q⟩ := h'; subst q; cases f
    | t es =>
      unfold IsD at h'
      obtain ⟨p', xs', q, hs', hd'⟩ := h'
      cases q
      have := I.tuple_inj hs hs'
      subst this
      rw [isDs_inj I hd hd']
    | l es =>
      unfold IsD at h'
      obtain ⟨p', xs', q, hs', hd'⟩ := h'
      cases q
      exact (list_not_tuple I hs' hs).elim
  | .l ds, e, x, h, h' => by
    unfold IsD at h
    obtain ⟨p, xs, rfl, hs, hd⟩ := h
    cases e with
    | v z => unfold IsD at h'; obtain ⟨f, q⟩ := h'; subst q; cases f
    | t es =>
      unfold IsD at h'
      obtain ⟨p', xs', q, hs', hd'⟩ := h'
      cases q
      exact (list_not_tuple I hs hs').elim
    | l es =>
      unfold IsD at h'
      obtain ⟨p', xs', q, hs', hd'⟩ := h'
      cases q
      have := I.list_inj hs hs'
      subst this
      rw [isDs_inj I hd hd']
theorem isDs_inj (I : Inv X pins σ H s) : ∀ {ds es : List D} {xs : List V}, IsDs X.K H ds xs → IsDs X.K H es xs → ds = es
  | [], es, xs, h, h' => by
    unfold IsDs at h
    subst h
    cases es with
    | nil => rfl
    | cons e es => unfold IsDs at h'; obtain ⟨x, r, q, _⟩ := h'; cases q
  | d :: ds, es, xs, h, h' => by
    unfold IsDs at h
    obtain ⟨x, r, rfl, h1, h2⟩ := h
    cases es with
    | nil => unfold IsDs at h'; cases h'
    | cons e es =>
      unfold IsDs at h'
      obtain ⟨x', r', q, h3, h4⟩ := h'
      cases q
      rw [isD_inj I h1 h3, isDs_inj I h2 h4]
end
/-- the items' answers in the heap -/
theorem eq_items {A : Around} {ds es : List D} {xs ys : List V} {us vs : List Value} (hd : IsDs X.K H ds xs) (he : IsDs X.K H es ys) (rx : Vals xs us) (ry : Vals ys vs)
    (ih : ∀ d e x y u v, dep d ≤ deps ds → IsD X.K H d x → IsD X.K H e y → RelV x u → RelV y v → SeqAt.EqAt A s u v (eqD d e)) :
    ∀ j (h1 : j < us.toArray.size) (h2 : j < vs.toArray.size), SeqAt.EqAt A s us.toArray[j] vs.toArray[j] (eqAtJ ds es j) := by
  intro j h1 h2
  have h1' : j < us.length := by simpa using h1
  have h2' : j < vs.length := by simpa using h2
  obtain ⟨x, ex⟩ : ∃ x, xs[j]? = some x := ⟨xs[j]'(by rw [rx.length]; exact h1'), List.getElem?_eq_getElem _⟩
  obtain ⟨y, ey⟩ : ∃ y, ys[j]? = some y := ⟨ys[j]'(by rw [ry.length]; exact h2'), List.getElem?_eq_getElem _⟩
  obtain ⟨u, eu, ru⟩ := rx.get ex
  obtain ⟨v, ev, rv⟩ := ry.get ey
  obtain ⟨d, ed, id1⟩ := hd.get ex
  obtain ⟨e, ee, id2⟩ := he.get ey
  have q1 : us.toArray[j] = u := by
    rw [List.getElem?_eq_getElem h1'] at eu
    simpa using Option.some.inj eu
  have q2 : vs.toArray[j] = v := by
    rw [List.getElem?_eq_getElem h2'] at ev
    simpa using Option.some.inj ev
  rw [q1, q2]
  have q3 : eqAtJ ds es j = eqD d e := by unfold eqAtJ; rw [ed, ee]
  rw [q3]
  exact ih d e x y u v (dep_le_deps ed) id1 id2 ru rv
theorem rc_lists {A : Around} {ds es : List D} {xs ys : List V} {p q : Addr} (I : Inv X pins σ H s) (hp : SqL X.K H p xs) (hq : SqL X.K H q ys) (hd : IsDs X.K H ds xs) (he : IsDs X.K H es ys) (hu : A.units < cLine)
    (ih : ∀ d e x y u v, dep d ≤ deps ds → IsD X.K H d x → IsD X.K H e y → RelV x u → RelV y v → SeqAt.EqAt A.in1 s u v (eqD d e)) : SeqAt.RcAt A s (.ref p) (.ref q) (eqDs ds es) ∧ SeqAt.RcNeAt A s (.ref p) (.ref q) (!eqDs ds es) := by
  obtain ⟨us, rx, lp, _⟩ := I.list hp
  obtain ⟨vs, ry, lq, _⟩ := I.list hq
  have l1 := hd.length
  have l2 := he.length
  have l3 := rx.length
  have l4 := ry.length
  by_cases hl : ds.length = es.length
  · have it := eq_items (A := A.in1) hd he rx ry ih
    have sz : us.toArray.size = vs.toArray.size := by simp only [List.size_toArray]; omega
    have e1 : (List.range us.toArray.size).all (eqAtJ ds es) = eqDs ds es := by
      have : us.toArray.size = ds.length := by simp only [List.size_toArray]; omega
      rw [this]; exact eqDs_range ds es hl
    have a := SeqAt.RcAt.lists lp.isList lq.isList sz hu it
    have b := SeqAt.RcNeAt.lists lp.isList lq.isList sz hu it
    rw [e1] at a b
    exact ⟨a, b⟩
  · have sz : (us.toArray.size != vs.toArray.size) = true := by
      simp only [List.size_toArray, bne_iff_ne, ne_eq]; omega
    rw [eqDs_len ds es hl]
    exact ⟨SeqAt.RcAt.lists_lengths lp.isList lq.isList sz hu, SeqAt.RcNeAt.lists_lengths lp.isList lq.isList sz hu⟩
theorem rc_tuples {A : Around} {ds es : List D} {xs ys : List V} {p q : Addr} (I : Inv X pins σ H s) (hp : SqT X.K H p xs) (hq : SqT X.K H q ys) (hd : IsDs X.K H ds xs) (he : IsDs X.K H es ys) (hu : A.units < cLine)
    (ih : ∀ d e x y u v, dep d ≤ deps ds → IsD X.K H d x → IsD X.K H e y → RelV x u → RelV y v → SeqAt.EqAt A.in1 s u v (eqD d e)) : SeqAt.RcAt A s (.ref p) (.ref q) (eqDs ds es) ∧ SeqAt.RcNeAt A s (.ref p) (.ref q) (!eqDs ds es) := by
  obtain ⟨us, rx, lp, _⟩ := I.tuple hp
  obtain ⟨vs, ry, lq, _⟩ := I.tuple hq
  have l1 := hd.length
  have l2 := he.length
  have l3 := rx.length
  have l4 := ry.length
  have it := eq_items (A := A.in1) hd he rx ry ih
  have a := SeqAt.RcAt.tuples (A := A) (s := s) lp lq hu it
  have b := SeqAt.RcNeAt.tuples (A := A) (s := s) lp lq hu it
  have e1 : ((List.range (min us.toArray.size vs.toArray.size)).all (eqAtJ ds es) && us.toArray.size == vs.toArray.size) = eqDs ds es := by
    by_cases hl : ds.length = es.length
    · have q1 : min us.toArray.size vs.toArray.size = ds.length := by simp only [List.size_toArray]; omega
      have q2 : (us.toArray.size == vs.toArray.size) = true := by simp only [List.size_toArray, beq_iff_eq]; omega
      rw [q1, q2, Bool.and_true]
      exact eqDs_range ds es hl
    · have q2 : (us.toArray.size == vs.toArray.size) = false := by simp only [List.size_toArray, beq_eq_false_iff_ne, ne_eq]; omega
      rw [q2, Bool.and_false, eqDs_len ds es hl]
  rw [e1] at a b
  exact ⟨a, b⟩
/-- flat values: == and != -/
theorem rc_flat {A : Around} {y x : V} {u v : Value} (ry : RelV y u) (rx : RelV x v) (fy : flatV y = true) (fx : flatV x = true) : SeqAt.RcAt A s u v (eqV y x) ∧ SeqAt.RcNeAt A s u v (!eqV y x) := by
  cases y with
  | non =>
    cases ry
    cases x with
    | non => cases rx; exact ⟨SeqAt.RcAt.none_none, SeqAt.RcNeAt.none_none⟩
    | bl b => cases rx; exact ⟨SeqAt.RcAt.none_bool b, SeqAt.RcNeAt.none_bool b⟩
    | int b => obtain ⟨t, rfl⟩ := rx; exact ⟨SeqAt.RcAt.none_int b t, SeqAt.RcNeAt.none_int b t⟩
    | str b => obtain ⟨t, rfl⟩ := rx; exact ⟨SeqAt.RcAt.none_str b t, SeqAt.RcNeAt.none_str b t⟩
    | _ => exact absurd (show false = true from fx) Bool.false_ne_true
  | bl a =>
    cases ry
    cases x with
    | non => cases rx; exact ⟨SeqAt.RcAt.bool_none a, SeqAt.RcNeAt.bool_none a⟩
    | bl b => cases rx; exact ⟨SeqAt.RcAt.bool_bool a b, SeqAt.RcNeAt.bool_bool a b⟩
    | int b => obtain ⟨t, rfl⟩ := rx; exact ⟨SeqAt.RcAt.bool_int a b t, SeqAt.RcNeAt.bool_int a b t⟩
    | str b => obtain ⟨t, rfl⟩ := rx; exact ⟨SeqAt.RcAt.bool_str a b t, SeqAt.RcNeAt.bool_str a b t⟩
    | _ => exact absurd (show false = true from fx) Bool.false_ne_true
  | int a =>
    obtain ⟨t', rfl⟩ := ry
    cases x with
    | non => cases rx; exact ⟨SeqAt.RcAt.int_none a t', SeqAt.RcNeAt.int_none a t'⟩
    | bl b => cases rx; exact ⟨SeqAt.RcAt.int_bool a t' b, SeqAt.RcNeAt.int_bool a t' b⟩
    | int b => obtain ⟨t, rfl⟩ := rx; exact ⟨SeqAt.RcAt.int_int a t' b t, SeqAt.RcNeAt.int_int a t' b t⟩
    | str b => obtain ⟨t, rfl⟩ := rx; exact ⟨SeqAt.RcAt.int_str a t' b t, SeqAt.RcNeAt.int_str a t' b t⟩
    | _ => exact absurd (show false = true from fx) Bool.false_ne_true
  | str a =>
    obtain ⟨t', rfl⟩ := ry
    cases x with
    | non => cases rx; exact ⟨SeqAt.RcAt.str_none a t', SeqAt.RcNeAt.str_none a t'⟩
    | bl b => cases rx; exact ⟨SeqAt.RcAt.str_bool a t' b, SeqAt.RcNeAt.str_bool a t' b⟩
    | int b => obtain ⟨t, rfl⟩ := rx; exact ⟨SeqAt.RcAt.str_int a t' b t, SeqAt.RcNeAt.str_int a t' b t⟩
    | str b => obtain ⟨t, rfl⟩ := rx; exact ⟨SeqAt.RcAt.str_str a t' b t, SeqAt.RcNeAt.str_str a t' b t⟩
    | _ => exact absurd (show false = true from fx) Bool.false_ne_true
  | _ => exact absurd (show false = true from fy) Bool.false_ne_true
theorem eq_tuple_flat {A : Around} {p : Addr} {xs : List V} {x : V} {v : Value} (I : Inv X pins σ H s) (hp : SqT X.K H p xs) (rx : RelV x v) (fx : flatV x = true) (hu : A.units < cLine) : SeqAt.EqAt A s (.ref p) v false ∧ SeqAt.EqAt A s v (.ref p) false := by
  obtain ⟨us, _, lp, _⟩ := I.tuple hp
  cases x with
  | non => cases rx; exact ⟨SeqAt.EqAt.tuple_none lp hu, SeqAt.EqAt.none_tuple lp hu⟩
  | bl b => cases rx; exact ⟨SeqAt.EqAt.tuple_bool b lp hu, SeqAt.EqAt.bool_tuple b lp hu⟩
  | int b => obtain ⟨t, rfl⟩ := rx; exact ⟨SeqAt.EqAt.tuple_int b t lp hu, SeqAt.EqAt.int_tuple b t lp hu⟩
  | str b => obtain ⟨t, rfl⟩ := rx; exact ⟨SeqAt.EqAt.tuple_str b t lp hu, SeqAt.EqAt.str_tuple b t lp hu⟩
  | _ => exact absurd (show false = true from fx) Bool.false_ne_true
theorem eq_list_flat {A : Around} {p : Addr} {xs : List V} {x : V} {v : Value} (I : Inv X pins σ H s) (hp : SqL X.K H p xs) (rx : RelV x v) (fx : flatV x = true) (hu : A.units < cLine) : SeqAt.EqAt A s (.ref p) v false ∧ SeqAt.EqAt A s v (.ref p) false := by
  obtain ⟨us, _, lp, _⟩ := I.list hp
  cases x with
  | non => cases rx; exact ⟨SeqAt.EqAt.list_none lp.isList hu, SeqAt.EqAt.none_list lp.isList hu⟩
  | bl b => cases rx; exact ⟨SeqAt.EqAt.list_bool b lp.isList hu, SeqAt.EqAt.bool_list b lp.isList hu⟩
  | int b => obtain ⟨t, rfl⟩ := rx; exact ⟨SeqAt.EqAt.list_int b t lp.isList hu, SeqAt.EqAt.int_list b t lp.isList hu⟩
  | str b => obtain ⟨t, rfl⟩ := rx; exact ⟨SeqAt.EqAt.list_str b t lp.isList hu, SeqAt.EqAt.str_list b t lp.isList hu⟩
  | _ => exact absurd (show false = true from fx) Bool.false_ne_true
theorem eqAt_D (I : Inv X pins σ H s) : ∀ (n : Nat) (d e : D) (x y : V) (u v : Value) (A : Around), dep d ≤ n → A.units + n < cLine → IsD X.K H d x → IsD X.K H e y → RelV x u → RelV y v → SeqAt.EqAt A s u v (eqD d e) := by
  intro n
  induction n with
  | zero =>
    intro d e x y u v A hn hu h h' ru rv
    cases d with
    | t ds => unfold dep at hn; omega
    | l ds => unfold dep at hn; omega
    | v x' =>
      unfold IsD at h
      obtain ⟨fx, rfl⟩ := h
      cases e with
      | v y' => unfold IsD at h'; obtain ⟨fy, rfl⟩ := h'; unfold eqD; exact eqAt_V ru rv fx fy
      | t es => unfold IsD at h'; obtain ⟨p, ys, rfl, hs, _⟩ := h'; cases rv; unfold eqD; exact (eq_tuple_flat I hs ru fx (by omega)).2
      | l es => unfold IsD at h'; obtain ⟨p, ys, rfl, hs, _⟩ := h'; cases rv; unfold eqD; exact (eq_list_flat I hs ru fx (by omega)).2
  | succ n ihn =>
    intro d e x y u v A hn hu h h' ru rv
    have hin : A.in1.units = A.units + 1 := rfl
    cases d with
    | v x' =>
      unfold IsD at h
      obtain ⟨fx, rfl⟩ := h
      cases e with
      | v y' => unfold IsD at h'; obtain ⟨fy, rfl⟩ := h'; unfold eqD; exact eqAt_V ru rv fx fy
      | t es => unfold IsD at h'; obtain ⟨p, ys, rfl, hs, _⟩ := h'; cases rv; unfold eqD; exact (eq_tuple_flat I hs ru fx (by omega)).2
      | l es => unfold IsD at h'; obtain ⟨p, ys, rfl, hs, _⟩ := h'; cases rv; unfold eqD; exact (eq_list_flat I hs ru fx (by omega)).2
    | t ds =>
      have hd0 := h
      unfold IsD at h
      obtain ⟨p, xs, rfl, hs, hd⟩ := h
      cases ru
      unfold dep at hn
      cases e with
      | v y' => unfold IsD at h'; obtain ⟨fy, rfl⟩ := h'; unfold eqD; exact (eq_tuple_flat I hs rv fy (by omega)).1
      | t es =>
        have hd0' := h'
        unfold IsD at h'
        obtain ⟨q, ys, rfl, hs', hd'⟩ := h'
        cases rv
        unfold eqD
        by_cases hpq : p = q
        · subst hpq
          have e1 := isD_inj I hd0 hd0'
          injection e1 with e1
          subst e1
          rw [eqDs_refl hd]
          exact SeqAt.EqAt.same _
        · exact .of_refs hpq (rc_tuples I hs hs' hd hd' (by omega) fun d e x y u v hj h1 h2 r1 r2 => ihn d e x y u v A.in1 (by omega) (by omega) h1 h2 r1 r2).1
      | l es =>
        unfold IsD at h'
        obtain ⟨q, ys, rfl, hs', hd'⟩ := h'
        cases rv
        unfold eqD
        obtain ⟨_, _, lp, _⟩ := I.tuple hs
        obtain ⟨_, _, lq, _⟩ := I.list hs'
        exact SeqAt.EqAt.tuple_list lp lq.isList (by omega)
    | l ds =>
      have hd0 := h
      unfold IsD at h
      obtain ⟨p, xs, rfl, hs, hd⟩ := h
      cases ru
      unfold dep at hn
      cases e with
      | v y' => unfold IsD at h'; obtain ⟨fy, rfl⟩ := h'; unfold eqD; exact (eq_list_flat I hs rv fy (by omega)).1
      | l es =>
        have hd0' := h'
        unfold IsD at h'
        obtain ⟨q, ys, rfl, hs', hd'⟩ := h'
        cases rv
        unfold eqD
        by_cases hpq : p = q
        · subst hpq
          have e1 := isD_inj I hd0 hd0'
          injection e1 with e1
          subst e1
          rw [eqDs_refl hd]
          exact SeqAt.EqAt.same _
        · exact .of_refs hpq (rc_lists I hs hs' hd hd' (by omega) fun d e x y u v hj h1 h2 r1 r2 => ihn d e x y u v A.in1 (by omega) (by omega) h1 h2 r1 r2).1
      | t es =>
        unfold IsD at h'
        obtain ⟨q, ys, rfl, hs', hd'⟩ := h'
        cases rv
        unfold eqD
        obtain ⟨_, _, lp, _⟩ := I.list hs
        obtain ⟨_, _, lq, _⟩ := I.tuple hs'
        exact SeqAt.EqAt.list_tuple lp.isList lq (by omega)
/-- two lists, two tuples, two flat values -/
def sameK : D → D → Bool
  | .v _, .v _ => true
  | .t _, .t _ => true
  | .l _, .l _ => true
  | _, _ => false
def rEqD (K : PySem.W.Frag) (neg : Bool) : R2 := fun x y H Q => ∃ d e, sameK d e = true ∧ dep d ≤ 40 ∧ IsD K H d x ∧ IsD K H e y ∧ Q (.bl (if neg then !eqD d e else eqD d e)) H
theorem rc_D (I : Inv X pins σ H s) {d e : D} {x y : V} {u v : Value} {A : Around} (hk : sameK d e = true) (hn : dep d ≤ 40) (hu : A.units + 64 < cLine) (h : IsD X.K H d x) (h' : IsD X.K H e y) (ru : RelV x u) (rv : RelV y v) :
    SeqAt.RcAt A s u v (eqD d e) ∧ SeqAt.RcNeAt A s u v (!eqD d e) := by
  have hin : A.in1.units = A.units + 1 := rfl
  cases d with
  | v x' =>
    cases e with
    | v y' => unfold IsD at h h'; obtain ⟨fx, rfl⟩ := h; obtain ⟨fy, rfl⟩ := h'; unfold eqD; exact rc_flat ru rv fx fy
    | t es => cases hk
    | l es => cases hk
  | t ds =>
    cases e with
    | v y' => cases hk
    | l es => cases hk
    | t es =>
      unfold IsD at h h'
      obtain ⟨p, xs, rfl, hs, hd⟩ := h
      obtain ⟨q, ys, rfl, hs', hd'⟩ := h'
      cases ru
      cases rv
      unfold dep at hn
      unfold eqD
      exact rc_tuples I hs hs' hd hd' (by omega) fun d e x y u v hj h1 h2 r1 r2 => eqAt_D I 40 d e x y u v A.in1 (by omega) (by omega) h1 h2 r1 r2
  | l ds =>
    cases e with
    | v y' => cases hk
    | t es => cases hk
    | l es =>
      unfold IsD at h h'
      obtain ⟨p, xs, rfl, hs, hd⟩ := h
      obtain ⟨q, ys, rfl, hs', hd'⟩ := h'
      cases ru
      cases rv
      unfold dep at hn
      unfold eqD
      exact rc_lists I hs hs' hd hd' (by omega) fun d e x y u v hj h1 h2 r1 r2 => eqAt_D I 40 d e x y u v A.in1 (by omega) (by omega) h1 h2 r1 r2
end
section
variable {X : Cx}
theorem op_eqD (hu : X.A.units + 64 < cLine) : OpR X (compareOp .Eq) (rEqD X.K false) := by
  intro pins s σ H x y v u Q I rx ry h
  obtain ⟨d, e, hk, hn, h1, h2, q⟩ := h
  exact (rc_D I hk hn hu h1 h2 rx ry).1 _ _ _ _ ⟨.bl (eqD d e), H, I, rfl, q⟩
theorem op_neD (hu : X.A.units + 64 < cLine) : OpR X (compareOp .NotEq) (rEqD X.K true) := by
  intro pins s σ H x y v u Q I rx ry h
  obtain ⟨d, e, hk, hn, h1, h2, q⟩ := h
  exact (rc_D I hk hn hu h1 h2 rx ry).2 _ _ _ _ ⟨.bl (!eqD d e), H, I, rfl, q⟩
/-- + by kinds -/
def rAddA (K : PySem.W.Frag) : R2 := fun x y H Q => rI0 (fun i j => .int (i + j)) x y H Q ∨ rCat x y H Q ∨ rCatT K x y H Q ∨ (∃ i j, x = .str i ∧ y = .str j ∧ i.length + j.length ≤ sizeLine ∧ Q (.str (i ++ j)) H)
theorem op_addA : OpR X (binaryOp .Add) (rAddA X.K) := op_add.or (op_cat.or (op_catT.or op_add_str))
def rMulA : R2 := fun x y H Q => rI CMulB (fun i j => .int (i * j)) x y H Q ∨ rRep x y H Q
theorem op_mulA : OpR X (binaryOp .Mult) rMulA := op_mulB.or op_rep
def rEqA (K : PySem.W.Frag) : R2 := fun x y H Q => rEq x y H Q ∨ rEqD K false x y H Q
theorem op_eqA (hu : X.A.units + 64 < cLine) : OpR X (compareOp .Eq) (rEqA X.K) := op_eq.or (op_eqD hu)
def rNeA (K : PySem.W.Frag) : R2 := fun x y H Q => rNe x y H Q ∨ rEqD K true x y H Q
theorem op_neA (hu : X.A.units + 64 < cLine) : OpR X (compareOp .NotEq) (rNeA X.K) := op_ne.or (op_neD hu)
/-- an item of a list or a tuple -/
def rIx2 (K : PySem.W.Frag) : R2 := fun x y H Q => rIxL K x y H Q ∨ rIxT K x y H Q
theorem ix_2 : IxR X (rIx2 X.K) := ix_list.or ix_tup
end
section
variable {K : PySem.W.Frag} {H : Hp} {Q : VK} {v : V}
theorem r_addI {p q : Int} (h : Q (.int (p + q)) H) : rAddA K (.int p) (.int q) H Q := .inl (r_rI0 h)
theorem r_addL {a b : Addr} {xs ys : List V} (h1 : H a = some (.lst xs)) (h2 : H b = some (.lst ys)) (h3 : xs.length + ys.length ≤ sizeLine) (h : ∀ p, H p = none → Q (.ref p) (upd H p (.lst (xs ++ ys)))) : rAddA K (.ref a) (.ref b) H Q := .inr (.inl ⟨a, b, xs, ys, rfl, rfl, h1, h2, h3, h⟩)
theorem r_mulI {p q : Int} (hc : CMulB p q) (h : Q (.int (p * q)) H) : rMulA (.int p) (.int q) H Q := .inl (r_rI hc h)
theorem r_eqI {p q : Int} (h : Q (.bl (decide (p = q))) H) : rEqA K (.int p) (.int q) H Q := .inl (r_rEqI h)
theorem r_neI {p q : Int} (h : Q (.bl (!decide (p = q))) H) : rNeA K (.int p) (.int q) H Q := .inl (r_rNeI h)
theorem r_eqB {p q : Bool} (h : Q (.bl (p == q)) H) : rEqA K (.bl p) (.bl q) H Q := .inl (r_rEqB h)
theorem r_neB {p q : Bool} (h : Q (.bl (p != q)) H) : rNeA K (.bl p) (.bl q) H Q := .inl (r_rNeB h)
theorem r_eqS {p q : Str} (h : Q (.bl (decide (p = q))) H) : rEqA K (.str p) (.str q) H Q := .inl (r_rEqS h)
theorem r_neS {p q : Str} (h : Q (.bl (!decide (p = q))) H) : rNeA K (.str p) (.str q) H Q := .inl (r_rNeS h)
theorem r_eqDt {x y : V} (d e : D) (hk : sameK d e = true) (hn : dep d ≤ 40) (h1 : IsD K H d x) (h2 : IsD K H e y) (h : Q (.bl (eqD d e)) H) : rEqA K x y H Q := .inr ⟨d, e, hk, hn, h1, h2, h⟩
theorem r_neDt {x y : V} (d e : D) (hk : sameK d e = true) (hn : dep d ≤ 40) (h1 : IsD K H d x) (h2 : IsD K H e y) (h : Q (.bl (!eqD d e)) H) : rNeA K x y H Q := .inr ⟨d, e, hk, hn, h1, h2, h⟩
theorem r_ix2L {p : Addr} {xs : List V} {k : Int} (h1 : H p = some (.lst xs)) (h2 : atI xs k = some v) (h : Q v H) : rIx2 K (.ref p) (.int k) H Q := .inl (r_ixL h1 h2 h)
theorem r_ix2T {p : Addr} {xs : List V} {k : Int} (h1 : H p = some (.tup xs)) (h2 : atI xs k = some v) (h : Q v H) : rIx2 K (.ref p) (.int k) H Q := .inr (r_ixT h1 h2 h)
end
/-! ### the truth of an int, a bool -/
def tTru (K : PySem.W.Frag) (ta : TE) : TT := fun σ H Q => ta σ H fun x H' => ∃ k, TruV K x H' k ∧ Q k H'
theorem pt_tru {X : Cx} {a : Expr} {ta : TE} (ha : PE X a ta) (he : ∀ whole, isTrue a X.env whole = (do let v ← whole; standAt a.pos; holding [v] (truthy v)) := by intro _; rfl) : PT X a (tTru X.K ta) := pt_truth ha he
section
variable {K : PySem.W.Frag} {H : Hp} {σ : St} {QB : Bool → Hp → Prop} {te : TE}
theorem r_tru (h : te σ H fun x H' => ∃ k, TruV K x H' k ∧ QB k H') : tTru K te σ H QB := h
theorem r_truI {p : Int} {P : Bool → Prop} (h : P (!decide (p = 0))) : ∃ k, TruV K (.int p) H k ∧ P k := ⟨_, show _ = (p != 0) from rfl, by
  have e : (p != 0) = !decide (p = 0) := by by_cases z : p = 0 <;> simp [z]
  rw [e]; exact h⟩
theorem r_truB {b : Bool} {P : Bool → Prop} (h : P b) : ∃ k, TruV K (.bl b) H k ∧ P k := ⟨b, rfl, h⟩
theorem r_truL {p : Addr} {xs : List V} {P : Bool → Prop} (h1 : H p = some (.lst xs)) (h : P (!xs.isEmpty)) : ∃ k, TruV K (.ref p) H k ∧ P k := ⟨_, .inl ⟨xs, SqL.of h1, rfl⟩, h⟩
theorem r_truT {p : Addr} {xs : List V} {P : Bool → Prop} (h1 : H p = some (.tup xs)) (h : P (!xs.isEmpty)) : ∃ k, TruV K (.ref p) H k ∧ P k := ⟨_, .inr (.inl ⟨xs, SqT.of h1, rfl⟩), h⟩
end
/-! ### data of ints -/
def dInts (ns : List Int) : List D := ns.map fun n => D.v (.int n)
theorem isDs_ints {K : PySem.W.Frag} {H : Hp} : ∀ (ns : List Int), IsDs K H (dInts ns) (ns.map V.int)
  | [] => by unfold dInts IsDs; rfl
  | n :: ns => by
    show IsDs K H (D.v (.int n) :: dInts ns) (V.int n :: ns.map V.int)
    unfold IsDs
    exact ⟨_, _, rfl, by unfold IsD; exact ⟨rfl, rfl⟩, isDs_ints ns⟩
theorem eqDs_ints : ∀ (ns ms : List Int), eqDs (dInts ns) (dInts ms) = decide (ns = ms)
  | [], [] => by simp [dInts, eqDs]
  | [], _ :: _ => by simp [dInts, eqDs]
  | _ :: _, [] => by simp [dInts, eqDs]
  | n :: ns, m :: ms => by
    show eqDs (D.v (.int n) :: dInts ns) (D.v (.int m) :: dInts ms) = _
    unfold eqDs
    rw [eqDs_ints ns ms]
    unfold eqD eqV
    by_cases h1 : n = m <;> by_cases h2 : ns = ms <;> simp [h1, h2]
theorem deps_ints : ∀ (ns : List Int), deps (dInts ns) = 0
  | [] => by simp [dInts, deps]
  | n :: ns => by
    show deps (D.v (.int n) :: dInts ns) = 0
    unfold deps
    rw [deps_ints ns]
    simp [dep]
section
variable {K : PySem.W.Frag} {H : Hp} {Q : VK}
/-- two tuples of ints -/
theorem r_eqTI {a b : Addr} {ns ms : List Int} (h1 : H a = some (.tup (ns.map V.int))) (h2 : H b = some (.tup (ms.map V.int))) (h : Q (.bl (decide (ns = ms))) H) : rEqA K (.ref a) (.ref b) H Q :=
  r_eqDt (.t (dInts ns)) (.t (dInts ms)) rfl (by unfold dep; rw [deps_ints]; decide) (by unfold IsD; exact ⟨a, _, rfl, SqT.of h1, isDs_ints ns⟩) (by unfold IsD; exact ⟨b, _, rfl, SqT.of h2, isDs_ints ms⟩) (by unfold eqD; rw [eqDs_ints]; exact h)
theorem r_neTI {a b : Addr} {ns ms : List Int} (h1 : H a = some (.tup (ns.map V.int))) (h2 : H b = some (.tup (ms.map V.int))) (h : Q (.bl (!decide (ns = ms))) H) : rNeA K (.ref a) (.ref b) H Q :=
  r_neDt (.t (dInts ns)) (.t (dInts ms)) rfl (by unfold dep; rw [deps_ints]; decide) (by unfold IsD; exact ⟨a, _, rfl, SqT.of h1, isDs_ints ns⟩) (by unfold IsD; exact ⟨b, _, rfl, SqT.of h2, isDs_ints ms⟩) (by unfold eqD; rw [eqDs_ints]; exact h)
end
end L2

namespace L2
open PySem PySem.Spec PyProof.Rows
section
variable {H : Hp} {Q : VK}
theorem r_pow18 (h : Q (.int 1000000000000000000) H) : rI CPow (fun i j => .int (i ^ j.toNat)) (.int 10) (.int 18) H Q := ⟨10, 18, rfl, rfl, ⟨by decide, by decide, by decide⟩, h⟩
theorem r_pow6 (h : Q (.int 1000000) H) : rI CPow (fun i j => .int (i ^ j.toNat)) (.int 10) (.int 6) H Q := ⟨10, 6, rfl, rfl, ⟨by decide, by decide, by decide⟩, h⟩
end
theorem ne_fresh {H : Hp} {a b : Addr} {o : HO} (h' : H b = none) (h : H a = some o) : a ≠ b := ne_of_none h h'
theorem ne_kind {H : Hp} {a b : Addr} {o u : HO} (h : H a = some o) (h' : H b = some u) (d : o ≠ u) : a ≠ b := ne_of h h' d
theorem lst_tup {xs ys : List V} : HO.lst xs ≠ HO.tup ys := fun h => HO.noConfusion h
theorem tup_lst {xs ys : List V} : HO.tup xs ≠ HO.lst ys := fun h => HO.noConfusion h
theorem atI_in {α : Type} {xs : List α} {i : Int} (h0 : 0 ≤ i) (h1 : i < xs.length) : atI xs i = xs[i.toNat]? := by
  unfold atI ixN
  rw [if_pos h0, if_pos h1]; rfl
theorem atI_ints {ns : List Int} {i : Int} (h0 : 0 ≤ i) (h1 : i < ns.length) : atI (ns.map V.int) i = some (.int (ns.getD i.toNat 0)) := by
  rw [atI_in h0 (by rw [List.length_map]; exact h1), List.getElem?_map, List.getD_eq_getElem?_getD]
  have : i.toNat < ns.length := by omega
  rw [List.getElem?_eq_getElem this]; rfl
/-- a def's facts, from what the top has written -/
theorem up_mk {K : PySem.W.Frag} {h : Heap} {mg : Str → Option Value} {x : Str} {st : Stmt} {ps : List Str} {f : Addr} {oc : Value} {od an : Option Addr} {osl : Array (Option Value)} {kV doc pm cdv ct : Value} (X : K.In h) (G : h.Ns mainGlobals mg)
    (a : PySem.W.nsIn K mainGlobals x = some (some (.ref f))) (l : K.lookup f = some ⟨oc, od, .func (PySem.W.fnOf x x (defArgs st) (defBody st) (defScope st) .none kV doc pm an cdv ct), osl⟩)
    (c : PySem.W.codeIn K cdv x = true) (k : PySem.W.keepIn K (.ref f) = true)
    (b : ∀ (kV doc pm : Value) (an : Option Addr) (cdv ct : Value) (us : List Value), us.length = ps.length → bindArgs (PySem.W.fnOf x x (defArgs st) (defBody st) (defScope st) .none kV doc pm an cdv ct) ⟨us, []⟩ = pure (ps.zip us)) : Up K mg x st ps := by
  have F := fun_mk (x := x) (qual := x) (st := st) l c k
  exact ⟨f, _, F, PySem.W.mg_of X G a, F.binds b⟩
/-- the law's promise: a list of at most 63 ints is handed in, True comes out -/
def spLaw (K : PySem.W.Frag) : Sp := fun vs H Q _ => ∃ (a : Addr) (ns : List Int), vs = [.ref a] ∧ SqL K H a (ns.map V.int) ∧ ns.length ≤ 63 ∧ ∀ H', Q (.bl true) H'
theorem spLaw_len {K : PySem.W.Frag} {vs : List V} {H : Hp} {Q : VK} {E : XK} (h : spLaw K vs H Q E) : vs.length = 1 := by
  obtain ⟨a, ns, rfl, _⟩ := h; rfl
/-- the head: from the law's own bundle -/
theorem walkC {l : PySem.W.OpenLaw} {k : Nat} {q : Program} {loose : List Str} {XP : (Str → Option Value) → Heap → Prop} {YP : World → Heap → Prop} {d : DefRec} {K : Params → PySem.W.Frag} {x : Str} (hn : l.most = some 63) (hdf : d.params.defaults = []) (hr : Room k callerA)
    (hY : ∀ (w : World) (h : Heap), YP w h → (K w.params).In h)
    (F : ∀ (w : World) (mg : Str → Option Value) (fa : Addr) (h : Heap), (K w.params).In h → h.Ns mainGlobals mg → mg d.name = some (.ref fa) →
      ∃ fd : FuncData, (∀ (s : Shared) (u : Value), BindsTo s fd ⟨[u], []⟩ [(x, u)]) ∧ ∀ base : Heap, (K w.params).In base → base.Ns mainGlobals mg → FnOk l.prog w (K w.params) mg base CX0 k fa fd [x] (spLaw (K w.params))) :
    PySem.W.WalkO q loose XP YP l.row.toRowW d [] (fun f vs => PySem.call f vs) :=
  L2.walk_of (n := 63) (k := k) (x := x) (CX := fun _ => CX0) (sp := fun w => spLaw (K w.params)) hn (by decide) hdf hr hY F (fun _ _ a ns hl _ hS => ⟨a, ns, rfl, hS, hl, fun _ => rfl⟩) fun _ _ _ _ _ z => z
/-- the law's own def, found in the heap -/
theorem law_fn {P : Program} {w : World} {K : PySem.W.Frag} {mg : Str → Option Value} {fa : Addr} {k : Nat} {x p : Str} {st : Stmt} (U : Up K mg x st [p]) (hfa : mg x = some (.ref fa)) {sp : Sp}
    (C : ∀ base : Heap, K.In base → base.Ns mainGlobals mg → ∀ (f : Addr) (fd : FuncData), Fun K x x st f fd → FnOk P w K mg base CX0 k f fd [p] sp)
    (hb : ∀ (kV doc pm : Value) (an : Option Addr) (cdv ct : Value) (s : Shared) (u : Value), BindsTo s (PySem.W.fnOf x x (defArgs st) (defBody st) (defScope st) .none kV doc pm an cdv ct) ⟨[u], []⟩ [(p, u)]) :
    ∃ fd : FuncData, (∀ (s : Shared) (u : Value), BindsTo s fd ⟨[u], []⟩ [(p, u)]) ∧ ∀ base : Heap, K.In base → base.Ns mainGlobals mg → FnOk P w K mg base CX0 k fa fd [p] sp := by
  obtain ⟨f, fd, F, hm, _⟩ := U.ex
  have e := hfa.symm.trans hm
  cases e
  refine ⟨fd, fun s u => ?_, fun base kb nb => C base kb nb _ fd F⟩
  obtain ⟨oc, od, kV, doc, pm, an, cdv, ct, osl, rfl, _⟩ := F.ex
  exact hb kV doc pm an cdv ct s u
end L2

/-! t <= u of tuples of ints; x is None; ints and tuples by kinds. -/
namespace HT
open PySem PyProof.Rows
def lexLe : List Int → List Int → Bool
  | [], _ => true
  | _ :: _, [] => false
  | x :: xs, y :: ys => if x = y then lexLe xs ys else decide (x ≤ y)
theorem lexLe_cons (x y : Int) (xs ys : List Int) : lexLe (x :: xs) (y :: ys) = if x = y then lexLe xs ys else decide (x ≤ y) := rfl
theorem lexLe_nil (ys : List Int) : lexLe [] ys = true := by cases ys <;> rfl
theorem lexLe_cons_nil (x : Int) (xs : List Int) : lexLe (x :: xs) [] = false := rfl
theorem rcLe_int (A : Around) (s : Shared) (a : Int) (t : Tok) (c : Int) (u : Tok) (prog : Program) (w : World) (E : Value → Shared → Prop) (Q : Value → Shared → Prop) (h : Q (.bool (decide (a ≤ c))) s) :
    wpAny (model prog w) A (richCompare .LtE (.int a t) (.int c u)) Q E s :=
  (PyProof.Rows.le_int h : wpAny (model prog w) A (compareOp .LtE (.int a t) (.int c u)) Q E s)
section
open PySem.SeqAt
open PySem.AutoSeq1 (wpAny_loadPart')
open PySem.MeetsSeq PySem.MeetsSeq2 PySem.MeetsSeq3
theorem tuple_le_ints (l b : Addr) (items items2 : Array Value) (n n2 : Nat) (dd dd2 : Option Addr) (sl sl2 : Array (Option Value)) (ns ms : List Int) (hi : IntsAre items.toList ns) (hj : IntsAre items2.toList ms) :
    Meets (Builtin.«tuple.__le__» ⟨[.ref l, .ref b], []⟩)
      (fun _ R s => s.heap.get? l = some { cls := .type "tuple", dict := dd, data := .seq items n, slots := sl } ∧ s.heap.get? b = some { cls := .type "tuple", dict := dd2, data := .seq items2 n2, slots := sl2 } ∧
        R (.ok (.ret (.bool (lexLe ns ms)))) s) :=
  .of_wp fun prog w A R s h => by
    obtain ⟨hp, g, d, tk, os⟩ := s; obtain ⟨hl, hb, h⟩ := h
    have f2 := AutoSeq1.sub_tuple_tuple
    have z1 : items.size = ns.length := by rw [← hi.length]; simp
    have z2 : items2.size = ms.length := by rw [← hj.length]; simp
    wp_walk using wpAny_loadPart' hl, wpAny_loadPart' hb, wpAny_forIn_list _ (fun rest b s' => b.1 = none ∧ s' = ⟨hp, g, d, tk, os⟩ ∧ ∃ (vs ws : List Value) (ns' ms' : List Int), rest = vs.zip ws ∧
      IntsAre vs ns' ∧ IntsAre ws ms' ∧ ns'.length + items2.size = ms'.length + items.size ∧ R (.ok (.ret (.bool (lexLe ns' ms')))) ⟨hp, g, d, tk, os⟩) _
    case turn =>
      rintro ⟨y, x⟩ rest b s' ⟨hb', rfl, vs, ws, ns', ms', hz, hvi, hwi, hlen, hR⟩
      cases hvi with
      | nil => rw [List.zip_nil_left] at hz; cases hz
      | cons a t hvi' =>
        cases hwi with
        | nil => rw [List.zip_nil_right] at hz; cases hz
        | cons c u hwi' =>
          rw [List.zip_cons_cons] at hz
          injection hz with hyx hrest
          injection hyx with hy hx
          subst hy hx
          rw [lexLe_cons] at hR
          simp only [List.length_cons] at hlen
          obtain ⟨e, he, hiff⟩ := eqAt_int A.in1 ⟨hp, g, d, tk, os⟩ a t c u
          refine wpAny_bind (he prog w _ _ ?_)
          cases e with
          | true =>
            rw [if_pos (hiff.mp rfl)] at hR
            wp_walk
            exact ⟨rfl, rfl, _, _, _, _, hrest, hvi', hwi', by omega, hR⟩
          | false =>
            rw [if_neg (fun q => absurd (hiff.mpr q) Bool.false_ne_true)] at hR
            have hri := rcLe_int A.in1 ⟨hp, g, d, tk, os⟩ a t c u prog w
            wp_walk using hri
            exact ⟨_, rfl, by simpa using hR⟩
    case fin =>
      rintro ⟨b1, b2⟩ s' ⟨hb', rfl, vs, ws, ns', ms', hz, hvi, hwi, hlen, hR⟩
      simp only at hb'
      subst hb'
      have hv : lexLe ns' ms' = decide (items.size ≤ items2.size) := by
        cases hvi with
        | nil =>
          rw [lexLe_nil]
          simp only [List.length_nil] at hlen
          exact (decide_eq_true (by omega)).symm
        | cons a t hv =>
          cases hwi with
          | nil =>
            simp only [List.length_nil, List.length_cons] at hlen
            rw [lexLe_cons_nil]
            exact (decide_eq_false (by omega)).symm
          | cons c u hw =>
            rw [List.zip_cons_cons] at hz
            cases hz
      rw [hv] at hR
      wp_walk
      exact ⟨_, rfl, by simpa [Builtin.Tuple.tupleCompareSizes] using hR⟩
    case h =>
      exact ⟨rfl, rfl, items.toList, items2.toList, ns, ms, rfl, hi, hj, by omega, h⟩
end
section
variable {prog : Program} {w : World} {A : Around} {E : Value → Shared → Prop} {s : Shared}
theorem le_tupInts {l b : Addr} {items items2 : Array Value} {ns ms : List Int} {Q : Value → Shared → Prop} (hl : IsTup s.heap l items) (hb : IsTup s.heap b items2) (hi : IntsAre items.toList ns) (hj : IntsAre items2.toList ms)
    (hu : A.units < cLine) (h : Q (.bool (lexLe ns ms)) s) : wpAny (model prog w) A (compareOp .LtE (.ref l) (.ref b)) Q E s := by
  obtain ⟨⟨cls, dd, data, sl⟩, ho, hc, n, hd⟩ := id hl
  obtain ⟨⟨cls2, dd2, data2, sl2⟩, ho2, hc2, n2, hd2⟩ := id hb
  simp only at hc hd hc2 hd2
  subst hc hd hc2 hd2
  exact richCompare_meets_room (op := .LtE) ⟨_, ho, rfl⟩ ⟨_, ho2, rfl⟩ PySem.F.slot_tuple_le PySem.F.entry_tuple_le (PySem.F.args_tuple_le_2 _ _) (tuple_le_ints l b items items2 n n2 dd dd2 sl sl2 ns ms hi hj)
    ⟨ho, ho2, show Value.bool (lexLe ns ms) ≠ Value.notImplemented ∧ Q (.bool (lexLe ns ms)) s from ⟨(fun x => nomatch x), h⟩⟩ hu
end
end HT
namespace L2
open PySem PySem.Spec PyProof.Rows
section
variable {X : Cx}
def rLeT (K : PySem.W.Frag) : R2 := fun x y H Q => ∃ a b ns ms, x = .ref a ∧ y = .ref b ∧ SqT K H a (ns.map V.int) ∧ SqT K H b (ms.map V.int) ∧ Q (.bl (HT.lexLe ns ms)) H
theorem op_leT (hu : X.A.units < cLine) : OpR X (compareOp .LtE) (rLeT X.K) := by
  intro pins s σ H x y v u Q I rx ry h
  obtain ⟨a, b, ns, ms, rfl, rfl, ha, hb, q⟩ := h
  cases rx
  cases ry
  obtain ⟨its, r1, p1, _⟩ := I.tuple ha
  obtain ⟨its2, r2, p2, _⟩ := I.tuple hb
  have i1 : IntsAre its.toArray.toList ns := intsAre_of r1
  have i2 : IntsAre its2.toArray.toList ms := intsAre_of r2
  exact HT.le_tupInts p1 p2 i1 i2 hu ⟨.bl (HT.lexLe ns ms), H, I, rfl, q⟩
theorem hu0 (hu : X.A.units + 64 < cLine) : X.A.units < cLine := by omega
def rLeA (K : PySem.W.Frag) : R2 := fun x y H Q => rI0 (fun i j => .bl (decide (i ≤ j))) x y H Q ∨ rLeT K x y H Q
theorem op_leA (hu : X.A.units + 64 < cLine) : OpR X (compareOp .LtE) (rLeA X.K) := op_le.or (op_leT (hu0 hu))
def rLtA (K : PySem.W.Frag) : R2 := fun x y H Q => rI0 (fun i j => .bl (decide (i < j))) x y H Q ∨ rLtT K x y H Q
theorem op_ltA (hu : X.A.units + 64 < cLine) : OpR X (compareOp .Lt) (rLtA X.K) := op_lt.or (op_ltT (hu0 hu))
def rIsNo : R2 := fun x y H Q => y = .non ∧ Q (.bl (decide (x = .non))) H
def rNotNo : R2 := fun x y H Q => y = .non ∧ Q (.bl (!decide (x = .non))) H
theorem op_isNo : OpR X (compareOp .Is) rIsNo := op_isN
theorem op_notNo : OpR X (compareOp .IsNot) rNotNo := op_notN
end
section
variable {K : PySem.W.Frag} {H : Hp} {Q : VK}
theorem r_leI {p q : Int} (h : Q (.bl (decide (p ≤ q))) H) : rLeA K (.int p) (.int q) H Q := .inl (r_rI0 h)
theorem r_ltI {p q : Int} (h : Q (.bl (decide (p < q))) H) : rLtA K (.int p) (.int q) H Q := .inl (r_rI0 h)
theorem r_leTI {a b : Addr} {ns ms : List Int} (h1 : H a = some (.tup (ns.map V.int))) (h2 : H b = some (.tup (ms.map V.int))) (h : Q (.bl (HT.lexLe ns ms)) H) : rLeA K (.ref a) (.ref b) H Q := .inr ⟨a, b, ns, ms, rfl, rfl, SqT.of h1, SqT.of h2, h⟩
theorem r_ltTI {a b : Addr} {ns ms : List Int} (h1 : H a = some (.tup (ns.map V.int))) (h2 : H b = some (.tup (ms.map V.int))) (h : Q (.bl (HT.lexLt ns ms)) H) : rLtA K (.ref a) (.ref b) H Q := .inr ⟨a, b, ns, ms, rfl, rfl, SqT.of h1, SqT.of h2, h⟩
theorem r_isNo0 (h : Q (.bl true) H) : rIsNo .non .non H Q := ⟨rfl, h⟩
theorem r_isNoR {a : Addr} (h : Q (.bl false) H) : rIsNo (.ref a) .non H Q := ⟨rfl, h⟩
theorem r_isNoI {p : Int} (h : Q (.bl false) H) : rIsNo (.int p) .non H Q := ⟨rfl, h⟩
theorem r_isNoS {p : Str} (h : Q (.bl false) H) : rIsNo (.str p) .non H Q := ⟨rfl, h⟩
theorem r_notNo0 (h : Q (.bl false) H) : rNotNo .non .non H Q := ⟨rfl, h⟩
theorem r_notNoR {a : Addr} (h : Q (.bl true) H) : rNotNo (.ref a) .non H Q := ⟨rfl, h⟩
theorem r_notNoI {p : Int} (h : Q (.bl true) H) : rNotNo (.int p) .non H Q := ⟨rfl, h⟩
theorem r_notNoS {p : Str} (h : Q (.bl true) H) : rNotNo (.str p) .non H Q := ⟨rfl, h⟩
end
end L2

/-! LIST COMPREHENSIONS with one clause: the block's own context, the loop by a word. -/
namespace L2
open PySem PySem.Spec PyProof.Rows

/-- the context of a comprehension's block -/
def cxIn (X : Cx) (scope : Scope) (cl : List (Str × Addr)) (C : Addr) (N : List Str) (s₀ : Shared) (H₀ : Hp) (ex : List Addr) : Cx :=
  { X with env := compEnvC scope cl C X.env, N := N, s₀ := s₀, H₀ := H₀, outer := X.stack, stack := X.stack, ex := ex, fn := fun _ => false, pn := [], xe := fun _ _ => False }
/-- the tests behind a clause -/
def PTs (X : Cx) (ifs : List Expr) (t : TT) : Prop :=
  ∀ (pins : List (Addr × Obj)) (s : Shared) (σ : St) (H : Hp) (Q : Bool → Hp → Prop), Inv X pins σ H s → t σ H Q →
    wpAny (model X.prog X.w) X.A (forIn ifs true fun c r => if r = true then do let ok ← isTrue c X.env (eval c X.env); pure (ForInStep.yield ok) else pure (ForInStep.yield r)) (TP X pins σ Q) X.xe s
def tYes : TT := fun _ H Q => Q true H
theorem pts_nil {X : Cx} : PTs X [] tYes := fun _ _ _ H _ I h => wpAny_tests_nil ⟨H, I, h⟩
theorem pts_one {X : Cx} {c : Expr} {t : TT} (hc : PT X c t) : PTs X [c] t := fun pins s σ H Q I h => wpAny_tests_one (hc pins s σ H Q I h)
/-- names of the def that the block reads -/
def CapOk (X : Cx) (env' : Env) : List Str → List Nat → Prop
  | [], [] => True
  | x :: xs, j :: js => (X.N[j]? = some x ∧ Vis X.env.scope x ∧ X.env.kindOf x ≠ some .local ∧ (env'.kindOf x = some .cell ∨ env'.kindOf x = some .free) ∧ env'.cells.lookup x = X.env.cells.lookup x) ∧ CapOk X env' xs js
  | _, _ => False
theorem CapOk.len {X : Cx} {e : Env} : ∀ {xs : List Str} {js : List Nat}, CapOk X e xs js → xs.length = js.length
  | [], [], _ => rfl
  | _ :: _, _ :: _, ⟨_, h⟩ => by rw [List.length_cons, List.length_cons, CapOk.len h]
  | [], _ :: _, h => h.elim
  | _ :: _, [], h => h.elim
theorem CapOk.get {X : Cx} {e : Env} : ∀ {xs : List Str} {js : List Nat} {i : Nat} {x : Str}, CapOk X e xs js → xs[i]? = some x → ∃ j, js[i]? = some j ∧ X.N[j]? = some x ∧ Vis X.env.scope x ∧ X.env.kindOf x ≠ some .local ∧ (e.kindOf x = some .cell ∨ e.kindOf x = some .free) ∧ e.cells.lookup x = X.env.cells.lookup x
  | [], [], i, x, _, h => by simp at h
  | y :: xs, j :: js, 0, x, ⟨h1, _⟩, h => by simp at h; subst h; exact ⟨j, by simp, h1⟩
  | y :: xs, j :: js, i + 1, x, ⟨_, h2⟩, h => by
    obtain ⟨k, a, b⟩ := CapOk.get (i := i) (x := x) h2 (by simpa using h)
    exact ⟨k, by simpa using a, b⟩
  | [], _ :: _, _, _, h, _ => h.elim
  | _ :: _, [], _, _, h, _ => h.elim
/-- the block's names' values at its start -/
def cap (σ : St) (js : List Nat) (nt : Nat) : St := js.map (fun j => σ.getD j none) ++ List.replicate nt none
def tComp (js : List Nat) (nt : Nat) (wi : TI) (g : TG) (tt : TT) (te : TE) : TE := fun σ H Q => wi σ H fun J H1 => ∃ W : Nat → Nat → List V → St → Hp → Prop, (∃ m, W 0 m [] (cap σ js nt) H1) ∧
  ∀ i m ys σ' H', W i m ys σ' H' → ys.length < sizeLine ∧ ((J.stop i H' ∧ ∀ D, H' D = none → Q (.ref D) (upd H' D (.lst ys))) ∨
    (J.go i H' ∧ ∃ N : List V → St → Hp → Prop, (∀ ys σ' H', N ys σ' H' → ∃ m', m' < m ∧ W (i + 1) m' ys σ' H') ∧ ∀ x H2, J.yld i H' x H2 → g x σ' H2 fun σ3 H3 => tt σ3 H3 fun ok H4 => if ok = true then te σ3 H4 fun y H5 => N (ys ++ [y]) σ3 H5 else N ys σ3 H4))

theorem codeAny_compLoop_own {prog : Program} {w : World} {A : Around} {R : Result → Shared → Prop} {s : Shared} {elt target iter : Expr} {ifs : List Expr} {scope : Scope} {pos : Pos} {it acc : Value} {env : Env} (I : Nat → Shared → Prop)
    (turn : ∀ n s, I n s → wpAny (model prog w) A (pyNext it) (fun r s₁ => match r with
      | none => R (.ok .next) s₁
      | some v => wpAny (model prog w) A (letOwnedTupleGo target it v) (fun _ s₁' => wpAny (model prog w) A (assign target env v) (fun _ s₂ =>
          wpAny (model prog w) A (forIn ifs true fun c r => if r = true then do let ok ← isTrue c env (eval c env); pure (ForInStep.yield ok) else pure (ForInStep.yield r)) (fun ok s₃ =>
            if ok = true then wpAny (model prog w) A (eval elt env) (fun x s₄ =>
              wpAny (model prog w) A (call (.builtin "list.append") [acc, x]) (fun _ s₅ => ∃ m, m < n ∧ I m s₅) (notedBy (model prog w) A env fun e s' => R (.error e) s') s₄) (notedBy (model prog w) A env fun e s' => R (.error e) s') s₃
            else ∃ m, m < n ∧ I m s₃) (notedBy (model prog w) A env fun e s' => R (.error e) s') s₂) (notedBy (model prog w) A env fun e s' => R (.error e) s') s₁') (notedBy (model prog w) A env fun e s' => R (.error e) s') s₁) (notedBy (model prog w) A env fun e s' => R (.error e) s') s)
    (n : Nat) (h : I n s) :
    codeAny (model prog w) A (.compLoop (.ListComp elt [⟨target, iter, ifs, 0⟩] scope pos) 0 it acc env) R s := by
  refine codeAny_loop rfl I (fun n s hI => ?_) n h
  show wpAny _ A ((compTurn (.ListComp elt [⟨target, iter, ifs, 0⟩] scope pos) 0 it acc env).onRaise (fun x => do noteFrame x env; theTreesLotGoes x)) _ _ s
  refine wpAny_noted ?_
  rw [compTurn_list]
  refine wpAny_bind (wpAny_standAt (wpAny_bind (wpAny_mono (turn n s hI) (fun r s₁ h₁ => ?_) fun _ _ h' => h')))
  cases r with
  | none => exact wpAny_pure h₁
  | some v =>
    refine wpAny_bind (wpAny_mono h₁ (fun _ s₁' h₁' => ?_) fun _ _ h' => h')
    refine wpAny_bind (wpAny_mono h₁' (fun _ s₂ h₂ => wpAny_bind (wpAny_mono h₂ (fun ok s₃ h₃ => ?_) fun _ _ h' => h')) fun _ _ h' => h')
    cases ok with
    | false => exact wpAny_pure ⟨rfl, h₃⟩
    | true =>
      exact wpAny_bind (wpAny_bind (wpAny_mono h₃ (fun x s₄ h₄ => wpAny_bind (wpAny_mono h₄ (fun _ s₅ h₅ => wpAny_pure (wpAny_pure ⟨rfl, h₅⟩)) fun _ _ h' => h')) fun _ _ h' => h'))

section
variable {X : Cx} {pins : List (Addr × Obj)} {σ : St} {H H' : Hp} {s : Shared}
/-- an untracked object becomes tracked -/
theorem HOk.track {P : Program} {w : World} {h : Heap} {a : Addr} {o : HO} (x : HOk P w H h) (hn : H a = none) (new : ObjOk P w (upd H a o) h a o) : HOk P w (upd H a o) h := fun b u e => by
  by_cases hb : b = a
  · subst hb; rw [upd_same] at e; cases e; exact new
  · rw [upd_ne hb] at e
    exact (x b u e).stay (fun c v _ q => q) (fun c q => by rw [upd_ne (ne_of_none q hn)]; exact q) fun c xs q => by rw [upd_ne (ne_of_none q hn)]; exact q
/-- an untracked object is changed -/
theorem HOk.other {P : Program} {w : World} {h h' : Heap} {C : Addr} (x : HOk P w H h) (hn : H C = none) (k : ∀ b o, b ≠ C → h.get? b = some o → h'.get? b = some o) : HOk P w H h' := fun b u e =>
  (x b u e).stay (fun c v hc q => k c v (by
    rintro rfl
    rcases hc with rfl | hc
    · rw [hn] at e; cases e
    · rw [hn] at hc; cases hc) q) (fun _ q => q) fun _ _ q => q
/-- the block's context is well made -/
theorem cxIn_ok {scope : Scope} {cl : List (Str × Addr)} {C : Addr} {N : List Str} {s₀ : Shared} {ex : List Addr} (I : Inv X pins σ H s₀) (hC : C = s₀.heap.objs.size) (hkind : scope.kind = .function)
    (hcl : ∀ x c, cl.lookup x = some c → X.env.cells.lookup x = some c) (hhas : ∀ x, ((compEnvC scope cl C X.env).kindOf x = some .cell ∨ (compEnvC scope cl C X.env).kindOf x = some .free) → ∃ c, cl.lookup x = some c)
    (hex : ∀ b ∈ ex, b < s₀.heap.objs.size ∧ b ∉ frs X.stack ∧ (∀ x c, X.env.cells.lookup x = some c → c ≠ b) ∧ X.base.get? b = none) : (cxIn X scope cl C N s₀ H ex).Ok := by
  refine ⟨I.ok.mod, hkind, I.ok.glob, I.ok.blt, ?_, fun x y c h1 h2 => I.ok.inj x y c (hcl x c h1) (hcl y c h2), hhas, fun x c h => (by cases h), I.ok.hd, I.ok.frames, .inl rfl, fun b hb => ⟨?_, fun x c h => (hex b hb).2.2.1 x c (hcl x c h)⟩, I.bs, Nat.le_trans I.ok.bsz I.sz, fun b o e hb => ?_, fun b hb => (hex b hb).2.1, I.stack, I.stkFree⟩
  · show s₀.heap.objs.size ≤ C
    rw [hC]; exact Nat.le_refl _
  · show b ≠ C
    rw [hC]; exact Nat.ne_of_lt (hex b hb).1
  · have e' : X.base.get? b = some o := e
    rw [(hex b hb).2.2.2] at e'; cases e'
theorem cap_len (σ : St) (js : List Nat) (nt : Nat) : (cap σ js nt).length = js.length + nt := by
  unfold cap; rw [List.length_append, List.length_map, List.length_replicate]
theorem cap_get {σ : St} {js : List Nat} {nt i : Nat} {v : V} (h : (cap σ js nt)[i]? = some (some v)) : ∃ j, js[i]? = some j ∧ σ[j]? = some (some v) := by
  unfold cap at h
  by_cases hi : i < js.length
  · rw [List.getElem?_append_left (by rw [List.length_map]; exact hi), List.getElem?_map] at h
    obtain ⟨j, hj⟩ : ∃ j, js[i]? = some j := ⟨_, List.getElem?_eq_getElem hi⟩
    rw [hj] at h
    refine ⟨j, hj, ?_⟩
    have e : σ.getD j none = some v := Option.some.inj h
    rw [List.getD_eq_getElem?_getD] at e
    cases q : σ[j]? with
    | none => rw [q] at e; cases e
    | some z => rw [q] at e; have : z = some v := e; rw [this]
  · rw [List.getElem?_append_right (by rw [List.length_map]; omega), List.getElem?_replicate] at h
    split at h <;> cases h
end

theorem pe_lcomp {X : Cx} {elt tg iter : Expr} {ifs : List Expr} {scope : Scope} {pos : Pos} {cl : List (Str × Addr)} {cN tN : List Str} {js : List Nat} {wi : TI} {g : TG} {tt : TT} {te : TE}
    (hc : X.calm = true) (hx0 : X.xe = fun _ _ => False) (hi : PI X tg iter wi)
    (hclos : closureFor scope X.env = pure cl) (hcell : ∀ y ∈ scope.names, y.2 ≠ .cell) (hkind : scope.kind = .function) (hnames : ∀ y ∈ scope.names, y.2 = .local → scope.names.lookup y.1 = some .local)
    (hcl : ∀ p ∈ cl, X.env.cells.lookup p.1 = some p.2) (hhas : ∀ C x, ((compEnvC scope cl C X.env).kindOf x = some .cell ∨ (compEnvC scope cl C X.env).kindOf x = some .free) → ∃ c, cl.lookup x = some c)
    (hcap : ∀ C, CapOk X (compEnvC scope cl C X.env) cN js)
    (hg : ∀ C s₀ H₀ ex, PG (cxIn X scope cl C (cN ++ tN) s₀ H₀ ex) tg g) (ht : ∀ C s₀ H₀ ex, PTs (cxIn X scope cl C (cN ++ tN) s₀ H₀ ex) ifs tt) (he : ∀ C s₀ H₀ ex, PE (cxIn X scope cl C (cN ++ tN) s₀ H₀ ex) elt te)
    (hs : ∀ x, foldedSetIterable iter X.env x = pure x := by intro _; rfl) :
    PE X (.ListComp elt [⟨tg, iter, ifs, 0⟩] scope pos) (tComp js tN.length wi g tt te) := by
  intro pins s σ H Q I h
  have hxe : X.xe = fun _ _ => False := hx0
  rw [eval_ListComp]
  refine wpAny_comprehension_free (use := none) rfl hs hclos hkind hnames (thn (hi pins s σ H _ I h) fun v s1 h1 => thn h1 fun itv s2 h2 => ?_)
  obtain ⟨it, fp, tn, J, H2, e, I2, T, st2, f2, W, ⟨m0, w0⟩, turn⟩ := h2
  subst e
  refine wpAny_newObj_type (wpAny_newFunctionEnv hcell (by intro y hy; simp at hy) (fun h4 hns4 hsb4 => ?_) hkind)
  dsimp only at hns4 hsb4 ⊢
  generalize hH3 : s2.heap.push { cls := .type "list", dict := none, data := .seq ([] : List Value).toArray } = h3 at hns4 hsb4 ⊢
  -- the accumulator D, the block's names C
  have hD : h3.get? s2.heap.objs.size = some { cls := .type "list", data := .seq ([] : List Value).toArray } := by rw [← hH3]; exact Heap.get?_push_size _ rfl
  have up3 : ∀ b o, s2.heap.get? b = some o → h3.get? b = some o := fun b o q => by rw [← hH3]; exact Heap.get?_push_of_some _ q
  have sz3 : h3.objs.size = s2.heap.objs.size + 1 := by rw [← hH3, Heap.size_push]
  have I3 : Inv X pins σ H2 { s2 with heap := h3 } := I2.kept (t' := s2.toks) up3
  have hDC : s2.heap.objs.size ≠ h3.objs.size := by rw [sz3]; exact Nat.ne_of_lt (Nat.lt_succ_self _)
  have up4 : ∀ b o, h3.get? b = some o → h4.get? b = some o := fun b o q => hsb4.extBut b o (Nat.ne_of_lt (Heap.lt_size q)) (Heap.get?_push_of_some _ q)
  have hfpx : ∀ b ∈ s2.heap.objs.size :: fp, b < h3.objs.size ∧ b ∉ frs X.stack ∧ (∀ x c, X.env.cells.lookup x = some c → c ≠ b) ∧ X.base.get? b = none := fun b hb => by
    rcases List.mem_cons.mp hb with rfl | hb
    · refine ⟨by rw [sz3]; exact Nat.lt_succ_self _, fun z => ?_, fun x c q z => ?_, ?_⟩
      · rcases List.mem_cons.mp (I2.stkSub _ z) with y | y
        · exact absurd (Nat.lt_of_lt_of_eq I2.lt y) (Nat.lt_irrefl _)
        · exact I2.nofs (Nat.le_refl _) y
      · obtain ⟨v, r⟩ := I2.cell x c q
        exact absurd (Nat.lt_of_lt_of_eq r.lt z.symm) (Nat.lt_irrefl _)
      · cases q : X.base.get? s2.heap.objs.size with
        | none => rfl
        | some o => exact absurd (Heap.lt_size (I2.bk _ o q)) (Nat.lt_irrefl _)
    · obtain ⟨f0, f1, f3, f4, f5, f6⟩ := f2 b hb
      obtain ⟨o, ho, _⟩ := T.obj _ _ st2 b hb
      refine ⟨Nat.lt_trans (Heap.lt_size ho) (by rw [sz3]; exact Nat.lt_succ_self _), fun z => ?_, f5, ?_⟩
      · rcases List.mem_cons.mp (I2.stkSub _ z) with y | y
        · exact f1 y
        · exact f3 y
      · cases q : X.base.get? b with
        | none => rfl
        | some o' =>
          rcases f4 with z | z
          · exact absurd z (I2.ok.noex b o' q)
          · exact absurd (Nat.lt_of_lt_of_le (Heap.lt_size (I2.ok.bs b o' q).1) z) (Nat.lt_irrefl _)
  have hclL : ∀ x c, cl.lookup x = some c → X.env.cells.lookup x = some c := fun x c q => hcl (x, c) (PySem.mem_of_lookup q)
  have ok : (cxIn X scope cl h3.objs.size (cN ++ tN) { s2 with heap := h3 } H2 (s2.heap.objs.size :: fp)).Ok := cxIn_ok I3 rfl hkind hclL (hhas _) hfpx
  have hg' := hg h3.objs.size { s2 with heap := h3 } H2 (s2.heap.objs.size :: fp)
  have ht' := ht h3.objs.size { s2 with heap := h3 } H2 (s2.heap.objs.size :: fp)
  have he' := he h3.objs.size { s2 with heap := h3 } H2 (s2.heap.objs.size :: fp)
  generalize hY : cxIn X scope cl h3.objs.size (cN ++ tN) { s2 with heap := h3 } H2 (s2.heap.objs.size :: fp) = Y at ok hg' ht' he'
  have yP : Y.prog = X.prog := by rw [← hY]; rfl
  have yw : Y.w = X.w := by rw [← hY]; rfl
  have yK : Y.K = X.K := by rw [← hY]; rfl
  have yA : Y.A = X.A := by rw [← hY]; rfl
  have yc : Y.calm = true := by rw [← hY]; exact hc
  have yx : Y.xe = fun _ _ => False := by rw [← hY]; rfl
  have yl : Y.env.locals = h3.objs.size := by rw [← hY]; rfl
  have ye : Y.env = compEnvC scope cl h3.objs.size X.env := by rw [← hY]; rfl
  have yfs : Y.fs = frs X.stack := by rw [← hY]; rfl
  have yex : Y.ex = s2.heap.objs.size :: fp := by rw [← hY]; rfl
  have ycl : Y.env.cells = cl := by rw [← hY]; rfl
  have ys0 : Y.s₀ = { s2 with heap := h3 } := by rw [← hY]; rfl
  have yH0 : Y.H₀ = H2 := by rw [← hY]; rfl
  have ypn : Y.pn = [] := by rw [← hY]; rfl
  have yN : Y.N = cN ++ tN := by rw [← hY]; rfl
  have hH2D : H2 s2.heap.objs.size = none := I2.hok.fresh (Nat.le_refl _)
  have pinD : ∀ {H' : Hp} {h : Heap} {ys : List Value} {n : Nat}, h.get? s2.heap.objs.size = some { cls := .type "list", data := .seq ys.toArray n } → H' s2.heap.objs.size = none →
      ∀ p ∈ ([(s2.heap.objs.size, ({ cls := .type "list", data := .seq ys.toArray n } : Obj))] : List (Addr × Obj)), h.get? p.1 = some p.2 ∧ H' p.1 = none ∧ p.1 ≠ Y.env.locals ∧ p.1 ∉ Y.fs ∧ ∀ v, p.2.data ≠ .cell v := fun {H' h ys n} q1 q2 p hp => by
    rw [List.mem_singleton.mp hp]
    exact ⟨q1, q2, by rw [yl]; exact hDC, by rw [yfs]; exact (hfpx _ List.mem_cons_self).2.1, fun v z => nomatch z⟩
  -- the block's entry
  have I4 : Inv Y [] (cap σ js tN.length) H2 { s2 with heap := h4, toks := s2.toks + ([] : List (Str × Value)).length } := by
    refine ⟨ok, by rw [ys0], I2.bare, ?_, ⟨_, by rw [yl]; exact hns4, fun i x v e1 e2 e3 => ?_⟩, fun x c q => ?_, ?_, fun x c q => ?_, fun p hp => ?_, ?_, ?_⟩
    · rw [ys0, yH0]; exact Un.kept up4
    · rw [yN] at e1
      obtain ⟨j, hj, hv⟩ := cap_get e2
      have hi' : i < cN.length := by
        rw [(hcap h3.objs.size).len]
        exact (List.getElem?_eq_some_iff.mp hj).1
      rw [List.getElem?_append_left hi'] at e1
      obtain ⟨j', hj', n1, n2, n3, n4, n5⟩ := (hcap h3.objs.size).get e1
      rw [hj] at hj'; cases hj'
      obtain ⟨m, hn, hl⟩ := I2.loc
      obtain ⟨u, ru, lk⟩ := hl j x v n1 hv n2
      refine ⟨u, ru, ?_⟩
      rcases lk with ⟨k1, _⟩ | ⟨k1, c, k2, k3⟩
      · exact absurd k1 n3
      · refine .inr ⟨by rw [ye]; exact n4, c, by rw [ye, n5]; exact k2, ?_⟩
        obtain ⟨o, ho, hd⟩ := k3
        exact ⟨o, up4 _ _ (up3 _ _ ho), hd⟩
    · rw [ycl] at q
      obtain ⟨v, o, ho, hd⟩ := I2.cell x c (hclL x c q)
      exact ⟨v, o, up4 _ _ (up3 _ _ ho), hd⟩
    · rw [yl]; exact I3.hok.fresh (Nat.le_refl _)
    · rw [ycl] at q
      exact I2.freeC x c (hclL x c q)
    · rw [ypn] at hp
      exact absurd hp (by simp)
    · rw [yP, yw]
      exact I3.hok.kept up4
    · rw [cap_len, yN, List.length_append, (hcap h3.objs.size).len]
  have fpY : ∀ {H' : Hp} {ps : List (Addr × Obj)}, (∀ b ∈ fp, H' b = none) → (∀ p ∈ ps, p.1 = s2.heap.objs.size) → ∀ b ∈ fp, FpOk Y ps H' b := fun {H' ps} hn hps b hb => by
    obtain ⟨a1, a2, a3, a4⟩ := hfpx b (List.mem_cons_of_mem _ hb)
    obtain ⟨o, ho, _⟩ := T.obj _ _ st2 b hb
    refine ⟨hn b hb, by rw [yl]; exact Nat.ne_of_lt a1, by rw [yfs]; exact a2, .inl (by rw [yex]; exact List.mem_cons_of_mem _ hb), fun x c q => by rw [ycl] at q; exact a3 x c (hclL x c q), fun p hp => ?_⟩
    rw [ypn] at hp
    rw [hps p hp]
    exact (Nat.ne_of_lt (Heap.lt_size ho)).symm
  have st4 : tn 0 h4 := T.keep _ _ _ st2 fun b hb o q => up4 _ _ (up3 _ _ q)
  have loop : codeAny (model X.prog X.w) X.A (.compLoop (.ListComp elt [⟨tg, iter, ifs, 0⟩] scope pos) 0 (.ref it) (.ref s2.heap.objs.size) (compEnvC scope cl h3.objs.size X.env))
      (compPost (model X.prog X.w) X.A X.xe none (EP X pins σ Q) (.ref s2.heap.objs.size) h3.objs.size) { s2 with heap := h4, toks := s2.toks + ([] : List (Str × Value)).length } := by
    refine codeAny_compLoop_own (fun n s' => ∃ (i : Nat) (σ' : St) (H' : Hp) (ys : List V) (us : List Value) (k : Nat), Inv Y [] σ' H' s' ∧ tn i s'.heap ∧ (∀ b ∈ fp, H' b = none) ∧ H' s2.heap.objs.size = none ∧ Vals ys us ∧
      s'.heap.get? s2.heap.objs.size = some { cls := .type "list", data := .seq us.toArray k } ∧ W i n ys σ' H') ?_ m0
      ⟨0, _, H2, [], [], 0, I4, st4, fun b hb => (f2 b hb).1, hH2D, .nil, up4 _ _ hD, w0⟩
    rintro n s5 ⟨i, σ5, H5, ys, us, k, I5, st5, fr5, hD5, rv5, ho5, w5⟩
    obtain ⟨hsz, step⟩ := turn i n ys σ5 H5 w5
    have I5p := I5.pins_of (pins' := [(s2.heap.objs.size, ({ cls := .type "list", data := .seq us.toArray k } : Obj))]) (pinD ho5 hD5)
    have onlyD : ∀ p ∈ ([(s2.heap.objs.size, ({ cls := .type "list", data := .seq us.toArray k } : Obj))] : List (Addr × Obj)), p.1 = s2.heap.objs.size := fun p hp => by rw [List.mem_singleton.mp hp]
    rcases step with ⟨stop, fin⟩ | ⟨go, N, hN, step⟩
    · -- the end
      have dn := T.done Y yP yw yK yc i _ s5 σ5 H5 (notedBy (model X.prog X.w) X.A (compEnvC scope cl h3.objs.size X.env) fun e s' => compPost (model X.prog X.w) X.A X.xe none (EP X pins σ Q) (.ref s2.heap.objs.size) h3.objs.size (.error e) s') I5p (fpY fr5 onlyD) st5 stop
      rw [yA] at dn
      refine thn dn fun r s6 ⟨hr, I6⟩ => ?_
      subst hr
      obtain ⟨m6, hn6, _⟩ := I6.loc
      rw [yl] at hn6
      refine ⟨m6, hn6, fun h7 hs7 => ?_⟩
      have u6 : Un (frs X.stack) (s2.heap.objs.size :: fp) H2 H5 h3 s6.heap := by
        have := I6.base
        rw [yfs, yex, yH0, ys0] at this
        exact this
      have D6 := (I6.pin _ (List.mem_append_right _ (List.mem_singleton.mpr rfl))).1
      have C6 : H5 h3.objs.size = none := by have := I6.free; rw [yl] at this; exact this
      have k7 : ∀ b o, b ≠ h3.objs.size → s6.heap.get? b = some o → h7.get? b = some o := fun b o hb q => hs7.extBut b o hb q
      have neC : ∀ b o, s2.heap.get? b = some o → b ≠ h3.objs.size := fun b o q => Nat.ne_of_lt (Heap.lt_size (up3 b o q))
      have neD : ∀ b o, s2.heap.get? b = some o → b ≠ s2.heap.objs.size := fun b o q => Nat.ne_of_lt (Heap.lt_size q)
      have exn : ∀ b o, s2.heap.get? b = some o → b ∉ fp → b ∉ s2.heap.objs.size :: fp := fun b o q hb z => by
        rcases List.mem_cons.mp z with z | z
        · exact neD b o q z
        · exact hb z
      have un7 : Un (frs X.stack) fp H2 (upd H5 s2.heap.objs.size (.lst ys)) s2.heap h7 := by
        refine ⟨fun b o q nb hb hx => k7 b o (neC b o q) (u6.keep b o (up3 _ _ q) nb hb (exn b o q hx)), fun b o q nb hb hx => ?_, fun b o q nb hx => ?_, fun b o q hx => ?_, fun b xs q => ?_, fun b o xs q => ?_, fun b ps q => ?_⟩
        · obtain ⟨sl, z⟩ := u6.slot b o (up3 _ _ q) nb hb (exn b o q hx)
          exact ⟨sl, k7 b _ (neC b o q) z⟩
        · rw [upd_ne (neD b o q)]
          exact u6.free b o (up3 _ _ q) nb (exn b o q hx)
        · obtain ⟨o', z⟩ := u6.there b o (up3 _ _ q) (exn b o q hx)
          exact ⟨o', k7 b o' (neC b o q) z⟩
        · have z := u6.tups b xs q
          rw [upd_ne (ne_of_none z hD5)]; exact z
        · have z := u6.frzs b o xs q
          rw [upd_ne (ne_of_none z hD5)]; exact z
        · obtain ⟨more, z⟩ := u6.tbls b ps q
          exact ⟨more, by rw [upd_ne (ne_of_none z hD5)]; exact z⟩
      have hok7 : HOk X.prog X.w (upd H5 s2.heap.objs.size (.lst ys)) h7 := by
        have z := I6.hok
        rw [yP, yw] at z
        refine (z.other C6 k7).track hD5 ?_
        exact ⟨Nat.le_of_lt hsz, us, k, rv5, k7 _ _ hDC D6⟩
      obtain ⟨hh6, gg6, dd6, tt6, os6⟩ := s6
      have eos : os6 = s2.os := by have := I6.os; rw [ys0] at this; exact this
      subst eos
      have I7 : Inv X pins σ (upd H5 s2.heap.objs.size (.lst ys)) { s2 with heap := h7, gens := gg6, drawn := dd6, toks := tt6 } :=
        I2.call un7 hok7 I6.bare fun b hb => ⟨(f2 b hb).2.2.2.1, (f2 b hb).2.1, (f2 b hb).2.2.2.2.1, (f2 b hb).2.2.2.2.2⟩
      exact ⟨.ref s2.heap.objs.size, _, I7, rfl, fin _ hD5⟩
    · -- a turn
      have im := T.item Y yP yw yK yc i _ s5 σ5 H5 (notedBy (model X.prog X.w) X.A (compEnvC scope cl h3.objs.size X.env) fun e s' => compPost (model X.prog X.w) X.A X.xe none (EP X pins σ Q) (.ref s2.heap.objs.size) h3.objs.size (.error e) s') I5p (fpY fr5 onlyD) st5 go
      rw [yA] at im
      refine thn im fun r s6 ⟨u, hr, h6⟩ => ?_
      subst hr
      refine thn h6 fun _ s7 ⟨x, H7, I7, r7, y7, st7, fr7⟩ => ?_
      have I7' := I7.pinned (fpY fr7 onlyD) (T.obj _ _ st7)
      have tog := hg' _ s7 σ5 H7 x u _ I7' r7 (step x H7 y7)
      rw [yP, yw, yA, yx, ye] at tog
      refine wpAny_mono tog (fun _ s8 ⟨σ8, H8, I8, q8⟩ => ?_) fun _ _ z => z.elim
      have tot := ht' _ s8 σ8 H8 _ I8 q8
      rw [yP, yw, yA, yx, ye] at tot
      refine wpAny_mono tot (fun okb s9 ⟨H9, I9, q9⟩ => ?_) fun _ _ z => z.elim
      have back : ∀ {H' : Hp} {s' : Shared}, Inv Y ([(s2.heap.objs.size, ({ cls := .type "list", data := .seq us.toArray k } : Obj))] ++ pinsAt fp s7.heap) σ8 H' s' → tn (i + 1) s'.heap ∧ (∀ b ∈ fp, H' b = none) ∧ H' s2.heap.objs.size = none ∧ s'.heap.get? s2.heap.objs.size = some { cls := .type "list", data := .seq us.toArray k } := fun {H' s'} I' => by
        refine ⟨T.keep _ _ _ st7 fun b hb o e => (I'.pin (b, o) (List.mem_append_right _ (List.mem_append_right _ (mem_pinsAt hb e)))).1, fun b hb => ?_, ?_, ?_⟩
        · obtain ⟨o, e, d⟩ := T.obj _ _ st7 b hb
          exact (I'.pin (b, o) (List.mem_append_right _ (List.mem_append_right _ (mem_pinsAt hb e)))).2.1
        · exact (I'.pin _ (List.mem_append_right _ (List.mem_append_left _ (List.mem_singleton.mpr rfl)))).2.1
        · exact (I'.pin _ (List.mem_append_right _ (List.mem_append_left _ (List.mem_singleton.mpr rfl)))).1
      cases okb with
      | false =>
        rw [if_neg Bool.false_ne_true] at q9 ⊢
        obtain ⟨m', hm', w9⟩ := hN _ _ _ q9
        obtain ⟨b1, b2, b3, b4⟩ := back I9
        exact ⟨m', hm', i + 1, σ8, H9, ys, us, k, I9.pins_of (fun p hp => absurd hp (by simp)), b1, b2, b3, rv5, b4, w9⟩
      | true =>
        rw [if_pos rfl] at q9 ⊢
        have toe := he' _ s9 σ8 H9 _ I9 q9
        rw [yP, yw, yA, yx, ye] at toe
        refine wpAny_mono toe (fun yv s10 ⟨yy, H10, I10, r10, q10⟩ => ?_) fun _ _ z => z.elim
        obtain ⟨m', hm', w10⟩ := hN _ _ _ q10
        obtain ⟨b1, b2, b3, b4⟩ := back I10
        have hus : us.length = ys.length := rv5.length.symm
        refine append_at b4 (fun h11 hs11 ho11 => ?_) (by rw [List.size_toArray, hus]; exact Nat.le_of_lt hsz)
        have I10' : Inv Y [] σ8 H10 s10 := I10.pins_of (fun p hp => absurd hp (by simp))
        have I11 : Inv Y [] σ8 H10 { s10 with heap := h11 } := I10'.turned (t' := s10.toks) (it := s2.heap.objs.size) (fun b o hb q => hs11.extBut b o hb q) b3 (by rw [yl]; exact hDC) (.inl (by rw [yex]; exact List.mem_cons_self))
          (fun x c q => by rw [ycl] at q; exact (hfpx _ List.mem_cons_self).2.2.1 x c (hclL x c q)) (fun p hp => by rw [ypn] at hp; exact absurd hp (by simp))
        refine ⟨m', hm', i + 1, σ8, H10, ys ++ [yy], us ++ [yv], k + 1, I11, T.keep _ _ _ b1 fun b hb o q => hs11.extBut b o (fun z => ?_) q, b2, b3, Vals.append rv5 (.cons r10 .nil), ?_, w10⟩
        · have z' : b = s2.heap.objs.size := z
          obtain ⟨o', ho', _⟩ := T.obj _ _ st2 b hb
          exact absurd (z' ▸ Heap.lt_size ho') (Nat.lt_irrefl _)
        · rw [ho11, List.push_toArray]
  exact codeAny_compStart_list loop (T.self _ 0 _ _ _ st4 loop)
/-! ### the forms one uses: one name as the target -/
/-- what a comprehension asks of an iterator -/
def CompJ (J : It) (js : List Nat) (nt : Nat) (g : TG) (tt : TT) (te : TE) (σ : St) (H : Hp) (Q : VK) : Prop := ∃ W : Nat → Nat → List V → St → Hp → Prop, (∃ m, W 0 m [] (cap σ js nt) H) ∧
  ∀ i m ys σ' H', W i m ys σ' H' → ys.length < sizeLine ∧ ((J.stop i H' ∧ ∀ D, H' D = none → Q (.ref D) (upd H' D (.lst ys))) ∨
    (J.go i H' ∧ ∃ N : List V → St → Hp → Prop, (∀ ys σ' H', N ys σ' H' → ∃ m', m' < m ∧ W (i + 1) m' ys σ' H') ∧ ∀ x H2, J.yld i H' x H2 → g x σ' H2 fun σ3 H3 => tt σ3 H3 fun ok H4 => if ok = true then te σ3 H4 fun y H5 => N (ys ++ [y]) σ3 H5 else N ys σ3 H4))
theorem r_compR {tA : TA} {js : List Nat} {nt : Nat} {g : TG} {tt : TT} {te : TE} {σ : St} {H : Hp} {Q : VK} (h : tA σ H fun vs H1 => ∃ j : Int, vs = [.int j] ∧ -(2 ^ 62) ≤ j ∧ j < 2 ^ 62 ∧ CompJ (Itr 0 j.toNat) js nt g tt te σ H1 Q) : tComp js nt (iRng1 tA) g tt te σ H Q := h
theorem r_compL {K : PySem.W.Frag} {tl : TE} {js : List Nat} {nt : Nat} {g : TG} {tt : TT} {te : TE} {σ : St} {H : Hp} {Q : VK} (h : tl σ H fun x H1 => ∃ a, x = .ref a ∧ (∃ xs, SqL K H1 a xs) ∧ CompJ (Itl K a) js nt g tt te σ H1 Q) : tComp js nt (iList K tl) g tt te σ H Q := h
theorem r_compT {K : PySem.W.Frag} {tl : TE} {js : List Nat} {nt : Nat} {g : TG} {tt : TT} {te : TE} {σ : St} {H : Hp} {Q : VK} (h : tl σ H fun x H1 => ∃ a, x = .ref a ∧ (∃ xs, SqT K H1 a xs) ∧ CompJ (Itt K a) js nt g tt te σ H1 Q) : tComp js nt (iTup K tl) g tt te σ H Q := h
theorem r_yes {σ : St} {H : Hp} {QB : Bool → Hp → Prop} (h : QB true H) : tYes σ H QB := h
/-- over range(j) -/
theorem compR {j : Int} {js : List Nat} {g : TG} {tt : TT} {te : TE} {σ : St} {H : Hp} {Q : VK} (caps : St) (Pv : Nat → List V → Hp → Prop) (hcaps : cap σ js 1 = caps ++ [none]) (h1 : j < 16777216) (h2 : -(2 ^ 62) ≤ j) (h0 : Pv 0 [] H)
    (hlen : ∀ i ys H, Pv i ys H → ys.length ≤ i)
    (hs : ∀ (i : Nat) ys z H, (i : Int) < j → Pv i ys H → g (.int (i : Int)) (caps ++ [z]) H fun σ3 H3 => tt σ3 H3 fun ok H4 => if ok = true then te σ3 H4 fun y H5 => Pv (i + 1) (ys ++ [y]) H5 ∧ ∃ z, σ3 = caps ++ [z] else Pv (i + 1) ys H4 ∧ ∃ z, σ3 = caps ++ [z])
    (hd : ∀ ys H, Pv j.toNat ys H → ∀ D, H D = none → Q (.ref D) (upd H D (.lst ys))) : ∃ j' : Int, [V.int j] = [.int j'] ∧ -(2 ^ 62) ≤ j' ∧ j' < 2 ^ 62 ∧ CompJ (Itr 0 j'.toNat) js 1 g tt te σ H Q := by
  refine ⟨j, rfl, h2, by omega, fun i m ys σ' H' => m = j.toNat - i ∧ i ≤ j.toNat ∧ Pv i ys H' ∧ ∃ z, σ' = caps ++ [z], ⟨j.toNat, by simp, Nat.zero_le _, h0, none, hcaps⟩, ?_⟩
  rintro i m ys σ' H' ⟨rfl, hi, p, z, rfl⟩
  refine ⟨by have := hlen i ys H' p; rw [sizeLine_eq]; omega, ?_⟩
  by_cases hlt : i < j.toNat
  · refine .inr ⟨hlt, fun ys σ' H' => Pv (i + 1) ys H' ∧ ∃ z, σ' = caps ++ [z], fun ys σ' H' ⟨p', q'⟩ => ⟨j.toNat - (i + 1), by omega, rfl, hlt, p', q'⟩, fun x H2 y => ?_⟩
    obtain ⟨e1, e2⟩ := y
    subst e1 e2
    rw [Int.zero_add]
    exact hs i ys z _ (by omega) p
  · have e : i = j.toNat := by omega
    subst e
    exact .inl ⟨Nat.le_refl _, hd ys H' p⟩
/-- over a list that stays as it is -/
theorem compL {K : PySem.W.Frag} {a : Addr} {xs : List V} {js : List Nat} {g : TG} {tt : TT} {te : TE} {σ : St} {H : Hp} {Q : VK} (caps : St) (Pv : Nat → List V → Hp → Prop) (hcaps : cap σ js 1 = caps ++ [none]) (hsz : xs.length < sizeLine) (h0 : Pv 0 [] H)
    (hl : ∀ i ys H, i ≤ xs.length → Pv i ys H → SqL K H a xs) (hlen : ∀ i ys H, Pv i ys H → ys.length ≤ i)
    (hs : ∀ (i : Nat) x ys z H, xs[i]? = some x → Pv i ys H → g x (caps ++ [z]) H fun σ3 H3 => tt σ3 H3 fun ok H4 => if ok = true then te σ3 H4 fun y H5 => Pv (i + 1) (ys ++ [y]) H5 ∧ ∃ z, σ3 = caps ++ [z] else Pv (i + 1) ys H4 ∧ ∃ z, σ3 = caps ++ [z])
    (hd : ∀ ys H, Pv xs.length ys H → ∀ D, H D = none → Q (.ref D) (upd H D (.lst ys))) : ∃ a', V.ref a = .ref a' ∧ (∃ xs, SqL K H a' xs) ∧ CompJ (Itl K a') js 1 g tt te σ H Q := by
  refine ⟨a, rfl, ⟨xs, hl 0 [] H (Nat.zero_le _) h0⟩, fun i m ys σ' H' => m = xs.length - i ∧ i ≤ xs.length ∧ Pv i ys H' ∧ ∃ z, σ' = caps ++ [z], ⟨xs.length, by simp, Nat.zero_le _, h0, none, hcaps⟩, ?_⟩
  rintro i m ys σ' H' ⟨rfl, hi, p, z, rfl⟩
  refine ⟨by have := hlen i ys H' p; omega, ?_⟩
  have q := hl i ys H' hi p
  by_cases hlt : i < xs.length
  · refine .inr ⟨⟨xs, xs[i], q, by simp [hlt]⟩, fun ys σ' H' => Pv (i + 1) ys H' ∧ ∃ z, σ' = caps ++ [z], fun ys σ' H' ⟨p', q'⟩ => ⟨xs.length - (i + 1), by omega, rfl, hlt, p', q'⟩, fun x H2 y => ?_⟩
    obtain ⟨e, y⟩ := y
    subst e
    exact hs i x ys z _ (y xs q) p
  · have e : i = xs.length := by omega
    subst e
    exact .inl ⟨⟨xs, q, Nat.le_refl _⟩, hd ys H' p⟩
theorem compT {K : PySem.W.Frag} {a : Addr} {xs : List V} {js : List Nat} {g : TG} {tt : TT} {te : TE} {σ : St} {H : Hp} {Q : VK} (caps : St) (Pv : Nat → List V → Hp → Prop) (hcaps : cap σ js 1 = caps ++ [none]) (hsz : xs.length < sizeLine) (h0 : Pv 0 [] H)
    (hl : ∀ i ys H, i ≤ xs.length → Pv i ys H → SqT K H a xs) (hlen : ∀ i ys H, Pv i ys H → ys.length ≤ i)
    (hs : ∀ (i : Nat) x ys z H, xs[i]? = some x → Pv i ys H → g x (caps ++ [z]) H fun σ3 H3 => tt σ3 H3 fun ok H4 => if ok = true then te σ3 H4 fun y H5 => Pv (i + 1) (ys ++ [y]) H5 ∧ ∃ z, σ3 = caps ++ [z] else Pv (i + 1) ys H4 ∧ ∃ z, σ3 = caps ++ [z])
    (hd : ∀ ys H, Pv xs.length ys H → ∀ D, H D = none → Q (.ref D) (upd H D (.lst ys))) : ∃ a', V.ref a = .ref a' ∧ (∃ xs, SqT K H a' xs) ∧ CompJ (Itt K a') js 1 g tt te σ H Q := by
  refine ⟨a, rfl, ⟨xs, hl 0 [] H (Nat.zero_le _) h0⟩, fun i m ys σ' H' => m = xs.length - i ∧ i ≤ xs.length ∧ Pv i ys H' ∧ ∃ z, σ' = caps ++ [z], ⟨xs.length, by simp, Nat.zero_le _, h0, none, hcaps⟩, ?_⟩
  rintro i m ys σ' H' ⟨rfl, hi, p, z, rfl⟩
  refine ⟨by have := hlen i ys H' p; omega, ?_⟩
  have q := hl i ys H' hi p
  by_cases hlt : i < xs.length
  · refine .inr ⟨⟨xs, xs[i], q, by simp [hlt]⟩, fun ys σ' H' => Pv (i + 1) ys H' ∧ ∃ z, σ' = caps ++ [z], fun ys σ' H' ⟨p', q'⟩ => ⟨xs.length - (i + 1), by omega, rfl, hlt, p', q'⟩, fun x H2 y => ?_⟩
    obtain ⟨e, y⟩ := y
    subst e
    exact hs i x ys z _ (y xs q) p
  · have e : i = xs.length := by omega
    subst e
    exact .inl ⟨⟨xs, q, Nat.le_refl _⟩, hd ys H' p⟩
end L2

/-! all, any of a list of bools; sum of a list of ints. -/
namespace L2
open PySem PySem.Spec PyProof.Rows
def rAll (K : PySem.W.Frag) : List V → Hp → VK → Prop := fun xs H Q => ∃ (p : Addr) (bs : List Bool), xs = [.ref p] ∧ SqL K H p (bs.map V.bl) ∧ Q (.bl (bs.all id)) H
def rAny (K : PySem.W.Frag) : List V → Hp → VK → Prop := fun xs H Q => ∃ (p : Addr) (bs : List Bool), xs = [.ref p] ∧ SqL K H p (bs.map V.bl) ∧ Q (.bl (bs.any id)) H
def rSum (K : PySem.W.Frag) : List V → Hp → VK → Prop := fun xs H Q => ∃ (p : Addr) (ns : List Int), xs = [.ref p] ∧ SqL K H p (ns.map V.int) ∧ Q (.int ns.sum) H
theorem vals_bools : ∀ {bs : List Bool} {us : List Value}, Vals (bs.map V.bl) us → us = bs.map Value.bool
  | [], us, r => by rw [List.map_nil] at r; cases r; rfl
  | b :: bs, us, r => by
    rw [List.map_cons] at r
    cases r with
    | cons r1 r2 => rw [vals_bools r2, show _ = Value.bool b from r1]; rfl
theorem range_all : ∀ (bs : List Bool), (List.range bs.length).all (fun i => bs.getD i false) = bs.all id
  | [] => rfl
  | b :: bs => by
    rw [List.length_cons, List.range_succ_eq_map, List.all_cons, List.all_map, List.all_cons, ← range_all bs]
    rfl
theorem range_any : ∀ (bs : List Bool), (List.range bs.length).any (fun i => bs.getD i false) = bs.any id
  | [] => rfl
  | b :: bs => by
    rw [List.length_cons, List.range_succ_eq_map, List.any_cons, List.any_map, List.any_cons, ← range_any bs]
    rfl
section
variable {X : Cx}
theorem bools_at {bs : List Bool} {i : Nat} {v : Value} (h : (bs.map Value.bool).toArray[i]? = some v) : v = .bool (bs.getD i false) := by
  rw [List.getElem?_toArray, List.getElem?_map] at h
  cases q : bs[i]? with
  | none => rw [q] at h; cases h
  | some b => rw [q] at h; rw [List.getD_eq_getElem?_getD, q]; exact (Option.some.inj h).symm
theorem cl_all (hc : X.calm = true) : CallR X (.builtin "all") (rAll X.K) := by
  intro pins s σ H xs us Q I r h
  obtain ⟨p, bs, rfl, hq, q⟩ := h
  obtain ⟨u, rfl, rx⟩ := vals1 r
  cases rx
  obtain ⟨its, r', pl, hz⟩ := I.list hq
  have e := vals_bools r'
  subst e
  have hl := pl.isList
  have hlt : p < s.heap.objs.size := by obtain ⟨_, e, _⟩ := hl; exact Heap.lt_size e
  refine PySem.call_all_walk (wpAny_pyIter_list hl ?_)
  refine ⟨_, _, _, _, _, _, fun i => bs.getD i false, rfl, Walks.list (A := X.A.in1) (I.ok.hd hc) s.heap.objs.size p (Nat.ne_of_lt hlt) _, ⟨⟨_, Heap.get?_push_size _ rfl, rfl, rfl⟩, hl.push _⟩, ?_, fun h' tk hk => ?_⟩
  · intro i v s' Q' E' hP hQ'
    rw [bools_at hP]
    exact wpAny_truthy_bool hQ'
  · refine ⟨.bl (bs.all id), H, ?_, ?_, q⟩
    · exact I.kept (t' := tk) fun b o e => hk b o (fun z => absurd (Heap.lt_size e) (by rw [List.mem_singleton.mp z]; exact Nat.lt_irrefl _)) (Heap.get?_push_of_some _ e)
    · show Value.bool _ = Value.bool _
      rw [show (bs.map Value.bool).toArray.size = bs.length by simp, range_all]
theorem cl_any (hc : X.calm = true) : CallR X (.builtin "any") (rAny X.K) := by
  intro pins s σ H xs us Q I r h
  obtain ⟨p, bs, rfl, hq, q⟩ := h
  obtain ⟨u, rfl, rx⟩ := vals1 r
  cases rx
  obtain ⟨its, r', pl, hz⟩ := I.list hq
  have e := vals_bools r'
  subst e
  have hl := pl.isList
  have hlt : p < s.heap.objs.size := by obtain ⟨_, e, _⟩ := hl; exact Heap.lt_size e
  refine PySem.call_any_walk (wpAny_pyIter_list hl ?_)
  refine ⟨_, _, _, _, _, _, fun i => bs.getD i false, rfl, Walks.list (A := X.A.in1) (I.ok.hd hc) s.heap.objs.size p (Nat.ne_of_lt hlt) _, ⟨⟨_, Heap.get?_push_size _ rfl, rfl, rfl⟩, hl.push _⟩, ?_, fun h' tk hk => ?_⟩
  · intro i v s' Q' E' hP hQ'
    rw [bools_at hP]
    exact wpAny_truthy_bool hQ'
  · refine ⟨.bl (bs.any id), H, ?_, ?_, q⟩
    · exact I.kept (t' := tk) fun b o e => hk b o (fun z => absurd (Heap.lt_size e) (by rw [List.mem_singleton.mp z]; exact Nat.lt_irrefl _)) (Heap.get?_push_of_some _ e)
    · show Value.bool _ = Value.bool _
      rw [show (bs.map Value.bool).toArray.size = bs.length by simp, range_any]
theorem vals_items : ∀ {ns : List Int} {us : List Value}, Vals (ns.map V.int) us → ∃ xs : List (Int × Tok), us = xs.map (fun p => Value.int p.1 p.2) ∧ xs.map (·.1) = ns
  | [], us, r => by rw [List.map_nil] at r; cases r; exact ⟨[], rfl, rfl⟩
  | n :: ns, us, r => by
    rw [List.map_cons] at r
    cases r with
    | cons r1 r2 =>
      obtain ⟨xs, e1, e2⟩ := vals_items r2
      obtain ⟨t, e⟩ := r1
      exact ⟨(n, t) :: xs, by rw [e, e1]; rfl, by rw [List.map_cons, e2]⟩
theorem cl_sum (hc : X.calm = true) : CallR X (.builtin "sum") (rSum X.K) := by
  intro pins s σ H xs us Q I r h
  obtain ⟨p, ns, rfl, hq, q⟩ := h
  obtain ⟨u, rfl, rx⟩ := vals1 r
  cases rx
  obtain ⟨its, r', pl, hz⟩ := I.list hq
  obtain ⟨ps, e1, e2⟩ := vals_items r'
  have hl := pl.isList
  have e3 : its.toArray = PySem.intItems ps.toArray := by rw [e1]; simp [PySem.intItems]
  rw [e3] at hl
  refine PySem.sum_intListG (I.ok.hd hc) hl fun h' tk t' hk => ⟨.int ns.sum, H, I.kept (t' := tk) hk, ⟨t', ?_⟩, q⟩
  rw [PySem.preSum_eq, List.take_of_length_le (by simp)]
  simp only [e2]
end
section
variable {K : PySem.W.Frag} {H : Hp} {Q : VK}
theorem r_all {p : Addr} {bs : List Bool} (h1 : H p = some (.lst (bs.map V.bl))) (h : Q (.bl (bs.all id)) H) : rAll K [.ref p] H Q := ⟨p, bs, rfl, SqL.of h1, h⟩
theorem r_any {p : Addr} {bs : List Bool} (h1 : H p = some (.lst (bs.map V.bl))) (h : Q (.bl (bs.any id)) H) : rAny K [.ref p] H Q := ⟨p, bs, rfl, SqL.of h1, h⟩
theorem r_sum {p : Addr} {ns : List Int} (h1 : H p = some (.lst (ns.map V.int))) (h : Q (.int ns.sum) H) : rSum K [.ref p] H Q := ⟨p, ns, rfl, SqL.of h1, h⟩
end
/-! ### a comprehension's premises in short -/
def CellsOk (X : Cx) : List (Str × Addr) → Prop
  | [] => True
  | p :: r => X.env.cells.lookup p.1 = some p.2 ∧ CellsOk X r
theorem CellsOk.all {X : Cx} : ∀ {cl : List (Str × Addr)}, CellsOk X cl → ∀ p ∈ cl, X.env.cells.lookup p.1 = some p.2
  | [], _, p, h => by cases h
  | q :: r, ⟨h1, h2⟩, p, h => by
    rcases List.mem_cons.mp h with rfl | h
    · exact h1
    · exact CellsOk.all h2 p h
theorem cap1 {X : Cx} {e : Env} {x : Str} {j : Nat} (h1 : X.N[j]? = some x) (h2 : X.env.scope.names.lookup x = some .cell) (h3 : e.scope.names.lookup x = some .cell) (h4 : e.cells.lookup x = X.env.cells.lookup x) :
    X.N[j]? = some x ∧ Vis X.env.scope x ∧ X.env.kindOf x ≠ some .local ∧ (e.kindOf x = some .cell ∨ e.kindOf x = some .free) ∧ e.cells.lookup x = X.env.cells.lookup x :=
  ⟨h1, .inr (.inl h2), (fun h => by have h' : X.env.scope.names.lookup x = some .local := h; rw [h2] at h'; cases h'), .inl h3, h4⟩
theorem lookup_relabel_some {env : Env} : ∀ {names : List (Str × NameKind)} {x : Str} {k' : NameKind},
    (names.map fun (n, k) => if (k == NameKind.free && env.scope.kind == .function && env.kindOf n == some .cell) then (n, NameKind.cell) else (n, k)).lookup x = some k' → ∃ k, (x, k) ∈ names ∧ (k' = k ∨ k = .free)
  | [], _, _, h => by simp at h
  | (n, k) :: r, x, k', h => by
    rw [List.map_cons] at h
    dsimp only at h
    by_cases hx : x = n
    · subst hx
      refine ⟨k, List.mem_cons_self, ?_⟩
      by_cases c : (k == NameKind.free && env.scope.kind == .function && env.kindOf x == some .cell) = true
      · right
        simp only [Bool.and_eq_true, beq_iff_eq] at c
        exact c.1.1
      · rw [if_neg c] at h
        simp only [List.lookup_cons_self, Option.some.injEq] at h
        exact .inl h.symm
    · have hx' : (x == n) = false := by simpa using hx
      have h2 : (r.map fun (n, k) => if (k == NameKind.free && env.scope.kind == .function && env.kindOf n == some .cell) then (n, NameKind.cell) else (n, k)).lookup x = some k' := by
        by_cases c : (k == NameKind.free && env.scope.kind == .function && env.kindOf n == some .cell) = true
        · rw [if_pos c, List.lookup_cons, hx'] at h; exact h
        · rw [if_neg c, List.lookup_cons, hx'] at h; exact h
      obtain ⟨k0, m, e⟩ := lookup_relabel_some h2
      exact ⟨k0, List.mem_cons_of_mem _ m, e⟩
theorem has_of {X : Cx} {scope : Scope} {cl : List (Str × Addr)} (hcell : ∀ y ∈ scope.names, y.2 ≠ .cell) (h : (scope.names.all fun y => y.2 != .free || (cl.lookup y.1).isSome) = true) :
    ∀ C x, ((compEnvC scope cl C X.env).kindOf x = some .cell ∨ (compEnvC scope cl C X.env).kindOf x = some .free) → ∃ c, cl.lookup x = some c := by
  intro C x hx
  obtain ⟨k', hk, e⟩ : ∃ k', (relabel scope X.env).names.lookup x = some k' ∧ (k' = .cell ∨ k' = .free) := by
    rcases hx with hx | hx
    · exact ⟨_, hx, .inl rfl⟩
    · exact ⟨_, hx, .inr rfl⟩
  obtain ⟨k, m, e2⟩ := lookup_relabel_some hk
  have hf : k = .free := by
    rcases e2 with e2 | e2
    · subst e2
      rcases e with e | e
      · exact absurd e (hcell _ m)
      · exact e
    · exact e2
  have z := List.all_eq_true.mp h _ m
  rw [hf] at z
  have z' : (cl.lookup x).isSome = true := by simpa using z
  exact Option.isSome_iff_exists.mp z'
theorem pe_lc {X : Cx} {elt tg iter : Expr} {ifs : List Expr} {scope : Scope} {pos : Pos} {cl : List (Str × Addr)} {wi : TI} {g : TG} {tt : TT} {te : TE} (cN tN : List Str) (js : List Nat)
    (hclos : closureFor scope X.env = pure cl) (hc : X.calm = true) (hx0 : X.xe = fun _ _ => False) (hi : PI X tg iter wi)
    (hcell : ∀ y ∈ scope.names, y.2 ≠ .cell) (hkind : scope.kind = .function) (hnames : ∀ y ∈ scope.names, y.2 = .local → scope.names.lookup y.1 = some .local)
    (hcl : CellsOk X cl) (hall : (scope.names.all fun y => y.2 != .free || (cl.lookup y.1).isSome) = true) (hcap : ∀ C, CapOk X (compEnvC scope cl C X.env) cN js)
    (hg : ∀ C s₀ H₀ ex, PG (cxIn X scope cl C (cN ++ tN) s₀ H₀ ex) tg g) (ht : ∀ C s₀ H₀ ex, PTs (cxIn X scope cl C (cN ++ tN) s₀ H₀ ex) ifs tt) (he : ∀ C s₀ H₀ ex, PE (cxIn X scope cl C (cN ++ tN) s₀ H₀ ex) elt te)
    (hs : ∀ x, foldedSetIterable iter X.env x = pure x := by intro _; rfl) :
    PE X (.ListComp elt [⟨tg, iter, ifs, 0⟩] scope pos) (tComp js tN.length wi g tt te) :=
  pe_lcomp hc hx0 hi hclos hcell hkind hnames hcl.all (has_of hcell hall) hcap hg ht he hs
end L2

/-! Slices and sums of tuples, whatever is empty or whole: the answer is one tuple, the rest stays. -/
namespace HT
open PySem PyProof.Rows
section
variable {prog : Program} {w : World} {A : Around} {E : Value → Shared → Prop} {s : Shared}
theorem getItem_tuple_whole {t sl : Addr} {items : Array Value} {vl vu : Value} {lo hi : Option Int} {Q : Value → Shared → Prop} (ht : IsTup s.heap t items) (hs : s.heap.IsSliceOf sl vl vu .none) (pl : IsPart vl lo) (pu : IsPart vu hi)
    (hw : sIx items.size 0 lo = 0 ∧ sIx items.size items.size hi = items.size) (h : Q (.ref t) s) : wpAny (model prog w) A (getItem (.ref t) (.ref sl)) Q E s := by
  obtain ⟨os, hos, hcs, hds⟩ := id hs
  have hTs : s.TypeIs (.ref sl) "slice" := ⟨os, hos, hcs⟩
  unfold getItem
  try with_reducible refine wpAny_holding ?_
  first | refine wpAny_bind (wpAny_pure ?_) | skip
  refine wpAny_bind (wpAny_sequenceKey ht.typeIs (by decide) ?_)
  refine wpAny_bind (wpAny_callSpecial?_slot (name := Str.ofString "__getitem__") ht.typeIs PyProof.Rows.slot_tuple_getitem
    (wpAny_call_entry PyProof.Rows.slot_tuple_getitem ht.typeIs entry_tuple_getitem ?_ (args_tuple_getitem _ _)))
  show wpAny _ _ (Builtin.Tuple.tupleItemsOf (.ref t) >>= _) _ _ s
  refine wpAny_bind (tupleItemsOf_ ht ?_)
  refine wpAny_bind (wpAny_typeOf hTs ?_)
  rw [if_pos (by decide)]
  refine wpAny_bind (sliceApplied_gen hs pl pu ?_)
  have hyes : (((sIx items.size 0 lo : Nat) : Int) == 0 && (1 : Int) == 1 && (sIx items.size items.size hi - sIx items.size 0 lo) == items.size) = true := by
    rw [hw.1, hw.2]; simp
  show wpAny _ _ (if (((sIx items.size 0 lo : Nat) : Int) == 0 && (1 : Int) == 1 && (sIx items.size items.size hi - sIx items.size 0 lo) == items.size) = true then _ else _) _ _ s
  rw [if_pos hyes]
  unfold Builtin.Tuple.tupleIsExact
  refine wpAny_bind (wpAny_bind (wpAny_typeOf ht.typeIs (wpAny_pure ?_)))
  rw [if_pos (by decide)]
  first
    | exact wpAny_bind (wpAny_rule (wpAny_bind (wpAny_pure (wpAny_pure ⟨_, rfl, wpAny_pure h⟩))))
    | exact wpAny_bind (wpAny_rule (wpAny_bind (wpAny_pure ⟨_, rfl, wpAny_pure h⟩)))
    | exact wpAny_bind (wpAny_rule (wpAny_pure ⟨_, rfl, wpAny_pure h⟩))
/-- t + u, t empty -/
theorem cat_tup0 {t b : Addr} {ws : List Value} {Q : Value → Shared → Prop} (ht : IsTup s.heap t ([] : List Value).toArray) (hb : IsTup s.heap b ws.toArray) (h : Q (.ref b) s) : wpAny (model prog w) A (binaryOp .Add (.ref t) (.ref b)) Q E s := by
  obtain ⟨⟨cls, dd, data, sl⟩, ho, hc, n, hd⟩ := id ht
  obtain ⟨⟨cls2, dd2, data2, sl2⟩, ho2, hc2, n2, hd2⟩ := id hb
  simp only at hc hd hc2 hd2
  subst hc hd hc2 hd2
  exact concat_meets ⟨_, ho, rfl⟩ ⟨_, ho2, rfl⟩ noFill_tuple_add seq_tuple_add PySem.F.slot_tuple_add PySem.F.entry_tuple_add (PySem.F.args_tuple_add_2 _ _)
      (tuple_addW0 t b _ ws.toArray n n2 dd dd2 sl sl2 rfl) ⟨ho, ho2, h⟩
end
end HT
namespace L2
open PySem PySem.Spec PyProof.Rows
section
variable {X : Cx}
/-- the slice of a tuple that is tracked: some tuple of those items; what was tracked stays -/
def rSlTt : V → Option Int → Option Int → Hp → VK → Prop := fun x lo hi H Q => ∃ a xs, x = .ref a ∧ H a = some (.tup xs) ∧ ∀ p H', Same H H' → H' p = some (.tup (cutV xs lo hi)) → Q (.ref p) H'
theorem sl_tupT : SlR X rSlTt := by
  intro pins s σ H x v vl vu lo hi sl Q I rx hs pl pu h
  obtain ⟨a, xs, rfl, hx, q⟩ := h
  by_cases hw : HT.sIx xs.length 0 lo = 0 ∧ HT.sIx xs.length xs.length hi = xs.length
  · cases rx
    obtain ⟨its, r, ht, hz⟩ := I.tuple (SqT.of hx)
    have hlen : its.toArray.size = xs.length := by rw [List.size_toArray]; exact r.length.symm
    refine ⟨"tuple", _, PyProof.Rows.slot_tuple_getitem.lookup, ht.typeIs, ?_⟩
    refine HT.getItem_tuple_whole ht hs pl pu (by rw [hlen]; exact hw) ⟨.ref a, H, I, rfl, q a H (Same.refl H) ?_⟩
    rw [hx]
    unfold cutV
    rw [hw.1, hw.2, List.drop_zero, Nat.sub_zero, List.take_length]
  · exact sl_tup pins s σ H (.ref a) v vl vu lo hi sl Q I rx hs pl pu ⟨a, xs, rfl, SqT.of hx, hw, fun p hp => q p _ ((Same.refl H).new hp) upd_same⟩
def rSl2 (K : PySem.W.Frag) : V → Option Int → Option Int → Hp → VK → Prop := fun x lo hi H Q => rSlL K x lo hi H Q ∨ rSlTt x lo hi H Q
theorem sl_2 : SlR X (rSl2 X.K) := sl_list.or sl_tupT
/-- t + u of tracked tuples -/
def rCatTt : R2 := fun x y H Q => ∃ a b xs ys, x = .ref a ∧ y = .ref b ∧ H a = some (.tup xs) ∧ H b = some (.tup ys) ∧ xs.length + ys.length ≤ sizeLine ∧ ∀ p H', Same H H' → H' p = some (.tup (xs ++ ys)) → Q (.ref p) H'
theorem op_catTt : OpR X (binaryOp .Add) rCatTt := by
  intro pins s σ H x y v u Q I rx ry h
  obtain ⟨a, b, xs, ys, rfl, rfl, ha, hb, hz, q⟩ := h
  by_cases hx : xs = []
  · subst hx
    cases rx
    cases ry
    obtain ⟨its, r1, p1, _⟩ := I.tuple (SqT.of ha)
    obtain ⟨its2, r2, p2, _⟩ := I.tuple (SqT.of hb)
    cases r1
    exact HT.cat_tup0 p1 p2 ⟨.ref b, H, I, rfl, q b H (Same.refl H) hb⟩
  · refine op_catT pins s σ H _ _ v u Q I rx ry ⟨a, b, xs, ys, rfl, rfl, SqT.of ha, SqT.of hb, hx, hz, fun e => ?_, fun e p hp => q p _ ((Same.refl H).new hp) upd_same⟩
    subst e
    exact q a H (Same.refl H) (by rw [List.append_nil]; exact ha)
/-- + by kinds -/
def rAddB (K : PySem.W.Frag) : R2 := fun x y H Q => rAddA K x y H Q ∨ rCatTt x y H Q
theorem op_addB : OpR X (binaryOp .Add) (rAddB X.K) := op_addA.or op_catTt
end
section
variable {K : PySem.W.Frag} {H : Hp} {Q : VK} {σ : St}
theorem r_addBI {p q : Int} (h : Q (.int (p + q)) H) : rAddB K (.int p) (.int q) H Q := .inl (r_addI h)
theorem r_addBL {a b : Addr} {xs ys : List V} (h1 : H a = some (.lst xs)) (h2 : H b = some (.lst ys)) (h3 : xs.length + ys.length ≤ sizeLine) (h : ∀ p, H p = none → Q (.ref p) (upd H p (.lst (xs ++ ys)))) : rAddB K (.ref a) (.ref b) H Q := .inl (r_addL h1 h2 h3 h)
theorem r_addBT {a b : Addr} {xs ys : List V} (h1 : H a = some (.tup xs)) (h2 : H b = some (.tup ys)) (h3 : xs.length + ys.length ≤ sizeLine) (h : ∀ p H', Same H H' → H' p = some (.tup (xs ++ ys)) → Q (.ref p) H') : rAddB K (.ref a) (.ref b) H Q := .inr ⟨a, b, xs, ys, rfl, rfl, h1, h2, h3, h⟩
theorem r_slice {r : V → Option Int → Option Int → Hp → VK → Prop} {te : TE} {tl th : TO} (h : te σ H fun x H1 => tl σ H1 fun l H2 => th σ H2 fun u H3 => r x l u H3 Q) : tSl r te tl th σ H Q := h
theorem r_noPart {QO : Option Int → Hp → Prop} (h : QO none H) : tNoPart σ H QO := h
theorem r_part {te : TE} {QO : Option Int → Hp → Prop} (h : te σ H fun x H1 => ∃ i, x = .int i ∧ QO (some i) H1) : tPart te σ H QO := h
theorem r_partI {p : Int} {P : Int → Prop} (h : P p) : ∃ i, V.int p = .int i ∧ P i := ⟨p, rfl, h⟩
theorem r_sl2L {a : Addr} {xs : List V} {lo hi : Option Int} (h1 : H a = some (.lst xs)) (h : ∀ p, H p = none → Q (.ref p) (upd H p (.lst (cutV xs lo hi)))) : rSl2 K (.ref a) lo hi H Q := .inl ⟨a, xs, rfl, SqL.of h1, h⟩
theorem r_sl2T {a : Addr} {xs : List V} {lo hi : Option Int} (h1 : H a = some (.tup xs)) (h : ∀ p H', Same H H' → H' p = some (.tup (cutV xs lo hi)) → Q (.ref p) H') : rSl2 K (.ref a) lo hi H Q := .inr ⟨a, xs, rfl, h1, h⟩
theorem cut_to {xs : List V} {k : Nat} : cutV xs none (some (k : Int)) = xs.take k := by
  unfold cutV
  rw [HT.sIx_none, HT.sIx_nat, List.drop_zero, Nat.sub_zero]
  by_cases h : k ≤ xs.length
  · rw [Nat.min_eq_left h]
  · rw [Nat.min_eq_right (by omega), List.take_length, List.take_of_length_le (by omega)]
theorem cut_from {xs : List V} {k : Nat} : cutV xs (some (k : Int)) none = xs.drop k := by
  unfold cutV
  rw [HT.sIx_none, HT.sIx_nat]
  by_cases h : k ≤ xs.length
  · rw [Nat.min_eq_left h]
    exact List.take_of_length_le (by rw [List.length_drop]; omega)
  · rw [Nat.min_eq_right (by omega), Nat.sub_self, List.take_zero, List.drop_of_length_le (by omega)]
end
end L2

/-! The same rules with the written part named K: their readings then hang on nothing of the context. -/
namespace L2
open PySem PySem.Spec PyProof.Rows
section
variable {X : Cx} {K : PySem.W.Frag}
theorem ixK (h : X.K = K) : IxR X (rIx2 K) := by subst h; exact ix_2
theorem addK (h : X.K = K) : OpR X (binaryOp .Add) (rAddB K) := by subst h; exact op_addB
theorem eqK (h : X.K = K) (hu : X.A.units + 64 < cLine) : OpR X (compareOp .Eq) (rEqA K) := by subst h; exact op_eqA hu
theorem neK (h : X.K = K) (hu : X.A.units + 64 < cLine) : OpR X (compareOp .NotEq) (rNeA K) := by subst h; exact op_neA hu
theorem ltK (h : X.K = K) (hu : X.A.units + 64 < cLine) : OpR X (compareOp .Lt) (rLtA K) := by subst h; exact op_ltA hu
theorem leK (h : X.K = K) (hu : X.A.units + 64 < cLine) : OpR X (compareOp .LtE) (rLeA K) := by subst h; exact op_leA hu
theorem isiK (h : X.K = K) : CallR X (.builtin "isinstance") (rIsi K) := by subst h; exact cl_isi
theorem lenK (h : X.K = K) : CallR X (.builtin "len") (rLen K) := by subst h; exact cl_len
theorem listK (h : X.K = K) : CallR X (.type "list") (rListOf K) := by subst h; exact cl_list
theorem tupleK (h : X.K = K) : CallR X (.type "tuple") (rTupleOf K) := by subst h; exact cl_tuple
theorem allK (h : X.K = K) (hc : X.calm = true) : CallR X (.builtin "all") (rAll K) := by subst h; exact cl_all hc
theorem anyK (h : X.K = K) (hc : X.calm = true) : CallR X (.builtin "any") (rAny K) := by subst h; exact cl_any hc
theorem sumK (h : X.K = K) (hc : X.calm = true) : CallR X (.builtin "sum") (rSum K) := by subst h; exact cl_sum hc
theorem truK {a : Expr} {ta : TE} (h : X.K = K) (ha : PE X a ta) (he : ∀ whole, isTrue a X.env whole = (do let v ← whole; standAt a.pos; holding [v] (truthy v)) := by intro _; rfl) : PT X a (tTru K ta) := by subst h; exact pt_tru ha he
theorem piLK {tg l : Expr} {tl : TE} (h : X.K = K) (hl : PE X l tl) : PI X tg l (iList K tl) := by subst h; exact pi_list hl
theorem piTK {tg l : Expr} {tl : TE} (h : X.K = K) (hl : PE X l tl) : PI X tg l (iTup K tl) := by subst h; exact pi_tup hl
theorem slK (h : X.K = K) : SlR X (rSl2 K) := by subst h; exact sl_2
theorem gtupK {es : List Expr} {k : Nat} {t : TGs} {n : Nat} {pos : Pos} (hk : X.K = K) (hc : X.calm = true) (h : PGs X es t)
    (hn : (assignEach es X.env).length = n := by rfl) (hst : (assignEach es X.env).findIdx? (·.1) = none := by rfl) : PG X (.Tuple es k pos) (gTup K n t) := by subst hk; exact pg_tup hc h hn hst
end
end L2

/-! THE MATHEMATICS of picks: how many ways there are. -/
namespace MB
def ch : Nat → Nat → Nat
  | _, 0 => 1
  | 0, _ + 1 => 0
  | n + 1, k + 1 => ch n k + ch n (k + 1)
theorem ch_zero (n : Nat) : ch n 0 = 1 := by cases n <;> rfl
theorem ch_zs (k : Nat) : ch 0 (k + 1) = 0 := rfl
theorem ch_ss (n k : Nat) : ch (n + 1) (k + 1) = ch n k + ch n (k + 1) := rfl
theorem ch_gt : ∀ {n k : Nat}, n < k → ch n k = 0
  | 0, k + 1, _ => rfl
  | n + 1, k + 1, h => by rw [ch_ss, ch_gt (by omega), ch_gt (by omega)]
theorem ch_self : ∀ n : Nat, ch n n = 1
  | 0 => rfl
  | n + 1 => by rw [ch_ss, ch_self n, ch_gt (by omega)]
theorem ch_pos : ∀ {n k : Nat}, k ≤ n → 0 < ch n k
  | n, 0, _ => by rw [ch_zero]; decide
  | n + 1, k + 1, h => by rw [ch_ss]; have := ch_pos (n := n) (k := k) (by omega); omega
/-- (k + 1) C(n + 1, k + 1) = (n + 1) C(n, k) -/
theorem ch_absorb : ∀ n k : Nat, (k + 1) * ch (n + 1) (k + 1) = (n + 1) * ch n k
  | 0, 0 => rfl
  | 0, k + 1 => by rw [ch_ss, ch_zs, ch_zs]; omega
  | n + 1, 0 => by
    have h := ch_absorb n 0
    rw [ch_zero] at h
    rw [ch_ss (n + 1) 0, ch_zero]
    omega
  | n + 1, k + 1 => by
    have h1 := ch_absorb n k
    have h2 := ch_absorb n (k + 1)
    have e1 : ch (n + 1) (k + 1) = ch n k + ch n (k + 1) := ch_ss n k
    rw [ch_ss (n + 1) (k + 1)]
    -- (k+2) (A + B), A = C(n+1,k+1), B = C(n+1,k+2)
    have e2 : (k + 1 + 1) * (ch (n + 1) (k + 1) + ch (n + 1) (k + 1 + 1)) = (k + 1) * ch (n + 1) (k + 1) + ch (n + 1) (k + 1) + (k + 1 + 1) * ch (n + 1) (k + 1 + 1) := by
      rw [Nat.mul_add, Nat.add_mul (k + 1) 1, Nat.one_mul]
    rw [e2, h1, h2, e1]
    have e3 : (n + 1 + 1) * (ch n k + ch n (k + 1)) = (n + 1) * ch n k + (n + 1) * ch n (k + 1) + (ch n k + ch n (k + 1)) := by
      rw [Nat.add_mul (n + 1) 1, Nat.one_mul, Nat.mul_add]
    rw [e3]
    omega
/-- (k + 1) C(n, k + 1) = (n - k) C(n, k) -/
theorem ch_step (n k : Nat) : (k + 1) * ch n (k + 1) = (n - k) * ch n k := by
  by_cases h : k ≤ n
  · have h1 := ch_absorb n k
    rw [ch_ss, Nat.mul_add] at h1
    have e : (n + 1) * ch n k = (n - k) * ch n k + (k + 1) * ch n k := by
      rw [← Nat.add_mul]; congr 1; omega
    omega
  · rw [ch_gt (by omega), ch_gt (by omega), Nat.mul_zero, Nat.mul_zero]
theorem ch_symm : ∀ {n k : Nat}, k ≤ n → ch n (n - k) = ch n k
  | 0, 0, _ => rfl
  | n + 1, 0, _ => by rw [ch_zero, Nat.sub_zero, ch_self]
  | n + 1, k + 1, h => by
    by_cases e : k = n
    · subst e; rw [Nat.sub_self, ch_zero, ch_self]
    · have h1 := ch_symm (n := n) (k := k) (by omega)
      have h2 := ch_symm (n := n) (k := k + 1) (by omega)
      have e1 : n + 1 - (k + 1) = (n - (k + 1)) + 1 := by omega
      rw [e1, ch_ss, ch_ss, h2]
      have e2 : n - (k + 1) + 1 = n - k := by omega
      rw [e2, h1]; omega
theorem ch_le_two_pow : ∀ n k : Nat, ch n k ≤ 2 ^ n
  | 0, 0 => by decide
  | 0, k + 1 => by rw [ch_zs]; decide
  | n + 1, 0 => by rw [ch_zero]; exact Nat.one_le_two_pow
  | n + 1, k + 1 => by
    have h1 := ch_le_two_pow n k
    have h2 := ch_le_two_pow n (k + 1)
    rw [ch_ss, Nat.pow_succ]; omega
/-- n (n - 1) .. (n - k + 1) and k! -/
def fall (n : Nat) : Nat → Nat
  | 0 => 1
  | k + 1 => fall n k * (n - k)
def fac : Nat → Nat
  | 0 => 1
  | k + 1 => fac k * (k + 1)
theorem fac_pos : ∀ k, 0 < fac k
  | 0 => by decide
  | k + 1 => Nat.mul_pos (fac_pos k) (by omega)
theorem fall_eq : ∀ n k : Nat, fall n k = ch n k * fac k
  | n, 0 => by rw [ch_zero]; rfl
  | n, k + 1 => by
    unfold fall fac
    rw [fall_eq n k]
    have h := ch_step n k
    calc ch n k * fac k * (n - k) = ((n - k) * ch n k) * fac k := by rw [Nat.mul_comm (n - k), Nat.mul_assoc, Nat.mul_assoc, Nat.mul_comm (fac k)]
      _ = ((k + 1) * ch n (k + 1)) * fac k := by rw [h]
      _ = ch n (k + 1) * (fac k * (k + 1)) := by rw [Nat.mul_comm (k + 1), Nat.mul_assoc, Nat.mul_comm (k + 1)]
theorem fall_div (n k : Nat) : fall n k / fac k = ch n k := by
  rw [fall_eq, Nat.mul_div_cancel _ (fac_pos k)]
theorem fall_lt {n : Nat} (h : n < 512) : ∀ k : Nat, fall n k < 2 ^ (9 * k + 1)
  | 0 => by unfold fall; decide
  | k + 1 => by
    unfold fall
    have h1 := fall_lt h k
    have e : 2 ^ (9 * (k + 1) + 1) = 2 ^ (9 * k + 1) * 512 := by rw [show 9 * (k + 1) + 1 = (9 * k + 1) + 9 by omega, Nat.pow_add]
    rw [e]
    have h2 : n - k ≤ 512 := by omega
    calc fall n k * (n - k) ≤ fall n k * 512 := Nat.mul_le_mul_left _ h2
      _ < 2 ^ (9 * k + 1) * 512 := Nat.mul_lt_mul_of_pos_right h1 (by decide)
theorem fac_lt : ∀ k : Nat, k ≤ 512 → fac k < 2 ^ (9 * k + 1)
  | 0, _ => by unfold fac; decide
  | k + 1, h => by
    unfold fac
    have h1 := fac_lt k (by omega)
    have e : 2 ^ (9 * (k + 1) + 1) = 2 ^ (9 * k + 1) * 512 := by rw [show 9 * (k + 1) + 1 = (9 * k + 1) + 9 by omega, Nat.pow_add]
    rw [e]
    calc fac k * (k + 1) ≤ fac k * 512 := Nat.mul_le_mul_left _ h
      _ < 2 ^ (9 * k + 1) * 512 := Nat.mul_lt_mul_of_pos_right h1 (by decide)
theorem ch_div (n i : Nat) (h : i ≤ n) : ((ch n i : Int) * ((n : Int) - (i : Int))) / ((i : Int) + 1) = (ch n (i + 1) : Int) := by
  have e := ch_step n i
  have e1 : ((ch n i : Int) * ((n : Int) - (i : Int))) = (ch n (i + 1) : Int) * ((i : Int) + 1) := by
    have e2 : ((n : Int) - (i : Int)) = ((n - i : Nat) : Int) := by omega
    have e3 : ((i : Int) + 1) = ((i + 1 : Nat) : Int) := by omega
    rw [e2, e3, ← Int.natCast_mul, ← Int.natCast_mul, Nat.mul_comm, ← e, Nat.mul_comm]
  rw [e1, Int.mul_ediv_cancel _ (by omega)]
theorem fall_div_int (n k : Nat) : (fall n k : Int) / (fac k : Int) = (ch n k : Int) := by
  rw [← Int.natCast_ediv, fall_div]
/-- how many picks, as the program and the law both tell it -/
def W (many few : Int) : Int := if few < 0 ∨ few > many then 0 else (ch many.toNat few.toNat : Int)
theorem W_out {many few : Int} (h : few < 0 ∨ few > many) : W many few = 0 := by unfold W; rw [if_pos h]
theorem W_in {many few : Int} (h : ¬ (few < 0 ∨ few > many)) : W many few = (ch many.toNat few.toNat : Int) := by unfold W; rw [if_neg h]
theorem W_nat (n k : Nat) : W (n : Int) (k : Int) = (ch n k : Int) := by
  by_cases h : k ≤ n
  · rw [W_in (by omega)]; rfl
  · rw [W_out (by omega), ch_gt (by omega)]; rfl
theorem W_nonneg (m k : Int) : 0 ≤ W m k := by
  unfold W; split
  · exact Int.le_refl _
  · exact Int.natCast_nonneg _
theorem W_pos {m k : Int} (h1 : 0 ≤ k) (h2 : k ≤ m) : 0 < W m k := by
  rw [W_in (by omega)]
  have := ch_pos (n := m.toNat) (k := k.toNat) (by omega)
  omega
theorem W_lt {m k : Int} {b : Nat} (h : m ≤ b) : (W m k).natAbs < 2 ^ (b + 1) := by
  unfold W; split
  · exact Nat.two_pow_pos _
  · have h1 := ch_le_two_pow m.toNat k.toNat
    have h2 : 2 ^ m.toNat ≤ 2 ^ b := Nat.pow_le_pow_right (by decide) (by omega)
    rw [Nat.pow_succ]
    have h3 : 0 < 2 ^ b := Nat.two_pow_pos b
    generalize 2 ^ b = x at *
    generalize 2 ^ m.toNat = y at *
    omega
theorem W_zero {m : Int} (h : 0 ≤ m) : W m 0 = 1 := by rw [W_in (by omega)]; simp [ch_zero]
theorem W_full {m : Int} (h : 0 ≤ m) : W m m = 1 := by rw [W_in (by omega), ch_self]; rfl
theorem W_symm {m k : Int} (h : 0 ≤ m) : W m (m - k) = W m k := by
  by_cases hk : k < 0 ∨ k > m
  · rw [W_out hk, W_out (by omega)]
  · rw [W_in hk, W_in (by omega)]
    have e : (m - k).toNat = m.toNat - k.toNat := by omega
    rw [e, ch_symm (by omega)]
theorem W_pascal {m k : Int} (h : 1 ≤ m) : W m k = W (m - 1) (k - 1) + W (m - 1) k := by
  by_cases hk : k < 0 ∨ k > m
  · rw [W_out hk, W_out (by omega), W_out (by omega)]; rfl
  · by_cases h0 : k = 0
    · subst h0
      rw [W_zero (by omega), W_out (by omega), W_zero (by omega)]; rfl
    · rw [W_in hk, W_in (many := m - 1) (few := k - 1) (by omega)]
      obtain ⟨a, ha⟩ : ∃ a : Nat, m = (a : Int) + 1 := ⟨(m - 1).toNat, by omega⟩
      obtain ⟨b, hb⟩ : ∃ b : Nat, k = (b : Int) + 1 := ⟨(k - 1).toNat, by omega⟩
      have e1 : m.toNat = a + 1 := by omega
      have e2 : k.toNat = b + 1 := by omega
      have e3 : (m - 1).toNat = a := by omega
      have e4 : (k - 1).toNat = b := by omega
      have e5 : W (m - 1) k = (ch a (b + 1) : Int) := by
        have : W (m - 1) k = W (a : Int) ((b + 1 : Nat) : Int) := by congr 1 <;> omega
        rw [this, W_nat]
      rw [e5, e1, e2, e3, e4, ch_ss]
      omega
theorem W_none (k : Int) : W 0 k = if decide (k = 0) = true then 1 else 0 := by
  by_cases h : k = 0
  · subst h; rfl
  · rw [W_out (by omega), decide_eq_false h]; rfl
theorem ch_min {m k j : Int} (h0 : 0 ≤ k) (h1 : k ≤ m) (hj : j = k ∨ j = m - k) : (ch m.toNat j.toNat : Int) = W m k := by
  rcases hj with rfl | rfl
  · rw [W_in (by omega)]
  · rw [← W_symm (by omega), W_in (by omega)]
end MB

/-! THE PROMISES of the helpers that the laws share, and of the program's defs. -/
namespace BL
open PySem PySem.Spec PyProof.Rows L2
/-- the draws at d: the script's ints at l, a place among them, what is left of a great number, the mixer -/
def DrL (H : Hp) (d l : Addr) : Prop := ∃ (ns : List Int) (i c r : Int), H d = some (.lst [.ref l, .int i, .int c, .int r]) ∧ H l = some (.lst (ns.map V.int)) ∧ l ≠ d ∧ 0 ≤ i
def Dr (H : Hp) (d : Addr) : Prop := ∃ l, DrL H d l
theorem DrL.some {H : Hp} {d l : Addr} (D : DrL H d l) : (∃ xs, H d = some (.lst xs)) ∧ ∃ xs, H l = some (.lst xs) := by
  obtain ⟨ns, i, c, r, h, h2, _⟩ := D; exact ⟨⟨_, h⟩, ⟨_, h2⟩⟩
/-- a new object leaves the draws -/
theorem DrL.new {H : Hp} {d l p : Addr} {o : HO} (D : DrL H d l) (e : H p = none) : DrL (upd H p o) d l := by
  obtain ⟨ns, i, c, r, h, h2, n, z⟩ := D
  exact ⟨ns, i, c, r, by rw [upd_ne (ne_of_none h e)]; exact h, by rw [upd_ne (ne_of_none h2 e)]; exact h2, n, z⟩
theorem DrL.upd {H : Hp} {d l p : Addr} {o : HO} (D : DrL H d l) (e1 : p ≠ d) (e2 : p ≠ l) : DrL (L2.upd H p o) d l := by
  obtain ⟨ns, i, c, r, h, h2, n, z⟩ := D
  exact ⟨ns, i, c, r, by rw [upd_ne e1.symm]; exact h, by rw [upd_ne e2.symm]; exact h2, n, z⟩
theorem DrL.same {H H' : Hp} {d l : Addr} (D : DrL H d l) (e : Same H H') : DrL H' d l := by
  obtain ⟨ns, i, c, r, h, h2, n, z⟩ := D
  exact ⟨ns, i, c, r, e _ _ h, e _ _ h2, n, z⟩
theorem DrL.ne {H : Hp} {d l p : Addr} (D : DrL H d l) (e : H p = none) : p ≠ d ∧ p ≠ l := by
  obtain ⟨⟨_, h1⟩, _, h2⟩ := D.some
  exact ⟨(ne_of_none h1 e).symm, (ne_of_none h2 e).symm⟩
theorem Dr.new {H : Hp} {d p : Addr} {o : HO} (D : Dr H d) (e : H p = none) : Dr (upd H p o) d := let ⟨l, D⟩ := D; ⟨l, D.new e⟩
theorem Dr.same {H H' : Hp} {d : Addr} (D : Dr H d) (e : Same H H') : Dr H' d := let ⟨l, D⟩ := D; ⟨l, D.same e⟩
theorem Dr.ne {H : Hp} {d p : Addr} (D : Dr H d) (e : H p = none) : p ≠ d := let ⟨_, D⟩ := D; (D.ne e).1
def spBegin (K : PySem.W.Frag) : Sp := fun vs H Q _ => ∃ (a : Addr) (ns : List Int), vs = [.ref a] ∧ SqL K H a (ns.map V.int) ∧ ∀ (d l : Addr) (H' : Hp), H d = none → H l = none → DrL H' d l → Same H H' → Q (.ref d) H'
theorem spBegin_l {K : PySem.W.Frag} {a : Addr} {ns : List Int} {H : Hp} {Q : VK} {E : XK} (hS : SqL K H a (ns.map V.int)) (k : ∀ (d l : Addr) (H' : Hp), H d = none → H l = none → DrL H' d l → Same H H' → Q (.ref d) H') : spBegin K [.ref a] H Q E := ⟨a, ns, rfl, hS, k⟩
theorem spBegin_i {K : PySem.W.Frag} {a : Addr} {ns : List Int} {H : Hp} {Q : VK} {E : XK} (hS : SqL K H a (ns.map V.int)) (k : ∀ (d : Addr) (H' : Hp), H d = none → Dr H' d → Same H H' → Q (.ref d) H') : spBegin K [.ref a] H Q E := ⟨a, ns, rfl, hS, fun d l H' h1 _ D s => k d H' h1 ⟨l, D⟩ s⟩
def spTake : Sp := fun vs H Q _ => ∃ (d l : Addr) (m : Int), vs = [.ref d, .int m] ∧ DrL H d l ∧ 0 < m ∧ (∃ n : Nat, m.natAbs < 2 ^ n ∧ n ≤ 9000) ∧ ∀ (g : Int) (H' : Hp), 0 ≤ g → g < m → DrL H' d l → Fr1 d H H' → Q (.int g) H'
def spInt : Sp := fun vs H Q _ => ∃ n : Int, vs = [.int n] ∧ Q (.bl true) H
def spWays : Sp := fun vs H Q _ => ∃ m k : Int, vs = [.int m, .int k] ∧ m < 512 ∧ Q (.int (MB.W m k)) H
theorem spTake_b {d l : Addr} {m : Int} {H : Hp} {Q : VK} {E : XK} (D : DrL H d l) (h1 : 0 < m) (n : Nat) (h2 : m.natAbs < 2 ^ n) (h3 : n ≤ 9000) (k : ∀ (g : Int) (H' : Hp), 0 ≤ g → g < m → DrL H' d l → Fr1 d H H' → Q (.int g) H') : spTake [.ref d, .int m] H Q E :=
  ⟨d, l, m, rfl, D, h1, ⟨n, h2, h3⟩, k⟩
theorem spTake_l {d l : Addr} {m : Int} {H : Hp} {Q : VK} {E : XK} (D : DrL H d l) (h1 : 0 < m) (h2 : m < 4294967296) (k : ∀ (g : Int) (H' : Hp), 0 ≤ g → g < m → DrL H' d l → Fr1 d H H' → Q (.int g) H') : spTake [.ref d, .int m] H Q E :=
  ⟨d, l, m, rfl, D, h1, ⟨32, by omega, by decide⟩, k⟩
theorem spTake_i {d : Addr} {m : Int} {H : Hp} {Q : VK} {E : XK} (D : Dr H d) (h1 : 0 < m) (h2 : m < 4294967296) (k : ∀ (g : Int) (H' : Hp), 0 ≤ g → g < m → Dr H' d → Fr1 d H H' → Q (.int g) H') : spTake [.ref d, .int m] H Q E :=
  let ⟨l, D⟩ := D; ⟨d, l, m, rfl, D, h1, ⟨32, by omega, by decide⟩, fun g H' a b c e => k g H' a b ⟨l, c⟩ e⟩
theorem spWays_i {m k : Int} {H : Hp} {Q : VK} {E : XK} (h : m < 512) (q : Q (.int (MB.W m k)) H) : spWays [.int m, .int k] H Q E := ⟨m, k, rfl, h, q⟩
theorem spInt_i {n : Int} {H : Hp} {Q : VK} {E : XK} (q : Q (.bl true) H) : spInt [.int n] H Q E := ⟨n, rfl, q⟩
/-- a number either way, of at most 120 bits -/
def spWide : Sp := fun vs H Q _ => ∃ d l : Addr, vs = [.ref d] ∧ DrL H d l ∧ ∀ (g : Int) (H' : Hp), g.natAbs < 2 ^ 120 → DrL H' d l → Fr1 d H H' → Q (.int g) H'
theorem spWide_l {d l : Addr} {H : Hp} {Q : VK} {E : XK} (D : DrL H d l) (k : ∀ (g : Int) (H' : Hp), g.natAbs < 2 ^ 120 → DrL H' d l → Fr1 d H H' → Q (.int g) H') : spWide [.ref d] H Q E := ⟨d, l, rfl, D, k⟩
theorem spWide_i {d : Addr} {H : Hp} {Q : VK} {E : XK} (D : Dr H d) (k : ∀ (g : Int) (H' : Hp), g.natAbs < 2 ^ 120 → Dr H' d → Fr1 d H H' → Q (.int g) H') : spWide [.ref d] H Q E := let ⟨l, D⟩ := D; ⟨d, l, rfl, D, fun g H' a b c => k g H' a ⟨l, b⟩ c⟩
/-! ### fractions -/
def gI (a b : Int) : Int := (Nat.gcd a.natAbs b.natAbs : Int)
def spGcd : Sp := fun vs H Q _ => ∃ a b : Int, vs = [.int a, .int b] ∧ 0 ≤ a ∧ 0 ≤ b ∧ Q (.int (gI a b)) H
theorem spGcd_i {a b : Int} {H : Hp} {Q : VK} {E : XK} (h1 : 0 ≤ a) (h2 : 0 ≤ b) (q : Q (.int (gI a b)) H) : spGcd [.int a, .int b] H Q E := ⟨a, b, rfl, h1, h2, q⟩
/-- a fraction in lowest terms, as a new tuple -/
def loT (t b : Int) : Int := t / gI t b
def loB (t b : Int) : Int := b / gI t b
def spLow : Sp := fun vs H Q _ => ∃ t b : Int, vs = [.int t, .int b] ∧ 0 < b ∧ (∃ n : Nat, b.natAbs < 2 ^ n ∧ n ≤ 9000) ∧ ∀ p : Addr, H p = none → Q (.ref p) (upd H p (.tup [.int (loT t b), .int (loB t b)]))
theorem spLow_i {t b : Int} {H : Hp} {Q : VK} {E : XK} (n : Nat) (h1 : 0 < b) (h2 : b.natAbs < 2 ^ n) (h3 : n ≤ 9000) (q : ∀ p : Addr, H p = none → Q (.ref p) (upd H p (.tup [.int (loT t b), .int (loB t b)]))) : spLow [.int t, .int b] H Q E := ⟨t, b, rfl, h1, ⟨n, h2, h3⟩, q⟩
def spPart : Sp := fun vs H Q _ => ∃ (p r : Addr) (a b c e : Int), vs = [.ref p, .ref r] ∧ H p = some (.tup [.int a, .int b]) ∧ H r = some (.tup [.int c, .int e]) ∧ Q (.bl (decide ([a, b] = [c, e]))) H
theorem spPart_i {p r : Addr} {a b c e : Int} {H : Hp} {Q : VK} {E : XK} (h1 : H p = some (.tup [.int a, .int b])) (h2 : H r = some (.tup [.int c, .int e])) (q : Q (.bl (decide ([a, b] = [c, e]))) H) : spPart [.ref p, .ref r] H Q E := ⟨p, r, a, b, c, e, rfl, h1, h2, q⟩
theorem gI_zero (a : Int) : gI a 0 = (a.natAbs : Int) := by unfold gI; rw [Int.natAbs_zero, Nat.gcd_zero_right]
theorem gI_rec {a b : Int} (ha : 0 ≤ a) (hb : 0 < b) : gI b (a % b) = gI a b := by
  unfold gI
  have e : (a % b).natAbs = a.natAbs % b.natAbs := by
    rw [Int.natAbs_emod_of_nonneg ha]
  rw [e, Nat.gcd_comm b.natAbs, ← Nat.gcd_rec, Nat.gcd_comm]
theorem gI_pos {a b : Int} (hb : 0 < b) : 0 < gI a b := by
  unfold gI
  have := Nat.gcd_pos_of_pos_right a.natAbs (show 0 < b.natAbs by omega)
  omega
theorem gI_le {a b : Int} (hb : 0 < b) : (gI a b).natAbs ≤ b.natAbs := by
  unfold gI
  have := Nat.gcd_le_right a.natAbs (show 0 < b.natAbs by omega)
  rw [Int.natAbs_natCast]
  exact this
theorem gI_abs (a b : Int) : gI (if a < 0 then -a else a) b = gI a b := by
  unfold gI
  have e : (if a < 0 then -a else a).natAbs = a.natAbs := by split <;> omega
  rw [e]
theorem gI_dvd_l (a b : Int) : gI a b ∣ a := by
  unfold gI
  have := Nat.gcd_dvd_left a.natAbs b.natAbs
  exact Int.ofNat_dvd_left.mpr this
theorem gI_dvd_r (a b : Int) : gI a b ∣ b := by
  unfold gI
  have := Nat.gcd_dvd_right a.natAbs b.natAbs
  exact Int.ofNat_dvd_left.mpr this
theorem lo_cross {t b : Int} (hb : 0 < b) : loT t b * b = t * loB t b := by
  have hg := gI_pos (a := t) hb
  obtain ⟨x, hx⟩ := gI_dvd_l t b
  obtain ⟨y, hy⟩ := gI_dvd_r t b
  unfold loT loB
  generalize gI t b = g at *
  subst hx hy
  rw [Int.mul_ediv_cancel_left _ (by omega), Int.mul_ediv_cancel_left _ (by omega), Int.mul_comm g x, Int.mul_assoc]
theorem loB_pos {t b : Int} (hb : 0 < b) : 0 < loB t b := Int.ediv_pos_of_pos_of_dvd hb (by have := gI_pos (a := t) hb; omega) (gI_dvd_r t b)
theorem loT_abs (t b : Int) : (loT t b).natAbs ≤ t.natAbs := Int.natAbs_ediv_le_natAbs _ _
theorem loB_abs (t b : Int) : (loB t b).natAbs ≤ b.natAbs := Int.natAbs_ediv_le_natAbs _ _
end BL

/-! THE MATHEMATICS of picks and their numbers: the program's own way through the places. -/
namespace MB
/-- of all picks of k out of n, those that have the first place -/
def hv : Nat → Nat → Nat
  | n + 1, k + 1 => ch n k
  | _, _ => 0
theorem hv_zero (n : Nat) : hv n 0 = 0 := by cases n <;> rfl
theorem hv_ss (n k : Nat) : hv (n + 1) (k + 1) = ch n k := rfl
theorem hv_rest (n k : Nat) : ch (n + 1) k = hv (n + 1) k + ch n k := by
  cases k with
  | zero => rw [hv_zero, ch_zero, ch_zero]
  | succ k => rw [hv_ss, ch_ss]
theorem hv_div (n k : Nat) (h : k ≤ n + 1) : (ch (n + 1) k : Int) * (k : Int) / ((n : Int) + 1) = (hv (n + 1) k : Int) := by
  cases k with
  | zero => rw [hv_zero]; simp
  | succ k =>
    rw [hv_ss]
    have e := ch_absorb n k
    have e1 : (ch (n + 1) (k + 1) : Int) * ((k + 1 : Nat) : Int) = (ch n k : Int) * ((n : Int) + 1) := by
      rw [show ((n : Int) + 1) = ((n + 1 : Nat) : Int) by omega, ← Int.natCast_mul, ← Int.natCast_mul, Nat.mul_comm, e, Nat.mul_comm]
    rw [e1, Int.mul_ediv_cancel _ (by omega)]
/-- the pick of k out of the n places from p on that has the number r -/
def pk : Nat → Nat → Nat → Nat → List Nat
  | 0, _, _, _ => []
  | n + 1, p, k, r => if r < hv (n + 1) k then p :: pk n (p + 1) (k - 1) r else pk n (p + 1) k (r - hv (n + 1) k)
/-- the number of a pick out of the n places from p on -/
def nm : Nat → Nat → List Nat → Nat
  | 0, _, _ => 0
  | n + 1, p, l => match l with
    | [] => 0
    | x :: r => if x = p then nm n (p + 1) r else hv (n + 1) (r.length + 1) + nm n (p + 1) (x :: r)
theorem nm_nil (n p : Nat) : nm n p [] = 0 := by cases n <;> rfl
theorem nm_eq (n p : Nat) (r : List Nat) : nm (n + 1) p (p :: r) = nm n (p + 1) r := by
  rw [show nm (n + 1) p (p :: r) = if p = p then nm n (p + 1) r else hv (n + 1) (r.length + 1) + nm n (p + 1) (p :: r) from rfl, if_pos rfl]
theorem nm_ne {n p x : Nat} {r : List Nat} (h : ¬ x = p) : nm (n + 1) p (x :: r) = ch n r.length + nm n (p + 1) (x :: r) := by
  rw [show nm (n + 1) p (x :: r) = if x = p then nm n (p + 1) r else hv (n + 1) (r.length + 1) + nm n (p + 1) (x :: r) from rfl, if_neg h, hv_ss]
theorem pk_in {n p k r : Nat} (h : r < hv (n + 1) k) : pk (n + 1) p k r = p :: pk n (p + 1) (k - 1) r := by
  rw [show pk (n + 1) p k r = if r < hv (n + 1) k then p :: pk n (p + 1) (k - 1) r else pk n (p + 1) k (r - hv (n + 1) k) from rfl, if_pos h]
theorem pk_out {n p k r : Nat} (h : ¬ r < hv (n + 1) k) : pk (n + 1) p k r = pk n (p + 1) k (r - hv (n + 1) k) := by
  rw [show pk (n + 1) p k r = if r < hv (n + 1) k then p :: pk n (p + 1) (k - 1) r else pk n (p + 1) k (r - hv (n + 1) k) from rfl, if_neg h]
/-- rising places from p on, below e -/
def Ris : Nat → Nat → List Nat → Prop
  | _, _, [] => True
  | p, e, x :: r => p ≤ x ∧ x < e ∧ Ris (x + 1) e r
theorem Ris.mono : ∀ {l : List Nat} {p q e : Nat}, q ≤ p → Ris p e l → Ris q e l
  | [], _, _, _, _, _ => trivial
  | _ :: _, _, _, _, h, ⟨h1, h2, h3⟩ => ⟨by omega, h2, h3⟩
theorem Ris.len : ∀ {l : List Nat} {p e : Nat}, Ris p e l → l.length ≤ e - p
  | [], _, _, _ => Nat.zero_le _
  | x :: r, p, e, ⟨h1, h2, h3⟩ => by
    have := Ris.len h3
    simp only [List.length_cons]; omega
theorem nm_lt : ∀ {n p : Nat} {l : List Nat}, Ris p (p + n) l → nm n p l < ch n l.length
  | n, p, [], _ => by rw [nm_nil, List.length_nil, ch_zero]; decide
  | 0, p, x :: r, ⟨h1, h2, _⟩ => by omega
  | n + 1, p, x :: r, ⟨h1, h2, h3⟩ => by
    rw [List.length_cons, ch_ss]
    by_cases e : x = p
    · subst e
      rw [nm_eq]
      have := nm_lt (n := n) (p := x + 1) (l := r) (by rw [show x + 1 + n = x + (n + 1) by omega]; exact h3)
      omega
    · rw [nm_ne e]
      have := nm_lt (n := n) (p := p + 1) (l := x :: r) ⟨by omega, by omega, by rw [show p + 1 + n = p + (n + 1) by omega]; exact h3⟩
      rw [List.length_cons] at this
      omega
theorem pk_zero : ∀ (n p : Nat), pk n p 0 0 = []
  | 0, _ => rfl
  | n + 1, p => by rw [pk_out (by rw [hv_zero]; omega), hv_zero, pk_zero n]
theorem pk_nm : ∀ {n p : Nat} {l : List Nat}, Ris p (p + n) l → pk n p l.length (nm n p l) = l
  | n, p, [], _ => by rw [nm_nil]; exact pk_zero n p
  | 0, p, x :: r, ⟨h1, h2, _⟩ => by omega
  | n + 1, p, x :: r, ⟨h1, h2, h3⟩ => by
    rw [List.length_cons]
    by_cases e : x = p
    · subst e
      have h3' : Ris (x + 1) (x + 1 + n) r := by rw [show x + 1 + n = x + (n + 1) by omega]; exact h3
      rw [nm_eq, pk_in (by rw [hv_ss]; exact nm_lt h3')]
      rw [show r.length + 1 - 1 = r.length by omega, pk_nm h3']
    · rw [nm_ne e, pk_out (by rw [hv_ss]; omega), hv_ss]
      have h3' : Ris (p + 1) (p + 1 + n) (x :: r) := ⟨by omega, by omega, by rw [show p + 1 + n = p + (n + 1) by omega]; exact h3⟩
      have := pk_nm h3'
      rw [show ch n r.length + nm n (p + 1) (x :: r) - ch n r.length = nm n (p + 1) (x :: r) by omega]
      exact this
theorem pk_ok : ∀ {n p k r : Nat}, r < ch n k → (pk n p k r).length = k ∧ Ris p (p + n) (pk n p k r)
  | 0, p, 0, r, _ => ⟨rfl, trivial⟩
  | 0, p, k + 1, r, h => by rw [ch_zs] at h; omega
  | n + 1, p, k, r, h => by
    by_cases e : r < hv (n + 1) k
    · rw [pk_in e]
      cases k with
      | zero => rw [hv_zero] at e; omega
      | succ k =>
        rw [hv_ss] at e
        have ih := pk_ok (n := n) (p := p + 1) (k := k) (r := r) e
        rw [show k + 1 - 1 = k by omega]
        exact ⟨by rw [List.length_cons, ih.1], Nat.le_refl _, by omega, by rw [show p + (n + 1) = p + 1 + n by omega]; exact ih.2⟩
    · rw [pk_out e]
      rw [hv_rest] at h
      have ih := pk_ok (n := n) (p := p + 1) (k := k) (r := r - hv (n + 1) k) (by omega)
      exact ⟨ih.1, (by rw [show p + (n + 1) = p + 1 + n by omega]; exact ih.2 : Ris (p + 1) (p + (n + 1)) _).mono (by omega)⟩
theorem nm_pk : ∀ {n p k r : Nat}, r < ch n k → nm n p (pk n p k r) = r
  | 0, p, 0, r, h => by rw [ch_zero] at h; unfold nm; omega
  | 0, p, k + 1, r, h => by rw [ch_zs] at h; omega
  | n + 1, p, k, r, h => by
    by_cases e : r < hv (n + 1) k
    · rw [pk_in e]
      cases k with
      | zero => rw [hv_zero] at e; omega
      | succ k =>
        rw [hv_ss] at e
        rw [show k + 1 - 1 = k by omega, nm_eq]
        exact nm_pk e
    · rw [pk_out e]
      rw [hv_rest] at h
      have ih := nm_pk (n := n) (p := p + 1) (k := k) (r := r - hv (n + 1) k) (by omega)
      have ok := pk_ok (n := n) (p := p + 1) (k := k) (r := r - hv (n + 1) k) (by omega)
      cases q : pk n (p + 1) k (r - hv (n + 1) k) with
      | nil =>
        rw [q] at ih ok
        rw [nm_nil] at ih ⊢
        have : k = 0 := by rw [← ok.1]; rfl
        subst this
        rw [hv_zero] at *
        omega
      | cons x l =>
        rw [q] at ih ok
        obtain ⟨o1, o2, o3, _⟩ := ok
        rw [nm_ne (by omega), ih]
        have : l.length + 1 = k := by rw [← o1]; rfl
        subst this
        rw [hv_ss] at *
        omega
/-- t < u of tuples -/
def lexN : List Nat → List Nat → Prop
  | [], [] => False
  | [], _ :: _ => True
  | _ :: _, [] => False
  | x :: xs, y :: ys => x < y ∨ (x = y ∧ lexN xs ys)
theorem pk_lt : ∀ {n p k r s : Nat}, r < s → s < ch n k → lexN (pk n p k r) (pk n p k s)
  | 0, p, 0, r, s, h, h2 => by rw [ch_zero] at h2; omega
  | 0, p, k + 1, r, s, h, h2 => by rw [ch_zs] at h2; omega
  | n + 1, p, k, r, s, h, h2 => by
    by_cases e2 : s < hv (n + 1) k
    · rw [pk_in e2, pk_in (show r < hv (n + 1) k by omega)]
      cases k with
      | zero => rw [hv_zero] at e2; omega
      | succ k =>
        rw [hv_ss] at e2
        rw [show k + 1 - 1 = k by omega]
        exact .inr ⟨rfl, pk_lt h e2⟩
    · rw [pk_out e2]
      rw [hv_rest] at h2
      by_cases e1 : r < hv (n + 1) k
      · rw [pk_in e1]
        cases k with
        | zero => rw [hv_zero] at e1; omega
        | succ k =>
          have ok := pk_ok (n := n) (p := p + 1) (k := k + 1) (r := s - hv (n + 1) (k + 1)) (by omega)
          cases q : pk n (p + 1) (k + 1) (s - hv (n + 1) (k + 1)) with
          | nil => rw [q] at ok; have := ok.1; simp at this
          | cons x l =>
            rw [q] at ok
            obtain ⟨_, o2, _⟩ := ok
            exact .inl (by omega)
      · rw [pk_out e1]
        exact pk_lt (by omega) (by omega)
/-- the first pick -/
def run (x : Nat) : Nat → List Nat
  | 0 => []
  | k + 1 => x :: run (x + 1) k
theorem run_len : ∀ (k x : Nat), (run x k).length = k
  | 0, _ => rfl
  | k + 1, x => by unfold run; rw [List.length_cons, run_len k]
theorem nm_run : ∀ (n p k : Nat), k ≤ n → nm n p (run p k) = 0
  | 0, _, _, _ => rfl
  | n + 1, p, 0, _ => rfl
  | n + 1, p, k + 1, h => by
    unfold run
    rw [nm_eq]
    exact nm_run n (p + 1) k (by omega)
theorem ris_run : ∀ (k p e : Nat), p + k ≤ e → Ris p e (run p k)
  | 0, _, _, _ => trivial
  | k + 1, p, e, h => ⟨Nat.le_refl _, by omega, ris_run k (p + 1) e (by omega)⟩
/-- the pick that follows, of places below e -/
def nxt (e : Nat) : List Nat → Option (List Nat)
  | [] => none
  | x :: l => match nxt e l with
    | some l' => some (x :: l')
    | none => if x + 1 + l.length < e then some (run (x + 1) (l.length + 1)) else none
theorem nxt_len : ∀ {e : Nat} {l l' : List Nat}, nxt e l = some l' → l'.length = l.length
  | e, [], l', h => by cases h
  | e, x :: l, l', h => by
    unfold nxt at h
    cases q : nxt e l with
    | some m =>
      rw [q] at h
      cases h
      rw [List.length_cons, List.length_cons, nxt_len q]
    | none =>
      rw [q] at h
      dsimp only at h
      split at h
      · cases h; rw [run_len, List.length_cons]
      · cases h
theorem nxt_ris : ∀ {e p : Nat} {l l' : List Nat}, Ris p e l → nxt e l = some l' → Ris p e l'
  | e, p, [], l', _, h => by cases h
  | e, p, x :: l, l', ⟨h1, h2, h3⟩, h => by
    unfold nxt at h
    cases q : nxt e l with
    | some m =>
      rw [q] at h
      cases h
      exact ⟨h1, h2, nxt_ris h3 q⟩
    | none =>
      rw [q] at h
      dsimp only at h
      split at h
      · cases h
        exact (ris_run _ (x + 1) e (by omega)).mono (by omega)
      · cases h
theorem nm_nxt : ∀ {n p : Nat} {l : List Nat}, Ris p (p + n) l → match nxt (p + n) l with
    | some l' => nm n p l' = nm n p l + 1
    | none => nm n p l + 1 = ch n l.length
  | 0, p, [], _ => rfl
  | 0, p, x :: r, ⟨h1, h2, _⟩ => by omega
  | n + 1, p, [], _ => by
    show nm (n + 1) p [] + 1 = ch (n + 1) 0
    rw [nm_nil, ch_zero]
  | n + 1, p, x :: r, hr => by
    obtain ⟨h1, h2, h3⟩ := id hr
    have ee : p + (n + 1) = p + 1 + n := by omega
    by_cases e : x = p
    · subst e
      have ih := nm_nxt (n := n) (p := x + 1) (l := r) (by rw [← ee]; exact h3)
      rw [← ee] at ih
      have e0 : nm (n + 1) x (x :: r) = nm n (x + 1) r := nm_eq n x r
      unfold nxt
      cases q : nxt (x + (n + 1)) r with
      | some m =>
        rw [q] at ih
        dsimp only at ih ⊢
        rw [e0]
        rw [nm_eq]; exact ih
      | none =>
        rw [q] at ih
        dsimp only at ih ⊢
        have hl := h3.len
        by_cases c : x + 1 + r.length < x + (n + 1)
        · rw [if_pos c]
          dsimp only
          rw [e0, ih]
          show nm (n + 1) x ((x + 1) :: run (x + 1 + 1) r.length) = _
          rw [nm_ne (by omega), run_len]
          have := nm_run n (x + 1) (r.length + 1) (by omega)
          unfold run at this
          rw [this]; rfl
        · rw [if_neg c]
          dsimp only
          rw [e0, ih]
          have : r.length = n := by omega
          rw [List.length_cons, this, ch_self, ch_self]
    · have ih := nm_nxt (n := n) (p := p + 1) (l := x :: r) ⟨by omega, by omega, by rw [← ee]; exact h3⟩
      rw [← ee] at ih
      have e0 : ∀ (y : Nat) (l : List Nat), ¬ y = p → nm (n + 1) p (y :: l) = ch n l.length + nm n (p + 1) (y :: l) := fun y l hy => nm_ne hy
      cases q : nxt (p + (n + 1)) (x :: r) with
      | some m =>
        rw [q] at ih
        dsimp only at ih ⊢
        have hm := nxt_ris (p := p + 1) (l := x :: r) ⟨by omega, h2, h3⟩ q
        have hl := nxt_len q
        cases m with
        | nil => simp at hl
        | cons y l =>
          obtain ⟨y1, _⟩ := hm
          have hl' : l.length = r.length := by simpa using hl
          rw [e0 y l (by omega), e0 x r e, ih, hl']
          omega
      | none =>
        rw [q] at ih
        dsimp only at ih ⊢
        rw [List.length_cons] at ih ⊢
        rw [e0 x r e, ch_ss]
        omega
end MB

/-! THE PROMISES of the program's picks. -/
namespace BL
open PySem PySem.Spec PyProof.Rows L2
/-- places as whole numbers of Python -/
def zs (l : List Nat) : List Int := l.map (fun x : Nat => (x : Int))
def tupN (l : List Nat) : HO := .tup ((zs l).map V.int)
def lstN (l : List Nat) : HO := .lst ((zs l).map V.int)
theorem zs_append (a b : List Nat) : zs (a ++ b) = zs a ++ zs b := List.map_append
theorem zs_len (l : List Nat) : (zs l).length = l.length := List.length_map _
theorem zs_inj : ∀ {a b : List Nat}, zs a = zs b → a = b
  | [], [], _ => rfl
  | [], _ :: _, h => by cases h
  | _ :: _, [], h => by cases h
  | x :: a, y :: b, h => by
    have h : (x : Int) :: zs a = (y : Int) :: zs b := h
    injection h with h1 h2
    rw [zs_inj h2]
    congr 1
    omega
theorem lst_snoc (l : List Nat) (x : Nat) : ((zs l).map V.int ++ [V.int (x : Int)]) = (zs (l ++ [x])).map V.int := by
  unfold zs; simp
def spFirst : Sp := fun vs H Q _ => ∃ t n k : Int, vs = [.int t, .int n, .int k] ∧ 0 < n ∧ n < 4294967296 ∧ -4294967296 < k ∧ k < 4294967296 ∧ Q (.int (t * k / n)) H
theorem spFirst_i {t n k : Int} {H : Hp} {Q : VK} {E : XK} (h1 : 0 < n) (h2 : n < 4294967296) (h3 : -4294967296 < k) (h4 : k < 4294967296) (q : Q (.int (t * k / n)) H) : spFirst [.int t, .int n, .int k] H Q E := ⟨t, n, k, rfl, h1, h2, h3, h4, q⟩
def spPick : Sp := fun vs H Q _ => ∃ m k r : Nat, vs = [.int m, .int k, .int r] ∧ m < 512 ∧ r < MB.ch m k ∧ ∀ (t : Addr) (H' : Hp), H t = none → Same H H' → H' t = some (tupN (MB.pk m 0 k r)) → Q (.ref t) H'
theorem spPick_i {m k r : Nat} {H : Hp} {Q : VK} {E : XK} (h1 : m < 512) (h2 : r < MB.ch m k) (q : ∀ (t : Addr) (H' : Hp), H t = none → Same H H' → H' t = some (tupN (MB.pk m 0 k r)) → Q (.ref t) H') : spPick [.int m, .int k, .int r] H Q E := ⟨m, k, r, rfl, h1, h2, q⟩
/-- is_pick's answer -/
def pkB (many : Int) : Int → List Int → Bool
  | _, [] => true
  | last, x :: r => if x ≤ last ∨ x ≥ many then false else pkB many x r
theorem pkB_of {e : Nat} : ∀ {l : List Nat} {p : Nat}, MB.Ris p e l → pkB e ((p : Int) - 1) (zs l) = true
  | [], _, _ => rfl
  | x :: r, p, ⟨h1, h2, h3⟩ => by
    show (if (x : Int) ≤ (p : Int) - 1 ∨ (x : Int) ≥ e then false else pkB e (x : Int) (zs r)) = true
    rw [if_neg (by omega)]
    have := pkB_of h3
    rw [show ((x + 1 : Nat) : Int) - 1 = (x : Int) by omega] at this
    exact this
def spIsPick : Sp := fun vs H Q _ => ∃ (m : Int) (t : Addr) (ns : List Int), vs = [.int m, .ref t] ∧ H t = some (.tup (ns.map V.int)) ∧ Q (.bl (pkB m (-1) ns)) H
theorem spIsPick_i {m : Int} {t : Addr} {ns : List Int} {H : Hp} {Q : VK} {E : XK} (h1 : H t = some (.tup (ns.map V.int))) (q : Q (.bl (pkB m (-1) ns)) H) : spIsPick [.int m, .ref t] H Q E := ⟨m, t, ns, rfl, h1, q⟩
def spNumber : Sp := fun vs H Q _ => ∃ (m : Nat) (t : Addr) (l : List Nat), vs = [.int m, .ref t] ∧ H t = some (tupN l) ∧ m < 512 ∧ MB.Ris 0 m l ∧ Q (.int (MB.nm m 0 l)) H
theorem spNumber_i {m : Nat} {t : Addr} {l : List Nat} {H : Hp} {Q : VK} {E : XK} (h1 : H t = some (tupN l)) (h2 : m < 512) (h3 : MB.Ris 0 m l) (q : Q (.int (MB.nm m 0 l)) H) : spNumber [.int m, .ref t] H Q E := ⟨m, t, l, rfl, h1, h2, h3, q⟩
theorem len_lstN (l : List Nat) : ((zs l).map V.int).length = l.length := by rw [List.length_map, zs_len]
theorem atI_lstN {l : List Nat} {i : Nat} {x : Nat} (h : l[i]? = some x) : atI ((zs l).map V.int) (i : Int) = some (.int (x : Int)) := by
  refine atI_nat ?_
  unfold zs
  rw [List.getElem?_map, List.getElem?_map, h]; rfl
/-- one turn of pick -/
theorem turn_having {m i k : Nat} (h : i < m) (hk : k ≤ m - i) : (MB.ch (m - i) k : Int) * (k : Int) / ((m : Int) - (i : Int)) = (MB.hv (m - i) k : Int) := by
  obtain ⟨n, hn⟩ : ∃ n, m - i = n + 1 := ⟨m - i - 1, by omega⟩
  have := MB.hv_div n k (by omega)
  rw [hn]
  rw [show ((m : Int) - (i : Int)) = (n : Int) + 1 by omega]
  exact this
theorem ch_hv {m i k : Nat} (h : i < m) : MB.ch (m - i) k = MB.hv (m - i) k + MB.ch (m - (i + 1)) k := by
  obtain ⟨n, hn⟩ : ∃ n, m - i = n + 1 := ⟨m - i - 1, by omega⟩
  rw [hn, show m - (i + 1) = n by omega]
  exact MB.hv_rest n k
theorem hv_ch {m i k : Nat} (h : i < m) : MB.hv (m - i) (k + 1) = MB.ch (m - (i + 1)) k := by
  obtain ⟨n, hn⟩ : ∃ n, m - i = n + 1 := ⟨m - i - 1, by omega⟩
  rw [hn, show m - (i + 1) = n by omega]; rfl
theorem hv_pos {m i k r : Nat} (h : r < MB.hv (m - i) k) : ∃ j, k = j + 1 := by
  cases k with
  | zero => rw [MB.hv_zero] at h; omega
  | succ j => exact ⟨j, rfl⟩
theorem pk_in' {m i k r : Nat} (h : i < m) (hr : r < MB.hv (m - i) k) : MB.pk (m - i) i k r = i :: MB.pk (m - (i + 1)) (i + 1) (k - 1) r := by
  obtain ⟨n, hn⟩ : ∃ n, m - i = n + 1 := ⟨m - i - 1, by omega⟩
  rw [hn] at hr ⊢
  rw [show m - (i + 1) = n by omega]
  exact MB.pk_in hr
theorem pk_out' {m i k r : Nat} (h : i < m) (hr : ¬ r < MB.hv (m - i) k) : MB.pk (m - i) i k r = MB.pk (m - (i + 1)) (i + 1) k (r - MB.hv (m - i) k) := by
  obtain ⟨n, hn⟩ : ∃ n, m - i = n + 1 := ⟨m - i - 1, by omega⟩
  rw [hn] at hr ⊢
  rw [show m - (i + 1) = n by omega]
  exact MB.pk_out hr
theorem ch_le_of {n k r : Nat} (h : r < MB.ch n k) : k ≤ n := by
  rcases Nat.lt_or_ge n k with z | z
  · rw [MB.ch_gt z] at h; omega
  · exact z
theorem nm_eq' {m i : Nat} {r : List Nat} (h : i < m) : MB.nm (m - i) i (i :: r) = MB.nm (m - (i + 1)) (i + 1) r := by
  obtain ⟨n, hn⟩ : ∃ n, m - i = n + 1 := ⟨m - i - 1, by omega⟩
  rw [hn, show m - (i + 1) = n by omega]
  exact MB.nm_eq n i r
theorem nm_ne' {m i : Nat} {r : List Nat} (h : i < m) (hr : ∀ x l, r = x :: l → ¬ x = i) : MB.nm (m - i) i r = MB.hv (m - i) r.length + MB.nm (m - (i + 1)) (i + 1) r := by
  obtain ⟨n, hn⟩ : ∃ n, m - i = n + 1 := ⟨m - i - 1, by omega⟩
  rw [hn, show m - (i + 1) = n by omega]
  cases r with
  | nil => rw [MB.nm_nil, MB.nm_nil, List.length_nil, MB.hv_zero]
  | cons x l => rw [MB.nm_ne (hr x l rfl), List.length_cons, MB.hv_ss]
theorem ris_get : ∀ {l : List Nat} {p e j x : Nat}, MB.Ris p e l → l[j]? = some x → p ≤ x ∧ x < e
  | [], _, _, _, _, _, h => by simp at h
  | y :: r, p, e, 0, x, ⟨h1, h2, _⟩, h => by simp at h; subst h; exact ⟨h1, h2⟩
  | y :: r, p, e, j + 1, x, ⟨h1, h2, h3⟩, h => by
    have := ris_get (j := j) (x := x) h3 (by simpa using h)
    omega
theorem ris_lt : ∀ {l : List Nat} {p e j x y : Nat}, MB.Ris p e l → l[j]? = some x → l[j + 1]? = some y → x < y
  | [], _, _, _, _, _, _, h, _ => by simp at h
  | z :: r, p, e, 0, x, y, ⟨h1, h2, h3⟩, h, h' => by
    simp at h; subst h
    have := ris_get (j := 0) (x := y) h3 (by simpa using h')
    omega
  | z :: r, p, e, j + 1, x, y, ⟨h1, h2, h3⟩, h, h' => ris_lt (j := j) h3 (by simpa using h) (by simpa using h')
theorem lex_le : ∀ {a b : List Nat}, MB.lexN a b → HT.lexLe (zs b) (zs a) = false
  | [], [], h => h.elim
  | [], y :: b, _ => rfl
  | _ :: _, [], h => h.elim
  | x :: a, y :: b, h => by
    show (if (y : Int) = (x : Int) then HT.lexLe (zs b) (zs a) else decide ((y : Int) ≤ (x : Int))) = false
    rcases h with h | ⟨h, h2⟩
    · rw [if_neg (by omega)]; exact decide_eq_false (by omega)
    · rw [if_pos (by omega)]; exact lex_le h2
end BL

/-! THE MATHEMATICS of fractions: lowest terms are one pair; the mean of several. -/
namespace BL
theorem lo_coprime {t b : Int} (hb : 0 < b) : Nat.gcd (loT t b).natAbs (loB t b).natAbs = 1 := by
  have hg := gI_pos (a := t) hb
  obtain ⟨x, hx⟩ := gI_dvd_l t b
  obtain ⟨y, hy⟩ := gI_dvd_r t b
  have e1 : loT t b = x := by unfold loT; rw [show t / gI t b = (gI t b * x) / gI t b from by rw [← hx], Int.mul_ediv_cancel_left _ (by omega)]
  have e2 : loB t b = y := by unfold loB; rw [show b / gI t b = (gI t b * y) / gI t b from by rw [← hy], Int.mul_ediv_cancel_left _ (by omega)]
  rw [e1, e2]
  have e3 : t.natAbs = (gI t b).natAbs * x.natAbs := by rw [← Int.natAbs_mul, ← hx]
  have e4 : b.natAbs = (gI t b).natAbs * y.natAbs := by rw [← Int.natAbs_mul, ← hy]
  have e5 : (gI t b).natAbs = Nat.gcd t.natAbs b.natAbs := by unfold gI; rw [Int.natAbs_natCast]
  have e6 : Nat.gcd t.natAbs b.natAbs = (gI t b).natAbs * Nat.gcd x.natAbs y.natAbs := by
    rw [← Nat.gcd_mul_left, ← e3, ← e4]
  rw [← e5] at e6
  have hp : 0 < (gI t b).natAbs := by omega
  have : (gI t b).natAbs * 1 = (gI t b).natAbs * Nat.gcd x.natAbs y.natAbs := by rw [Nat.mul_one]; exact e6
  exact (Nat.eq_of_mul_eq_mul_left hp this).symm
theorem lo_unique {t b u c : Int} (hb : 0 < b) (hc : 0 < c) (h : t * c = u * b) : loT t b = loT u c ∧ loB t b = loB u c := by
  have x1 := lo_cross (t := t) hb
  have x2 := lo_cross (t := u) hc
  have p1 := loB_pos (t := t) hb
  have p2 := loB_pos (t := u) hc
  have c1 := lo_coprime (t := t) hb
  have c2 := lo_coprime (t := u) hc
  generalize loT t b = t1 at *
  generalize loB t b = b1 at *
  generalize loT u c = u1 at *
  generalize loB u c = c1' at *
  -- t1 * c1' = u1 * b1
  have key : t1 * c1' = u1 * b1 := by
    have hbc : b * c ≠ 0 := Int.mul_ne_zero (by omega) (by omega)
    have e : (t1 * c1') * (b * c) = (u1 * b1) * (b * c) := by
      calc (t1 * c1') * (b * c) = (t1 * b) * (c1' * c) := by rw [Int.mul_assoc, Int.mul_assoc, Int.mul_left_comm c1' b c]
        _ = (t * b1) * (c1' * c) := by rw [x1]
        _ = (t * c) * (b1 * c1') := by rw [Int.mul_assoc, Int.mul_assoc, Int.mul_left_comm b1 c1' c, Int.mul_comm b1 c, Int.mul_left_comm c1' c b1, Int.mul_comm c1' b1]
        _ = (u * b) * (b1 * c1') := by rw [h]
        _ = (u * c1') * (b1 * b) := by rw [Int.mul_assoc, Int.mul_assoc, Int.mul_left_comm b b1 c1', Int.mul_comm b c1', Int.mul_left_comm b1 c1' b]
        _ = (u1 * c) * (b1 * b) := by rw [x2]
        _ = (u1 * b1) * (b * c) := by rw [Int.mul_assoc, Int.mul_assoc, Int.mul_left_comm c b1 b, Int.mul_comm c b]
    exact Int.eq_of_mul_eq_mul_right hbc e
  have n1 : t1.natAbs * c1'.natAbs = u1.natAbs * b1.natAbs := by rw [← Int.natAbs_mul, ← Int.natAbs_mul, key]
  have d1 : b1.natAbs ∣ c1'.natAbs := by
    have : b1.natAbs ∣ t1.natAbs * c1'.natAbs := ⟨u1.natAbs, by rw [n1, Nat.mul_comm]⟩
    exact Nat.Coprime.dvd_of_dvd_mul_left (by rw [Nat.coprime_comm]; exact c1) this
  have d2 : c1'.natAbs ∣ b1.natAbs := by
    have : c1'.natAbs ∣ u1.natAbs * b1.natAbs := ⟨t1.natAbs, by rw [← n1, Nat.mul_comm]⟩
    exact Nat.Coprime.dvd_of_dvd_mul_left (by rw [Nat.coprime_comm]; exact c2) this
  have e : b1.natAbs = c1'.natAbs := Nat.dvd_antisymm d1 d2
  have e' : b1 = c1' := by omega
  subst e'
  refine ⟨?_, rfl⟩
  exact Int.eq_of_mul_eq_mul_right (by omega) key
/-- the program's way to add one fraction, and the law's -/
def stP (s q : Int × Int) : Int × Int := (s.1 * (q.2 / gI s.2 q.2) + q.1 * (s.2 / gI s.2 q.2), s.2 * (q.2 / gI s.2 q.2))
def stL (s q : Int × Int) : Int × Int := (s.1 * q.2 + q.1 * s.2, s.2 * q.2)
def foP (qs : List (Int × Int)) : Int × Int := qs.foldl stP (0, 1)
def foL (qs : List (Int × Int)) : Int × Int := qs.foldl stL (0, 1)
theorem foP_snoc (qs : List (Int × Int)) (q : Int × Int) : foP (qs ++ [q]) = stP (foP qs) q := by unfold foP; rw [List.foldl_append]; rfl
theorem foL_snoc (qs : List (Int × Int)) (q : Int × Int) : foL (qs ++ [q]) = stL (foL qs) q := by unfold foL; rw [List.foldl_append]; rfl
theorem snoc_ind {α : Type} {P : List α → Prop} (h0 : P []) (hs : ∀ l x, P l → P (l ++ [x])) : ∀ l, P l := by
  intro l
  have : ∀ (r : List α), P r.reverse := by
    intro r
    induction r with
    | nil => exact h0
    | cons x r ih => rw [List.reverse_cons]; exact hs _ _ ih
  have := this l.reverse
  rwa [List.reverse_reverse] at this
theorem foL_pos : ∀ (qs : List (Int × Int)), (∀ q ∈ qs, 0 < q.2) → 0 < (foL qs).2 := by
  refine snoc_ind (fun _ => by decide) fun l q ih h => ?_
  rw [foL_snoc]
  exact Int.mul_pos (ih fun r hr => h r (List.mem_append_left _ hr)) (h q (List.mem_append_right _ (List.mem_singleton.mpr rfl)))
theorem stP_parts {s q : Int × Int} (hs : 0 < s.2) (hq : 0 < q.2) : ∃ g x y : Int, 0 < g ∧ gI s.2 q.2 = g ∧ s.2 = g * x ∧ q.2 = g * y ∧ 0 < x ∧ 0 < y ∧ q.2 / gI s.2 q.2 = y ∧ s.2 / gI s.2 q.2 = x := by
  have hg := gI_pos (a := s.2) hq
  obtain ⟨x, hx⟩ := gI_dvd_l s.2 q.2
  obtain ⟨y, hy⟩ := gI_dvd_r s.2 q.2
  have e1 : q.2 / gI s.2 q.2 = y := by rw [show q.2 / gI s.2 q.2 = (gI s.2 q.2 * y) / gI s.2 q.2 from by rw [← hy], Int.mul_ediv_cancel_left _ (by omega)]
  have e2 : s.2 / gI s.2 q.2 = x := by rw [show s.2 / gI s.2 q.2 = (gI s.2 q.2 * x) / gI s.2 q.2 from by rw [← hx], Int.mul_ediv_cancel_left _ (by omega)]
  have px : 0 < x := by rw [← e2]; exact Int.ediv_pos_of_pos_of_dvd hs (by omega) (gI_dvd_l _ _)
  have py : 0 < y := by rw [← e1]; exact Int.ediv_pos_of_pos_of_dvd hq (by omega) (gI_dvd_r _ _)
  exact ⟨_, x, y, hg, rfl, hx, hy, px, py, e1, e2⟩
theorem foP_pos : ∀ (qs : List (Int × Int)), (∀ q ∈ qs, 0 < q.2) → 0 < (foP qs).2 := by
  refine snoc_ind (fun _ => by decide) fun l q ih h => ?_
  rw [foP_snoc]
  have h1 := ih fun r hr => h r (List.mem_append_left _ hr)
  obtain ⟨g, x, y, _, _, _, _, _, py, e1, _⟩ := stP_parts h1 (h q (List.mem_append_right _ (List.mem_singleton.mpr rfl)))
  show 0 < (foP l).2 * _
  rw [e1]
  exact Int.mul_pos h1 py
theorem fo_cross : ∀ (qs : List (Int × Int)), (∀ q ∈ qs, 0 < q.2) → (foP qs).1 * (foL qs).2 = (foL qs).1 * (foP qs).2 := by
  refine snoc_ind (fun _ => by decide) fun l q ih h => ?_
  have hl : ∀ r ∈ l, 0 < r.2 := fun r hr => h r (List.mem_append_left _ hr)
  have hq := h q (List.mem_append_right _ (List.mem_singleton.mpr rfl))
  have c := ih hl
  have hp := foP_pos l hl
  rw [foP_snoc, foL_snoc]
  obtain ⟨g, x, y, hg, _, hx, hy, px, py, e1, e2⟩ := stP_parts hp hq
  show ((foP l).1 * _ + q.1 * _) * ((foL l).2 * q.2) = ((foL l).1 * q.2 + q.1 * (foL l).2) * ((foP l).2 * _)
  rw [e1, e2]
  generalize (foP l).1 = tp at *
  generalize (foL l).1 = tl at *
  generalize (foL l).2 = bl at *
  generalize (foP l).2 = bp at *
  generalize q.1 = t at *
  generalize q.2 = b at *
  -- (tp*y + t*x) * (bl*b) = (tl*b + t*bl) * (bp*y), bp = g x, b = g y, tp bl = tl bp
  have a1 : (tp * y + t * x) * (bl * b) = (tp * bl) * (y * b) + t * (bl * (x * b)) := by
    rw [Int.add_mul]
    congr 1
    · rw [Int.mul_assoc, Int.mul_assoc, Int.mul_left_comm y bl b]
    · rw [Int.mul_assoc, Int.mul_left_comm x bl b]
  have a2 : (tl * b + t * bl) * (bp * y) = (tl * bp) * (y * b) + t * (bl * (bp * y)) := by
    rw [Int.add_mul]
    congr 1
    · rw [Int.mul_assoc, Int.mul_assoc, Int.mul_left_comm b bp y, Int.mul_comm b y]
    · rw [Int.mul_assoc]
  rw [a1, a2, c]
  congr 3
  rw [hx, hy, Int.mul_assoc, Int.mul_left_comm]
/-- all of them above the mean, or below it: then the sum is no longer it -/
theorem above {T B : Int} (hB : 0 < B) : ∀ (qs : List (Int × Int)), (∀ q ∈ qs, 0 < q.2) → (∀ q ∈ qs, T * q.2 < q.1 * B) → qs ≠ [] → T * ((foL qs).2 * (qs.length : Int)) < (foL qs).1 * B := by
  refine snoc_ind (fun _ _ z => absurd rfl z) fun l q ih h1 h2 _ => ?_
  have hl : ∀ r ∈ l, 0 < r.2 := fun r hr => h1 r (List.mem_append_left _ hr)
  have hq := h1 q (List.mem_append_right _ (List.mem_singleton.mpr rfl))
  have hq2 := h2 q (List.mem_append_right _ (List.mem_singleton.mpr rfl))
  have hp := foL_pos l hl
  rw [foL_snoc, List.length_append, List.length_singleton]
  show T * (((foL l).2 * q.2) * ((l.length + 1 : Nat) : Int)) < ((foL l).1 * q.2 + q.1 * (foL l).2) * B
  have base : T * ((foL l).2 * (l.length : Int)) ≤ (foL l).1 * B := by
    by_cases e : l = []
    · subst e; simp [foL]
    · exact Int.le_of_lt (ih hl (fun r hr => h2 r (List.mem_append_left _ hr)) e)
  generalize (foL l).1 = tl at *
  generalize (foL l).2 = bl at *
  generalize q.1 = t at *
  generalize q.2 = b at *
  generalize (l.length) = k at *
  have a1 : T * ((bl * b) * ((k + 1 : Nat) : Int)) = (T * (bl * (k : Int))) * b + (T * b) * bl := by
    rw [show ((k + 1 : Nat) : Int) = (k : Int) + 1 by omega, Int.mul_add, Int.mul_one, Int.mul_add]
    congr 1
    · rw [Int.mul_assoc T, Int.mul_assoc bl, Int.mul_assoc bl, Int.mul_comm b]
    · rw [Int.mul_assoc T, Int.mul_comm b bl]
  have a2 : (tl * b + t * bl) * B = (tl * B) * b + (t * B) * bl := by
    rw [Int.add_mul]
    congr 1
    · rw [Int.mul_assoc, Int.mul_assoc, Int.mul_comm b B]
    · rw [Int.mul_assoc, Int.mul_assoc, Int.mul_comm bl B]
  rw [a1, a2]
  have m1 := Int.mul_le_mul_of_nonneg_right base (Int.le_of_lt hq)
  have m2 := Int.mul_lt_mul_of_pos_right hq2 hp
  omega
theorem below {T B : Int} (hB : 0 < B) : ∀ (qs : List (Int × Int)), (∀ q ∈ qs, 0 < q.2) → (∀ q ∈ qs, q.1 * B < T * q.2) → qs ≠ [] → (foL qs).1 * B < T * ((foL qs).2 * (qs.length : Int)) := by
  refine snoc_ind (fun _ _ z => absurd rfl z) fun l q ih h1 h2 _ => ?_
  have hl : ∀ r ∈ l, 0 < r.2 := fun r hr => h1 r (List.mem_append_left _ hr)
  have hq := h1 q (List.mem_append_right _ (List.mem_singleton.mpr rfl))
  have hq2 := h2 q (List.mem_append_right _ (List.mem_singleton.mpr rfl))
  have hp := foL_pos l hl
  rw [foL_snoc, List.length_append, List.length_singleton]
  show ((foL l).1 * q.2 + q.1 * (foL l).2) * B < T * (((foL l).2 * q.2) * ((l.length + 1 : Nat) : Int))
  have base : (foL l).1 * B ≤ T * ((foL l).2 * (l.length : Int)) := by
    by_cases e : l = []
    · subst e; simp [foL]
    · exact Int.le_of_lt (ih hl (fun r hr => h2 r (List.mem_append_left _ hr)) e)
  generalize (foL l).1 = tl at *
  generalize (foL l).2 = bl at *
  generalize q.1 = t at *
  generalize q.2 = b at *
  generalize (l.length) = k at *
  have a1 : T * ((bl * b) * ((k + 1 : Nat) : Int)) = (T * (bl * (k : Int))) * b + (T * b) * bl := by
    rw [show ((k + 1 : Nat) : Int) = (k : Int) + 1 by omega, Int.mul_add, Int.mul_one, Int.mul_add]
    congr 1
    · rw [Int.mul_assoc T, Int.mul_assoc bl, Int.mul_assoc bl, Int.mul_comm b]
    · rw [Int.mul_assoc T, Int.mul_comm b bl]
  have a2 : (tl * b + t * bl) * B = (tl * B) * b + (t * B) * bl := by
    rw [Int.add_mul]
    congr 1
    · rw [Int.mul_assoc, Int.mul_assoc, Int.mul_comm b B]
    · rw [Int.mul_assoc, Int.mul_assoc, Int.mul_comm bl B]
  rw [a1, a2]
  have m1 := Int.mul_le_mul_of_nonneg_right base (Int.le_of_lt hq)
  have m2 := Int.mul_lt_mul_of_pos_right hq2 hp
  omega
/-- sizes -/
def Sml (q : Int × Int) : Prop := 0 < q.2 ∧ q.1.natAbs < 2 ^ 121 ∧ q.2.natAbs < 2 ^ 121
theorem pow_le2 {a b : Nat} (h : a ≤ b) : (2 : Nat) ^ a ≤ 2 ^ b := Nat.pow_le_pow_right (by decide) h
theorem add_lt_pow {x y : Int} {a b n : Nat} (h1 : x.natAbs < 2 ^ a) (h2 : y.natAbs < 2 ^ b) (ha : a < n) (hb : b < n) : (x + y).natAbs < 2 ^ n := by
  obtain ⟨k, rfl⟩ : ∃ k, n = k + 1 := ⟨n - 1, by omega⟩
  have p1 := Nat.lt_of_lt_of_le h1 (pow_le2 (show a ≤ k by omega))
  have p2 := Nat.lt_of_lt_of_le h2 (pow_le2 (show b ≤ k by omega))
  rw [Nat.pow_succ]
  generalize 2 ^ k = z at *
  omega
theorem mul_lt_pow {x y : Int} {a b : Nat} (h1 : x.natAbs < 2 ^ a) (h2 : y.natAbs < 2 ^ b) : (x * y).natAbs < 2 ^ (a + b) := by
  rw [Int.natAbs_mul, Nat.pow_add]
  exact Nat.mul_lt_mul'' h1 h2
theorem foL_size : ∀ (qs : List (Int × Int)), (∀ q ∈ qs, Sml q) → (foL qs).1.natAbs < 2 ^ (123 * qs.length + 1) ∧ (foL qs).2.natAbs < 2 ^ (121 * qs.length + 1) := by
  refine snoc_ind (fun _ => ⟨by decide, by decide⟩) fun l q ih h => ?_
  obtain ⟨i1, i2⟩ := ih fun r hr => h r (List.mem_append_left _ hr)
  obtain ⟨s1, s2, s3⟩ := h q (List.mem_append_right _ (List.mem_singleton.mpr rfl))
  rw [foL_snoc, List.length_append, List.length_singleton]
  refine ⟨?_, ?_⟩
  · exact add_lt_pow (mul_lt_pow i1 s3) (mul_lt_pow s2 i2) (by omega) (by omega)
  · exact Nat.lt_of_lt_of_le (mul_lt_pow i2 s3) (pow_le2 (by omega))
theorem foP_size : ∀ (qs : List (Int × Int)), (∀ q ∈ qs, Sml q) → (foP qs).1.natAbs < 2 ^ (123 * qs.length + 1) ∧ (foP qs).2.natAbs < 2 ^ (121 * qs.length + 1) := by
  refine snoc_ind (fun _ => ⟨by decide, by decide⟩) fun l q ih h => ?_
  obtain ⟨i1, i2⟩ := ih fun r hr => h r (List.mem_append_left _ hr)
  obtain ⟨s1, s2, s3⟩ := h q (List.mem_append_right _ (List.mem_singleton.mpr rfl))
  rw [foP_snoc, List.length_append, List.length_singleton]
  have d1 : (q.2 / gI (foP l).2 q.2).natAbs < 2 ^ 121 := Nat.lt_of_le_of_lt (Int.natAbs_ediv_le_natAbs _ _) s3
  have d2 : ((foP l).2 / gI (foP l).2 q.2).natAbs < 2 ^ (121 * l.length + 1) := Nat.lt_of_le_of_lt (Int.natAbs_ediv_le_natAbs _ _) i2
  refine ⟨?_, ?_⟩
  · exact add_lt_pow (mul_lt_pow i1 d1) (mul_lt_pow s2 d2) (by omega) (by omega)
  · exact Nat.lt_of_lt_of_le (mul_lt_pow i2 d1) (pow_le2 (by omega))
end BL

/-! THE PROMISES of the fractions' defs. -/
namespace BL
open PySem PySem.Spec PyProof.Rows L2
def tupF (q : Int × Int) : HO := .tup [.int q.1, .int q.2]
def Big (q : Int × Int) : Prop := q.1.natAbs < 2 ^ 4000 ∧ q.2.natAbs < 2 ^ 4000
def ltF (p q : Int × Int) : Bool := decide (p.1 * q.2 < q.1 * p.2)
def spLess : Sp := fun vs H Q _ => ∃ (a b : Addr) (p q : Int × Int), vs = [.ref a, .ref b] ∧ H a = some (tupF p) ∧ H b = some (tupF q) ∧ Big p ∧ Big q ∧ Q (.bl (ltF p q)) H
theorem spLess_i {a b : Addr} {p q : Int × Int} {H : Hp} {Q : VK} {E : XK} (h1 : H a = some (tupF p)) (h2 : H b = some (tupF q)) (h3 : Big p) (h4 : Big q) (k : Q (.bl (ltF p q)) H) : spLess [.ref a, .ref b] H Q E := ⟨a, b, p, q, rfl, h1, h2, h3, h4, k⟩
/-- a list of fractions -/
structure FrAt (H : Hp) (f : Addr) (ps : List Addr) (qs : List (Int × Int)) : Prop where
  ls : H f = some (.lst (ps.map V.ref))
  it : ∀ i : Nat, ∀ p, ps[i]? = some p → ∃ q, qs[i]? = some q ∧ H p = some (tupF q)
  ln : ps.length = qs.length
theorem FrAt.get {H : Hp} {f : Addr} {ps : List Addr} {qs : List (Int × Int)} (F : FrAt H f ps qs) {i : Nat} {v : V} (h : (ps.map V.ref)[i]? = some v) : ∃ p q, v = .ref p ∧ ps[i]? = some p ∧ qs[i]? = some q ∧ H p = some (tupF q) := by
  rw [List.getElem?_map] at h
  cases e : ps[i]? with
  | none => rw [e] at h; cases h
  | some p =>
    rw [e] at h
    obtain ⟨q, hq, hp⟩ := F.it i p e
    exact ⟨p, q, (Option.some.inj h).symm, rfl, hq, hp⟩
theorem FrAt.same {H H' : Hp} {f : Addr} {ps : List Addr} {qs : List (Int × Int)} (F : FrAt H f ps qs) (s : Same H H') : FrAt H' f ps qs :=
  ⟨s _ _ F.ls, fun i p h => by obtain ⟨q, a, b⟩ := F.it i p h; exact ⟨q, a, s _ _ b⟩, F.ln⟩
theorem FrAt.copy {H : Hp} {f g : Addr} {ps : List Addr} {qs : List (Int × Int)} (F : FrAt H f ps qs) (h : H g = none) : FrAt (upd H g (.lst (ps.map V.ref))) g ps qs :=
  ⟨upd_same, fun i p h' => by obtain ⟨q, a, b⟩ := F.it i p h'; exact ⟨q, a, by rw [upd_ne (ne_of_none b h)]; exact b⟩, F.ln⟩
/-- the data of such a list -/
def dF (qs : List (Int × Int)) : List D := qs.map fun q => D.t [.v (.int q.1), .v (.int q.2)]
theorem isDs_F {K : PySem.W.Frag} {H : Hp} : ∀ {ps : List Addr} {qs : List (Int × Int)}, ps.length = qs.length → (∀ i : Nat, ∀ p, ps[i]? = some p → ∃ q, qs[i]? = some q ∧ H p = some (tupF q)) → IsDs K H (dF qs) (ps.map V.ref)
  | [], [], _, _ => by unfold dF IsDs; rfl
  | [], _ :: _, h, _ => by simp at h
  | _ :: _, [], h, _ => by simp at h
  | p :: ps, q :: qs, h, hi => by
    show IsDs K H (D.t [.v (.int q.1), .v (.int q.2)] :: dF qs) (V.ref p :: ps.map V.ref)
    unfold IsDs
    refine ⟨_, _, rfl, ?_, isDs_F (by simpa using h) fun i p' h' => ?_⟩
    · obtain ⟨q', e, hp⟩ := hi 0 p (by simp)
      simp at e
      subst e
      unfold IsD
      refine ⟨p, _, rfl, SqT.of hp, ?_⟩
      unfold IsDs
      refine ⟨_, _, rfl, by unfold IsD; exact ⟨rfl, rfl⟩, ?_⟩
      unfold IsDs
      refine ⟨_, _, rfl, by unfold IsD; exact ⟨rfl, rfl⟩, ?_⟩
      unfold IsDs; rfl
    · obtain ⟨q', e, hp⟩ := hi (i + 1) p' (by simpa using h')
      exact ⟨q', by simpa using e, hp⟩
theorem eqDs_F : ∀ (qs : List (Int × Int)), eqDs (dF qs) (dF qs) = true
  | [] => by simp [dF, eqDs]
  | q :: qs => by
    show eqDs (D.t [.v (.int q.1), .v (.int q.2)] :: dF qs) (D.t [.v (.int q.1), .v (.int q.2)] :: dF qs) = true
    unfold eqDs
    rw [eqDs_F qs]
    simp [eqD, eqDs, eqV]
theorem deps_F : ∀ (qs : List (Int × Int)), deps (dF qs) ≤ 1
  | [] => by simp [dF, deps]
  | q :: qs => by
    show deps (D.t [.v (.int q.1), .v (.int q.2)] :: dF qs) ≤ 1
    unfold deps
    have := deps_F qs
    have e : dep (D.t [.v (.int q.1), .v (.int q.2)]) = 1 := by simp [dep, deps]
    rw [e]; omega
/-- the list stays: == with a copy -/
theorem r_neF {K : PySem.W.Frag} {H : Hp} {Q : VK} {f g : Addr} {ps ps' : List Addr} {qs : List (Int × Int)} (F : FrAt H f ps qs) (G : FrAt H g ps' qs) (h : Q (.bl false) H) : rNeA K (.ref f) (.ref g) H Q := by
  refine r_neDt (.l (dF qs)) (.l (dF qs)) rfl ?_ ?_ ?_ ?_
  · unfold dep; have := deps_F qs; omega
  · unfold IsD; exact ⟨f, _, rfl, SqL.of F.ls, isDs_F F.ln F.it⟩
  · unfold IsD; exact ⟨g, _, rfl, SqL.of G.ls, isDs_F G.ln G.it⟩
  · unfold eqD; rw [eqDs_F]; exact h
def spMean : Sp := fun vs H Q _ => ∃ (f : Addr) (ps : List Addr) (qs : List (Int × Int)), vs = [.ref f] ∧ FrAt H f ps qs ∧ (∀ q ∈ qs, Sml q) ∧ qs ≠ [] ∧ qs.length ≤ 60 ∧
  ∀ p : Addr, H p = none → Q (.ref p) (upd H p (tupF (loT (foP qs).1 ((foP qs).2 * (qs.length : Int)), loB (foP qs).1 ((foP qs).2 * (qs.length : Int)))))
theorem spMean_i {f : Addr} {ps : List Addr} {qs : List (Int × Int)} {H : Hp} {Q : VK} {E : XK} (F : FrAt H f ps qs) (h1 : ∀ q ∈ qs, Sml q) (h2 : qs ≠ []) (h3 : qs.length ≤ 60)
    (k : ∀ p : Addr, H p = none → Q (.ref p) (upd H p (tupF (loT (foP qs).1 ((foP qs).2 * (qs.length : Int)), loB (foP qs).1 ((foP qs).2 * (qs.length : Int)))))) : spMean [.ref f] H Q E := ⟨f, ps, qs, rfl, F, h1, h2, h3, k⟩
theorem take_next {α : Type} {l : List α} {i : Nat} {x : α} (h : l[i]? = some x) : l.take (i + 1) = l.take i ++ [x] := by
  rw [List.take_add_one, h]; rfl
theorem small_len {n : Nat} (h0 : 0 < n) (h : n ≤ 60) : ((n : Int)).natAbs < 2 ^ 6 := by
  rw [Int.natAbs_natCast]; omega
theorem FrAt.fr1 {H H' : Hp} {f d l : Addr} {ps : List Addr} {qs : List (Int × Int)} (F : FrAt H f ps qs) (D : DrL H d l) (hf : f ≠ d) (s : Fr1 d H H') : FrAt H' f ps qs :=
  ⟨s.get F.ls hf, fun i p h => by
    obtain ⟨q, a, b⟩ := F.it i p h
    obtain ⟨⟨xs, hd⟩, _⟩ := D.some
    exact ⟨q, a, s.get b (ne_kind b hd tup_lst)⟩, F.ln⟩
theorem FrAt.push {H : Hp} {f p : Addr} {ps : List Addr} {qs : List (Int × Int)} {q : Int × Int} (F : FrAt H f ps qs) (hp : H p = none) : FrAt (upd (upd H p (tupF q)) f (.lst (ps.map V.ref ++ [.ref p]))) f (ps ++ [p]) (qs ++ [q]) := by
  have hfp : f ≠ p := ne_of_none F.ls hp
  refine ⟨by rw [upd_same]; simp, fun i p' h => ?_, by rw [List.length_append, List.length_append, F.ln]; rfl⟩
  by_cases hi : i < ps.length
  · rw [List.getElem?_append_left hi] at h
    obtain ⟨q', a, b⟩ := F.it i p' h
    refine ⟨q', by rw [List.getElem?_append_left (by rw [← F.ln]; exact hi)]; exact a, ?_⟩
    rw [upd_ne (ne_kind b F.ls tup_lst), upd_ne (ne_of_none b hp)]
    exact b
  · rw [List.getElem?_append_right (by omega)] at h
    have e : i - ps.length = 0 := by
      cases z : i - ps.length with
      | zero => rfl
      | succ k => rw [z] at h; simp at h
    rw [e] at h
    simp at h
    subst h
    refine ⟨q, by rw [List.getElem?_append_right (by rw [← F.ln]; omega), ← F.ln, e]; rfl, ?_⟩
    rw [upd_ne hfp.symm, upd_same]
theorem FrAt.new {H : Hp} {f p : Addr} {ps : List Addr} {qs : List (Int × Int)} {o : HO} (F : FrAt H f ps qs) (h : H p = none) : FrAt (upd H p o) f ps qs := F.same ((Same.refl H).new h)
theorem sml_lo {t b : Int} (ht : t.natAbs < 2 ^ 120) (hb : b.natAbs < 2 ^ 121) (h0 : 0 < b) : Sml (loT t b, loB t b) :=
  ⟨loB_pos h0, Nat.lt_of_le_of_lt (loT_abs t b) (Nat.lt_of_lt_of_le ht (pow_le2 (by decide))), Nat.lt_of_le_of_lt (loB_abs t b) hb⟩
theorem Sml.big {q : Int × Int} (h : Sml q) : Big q := ⟨Nat.lt_of_lt_of_le h.2.1 (pow_le2 (by decide)), Nat.lt_of_lt_of_le h.2.2 (pow_le2 (by decide))⟩
theorem any_of {α : Type} {f : α → Bool} {qs : List α} (h : ¬ ∀ q ∈ qs, f q = true) : (qs.map fun q => !f q).any id = true := by
  cases e : (qs.map fun q => !f q).any id with
  | true => rfl
  | false =>
    refine absurd (fun q hq => ?_) h
    have := List.any_eq_false.mp e (!f q) (List.mem_map.mpr ⟨q, hq, rfl⟩)
    simpa using this
end BL

/-! THE PROMISES of the law's own picks: a drawn one, the one that follows. -/
namespace MB
theorem run_snoc : ∀ (k x : Nat), run x (k + 1) = run x k ++ [x + k]
  | 0, x => rfl
  | k + 1, x => by
    show x :: run (x + 1) (k + 1) = (x :: run (x + 1) k) ++ [x + (k + 1)]
    rw [run_snoc k (x + 1), List.cons_append, show x + 1 + k = x + (k + 1) by omega]
/-- every place as high as can be, below e -/
def AllMax (e : Nat) (l : List Nat) : Prop := ∀ (j x : Nat), l[j]? = some x → x + (l.length - j) = e
theorem nxt_max {e : Nat} : ∀ {l : List Nat}, AllMax e l → nxt e l = none
  | [], _ => rfl
  | x :: l, h => by
    have h1 : AllMax e l := fun j y hy => by
      have := h (j + 1) y (by simpa using hy)
      rw [List.length_cons] at this
      omega
    unfold nxt
    rw [nxt_max h1]
    dsimp only
    have := h 0 x (by simp)
    rw [List.length_cons] at this
    rw [if_neg (by omega)]
theorem nxt_at {e x : Nat} {suf : List Nat} (hs : AllMax e suf) (hx : x + 1 + suf.length < e) : ∀ (pre : List Nat), nxt e (pre ++ x :: suf) = some (pre ++ run (x + 1) (suf.length + 1))
  | [] => by
    show nxt e (x :: suf) = some (run (x + 1) (suf.length + 1))
    unfold nxt
    rw [nxt_max hs]
    dsimp only
    rw [if_pos hx]
  | p :: pre => by
    show nxt e (p :: (pre ++ x :: suf)) = some (p :: (pre ++ run (x + 1) (suf.length + 1)))
    unfold nxt
    rw [nxt_at hs hx pre]
end MB
namespace BL
open PySem PySem.Spec PyProof.Rows L2
def spDrawPick : Sp := fun vs H Q _ => ∃ (d l : Addr) (m k : Nat), vs = [.ref d, .int m, .int k] ∧ DrL H d l ∧ k ≤ m ∧ m < 512 ∧
  ∀ (t : Addr) (H' : Hp) (ps : List Nat), MB.Ris 0 m ps → ps.length = k → DrL H' d l → Fr1 d H H' → H t = none → H' t = some (tupN ps) → Q (.ref t) H'
theorem spDrawPick_i {d l : Addr} {m k : Nat} {H : Hp} {Q : VK} {E : XK} (D : DrL H d l) (h1 : k ≤ m) (h2 : m < 512)
    (q : ∀ (t : Addr) (H' : Hp) (ps : List Nat), MB.Ris 0 m ps → ps.length = k → DrL H' d l → Fr1 d H H' → H t = none → H' t = some (tupN ps) → Q (.ref t) H') : spDrawPick [.ref d, .int m, .int k] H Q E := ⟨d, l, m, k, rfl, D, h1, h2, q⟩
def spFollow : Sp := fun vs H Q _ => ∃ (m : Nat) (t : Addr) (ps : List Nat), vs = [.int m, .ref t] ∧ H t = some (tupN ps) ∧ MB.Ris 0 m ps ∧ m < 512 ∧
  (MB.nxt m ps = none → Q .non H) ∧ ∀ (p : Addr) (H' : Hp) (ps' : List Nat), MB.nxt m ps = some ps' → Same H H' → H' p = some (tupN ps') → Q (.ref p) H'
theorem spFollow_i {m : Nat} {t : Addr} {ps : List Nat} {H : Hp} {Q : VK} {E : XK} (h1 : H t = some (tupN ps)) (h2 : MB.Ris 0 m ps) (h3 : m < 512) (q1 : MB.nxt m ps = none → Q .non H)
    (q2 : ∀ (p : Addr) (H' : Hp) (ps' : List Nat), MB.nxt m ps = some ps' → Same H H' → H' p = some (tupN ps') → Q (.ref p) H') : spFollow [.int m, .ref t] H Q E := ⟨m, t, ps, rfl, h1, h2, h3, q1, q2⟩
theorem ris_snoc : ∀ {ps : List Nat} {p e x : Nat}, MB.Ris p e ps → (∀ y ∈ ps, y < x) → p ≤ x → x < e → MB.Ris p e (ps ++ [x])
  | [], p, e, x, _, _, h1, h2 => ⟨h1, h2, trivial⟩
  | y :: ps, p, e, x, ⟨a, b, c⟩, h, h1, h2 => ⟨a, b, ris_snoc c (fun z hz => h z (List.mem_cons_of_mem _ hz)) (by have := h y List.mem_cons_self; omega) h2⟩
/-- a drawn place of three written ones -/
theorem atI3 {a b c g : Int} (h0 : 0 ≤ g) (h1 : g < 3) : ∃ v, atI [V.int a, V.int b, V.int c] g = some (.int v) ∧ (v = a ∨ v = b ∨ v = c) := by
  have : g = 0 ∨ g = 1 ∨ g = 2 := by omega
  rcases this with rfl | rfl | rfl
  · exact ⟨a, rfl, .inl rfl⟩
  · exact ⟨b, rfl, .inr (.inl rfl)⟩
  · exact ⟨c, rfl, .inr (.inr rfl)⟩
theorem ris_last {e : Nat} : ∀ {l : List Nat} {p j x : Nat}, MB.Ris p e l → l[j]? = some x → x + (l.length - j) ≤ e
  | [], _, _, _, _, h => by simp at h
  | y :: r, p, 0, x, ⟨h1, h2, h3⟩, h => by
    simp at h; subst h
    have := h3.len
    rw [List.length_cons]; omega
  | y :: r, p, j + 1, x, ⟨h1, h2, h3⟩, h => by
    have := ris_last (j := j) (x := x) h3 (by simpa using h)
    rw [List.length_cons]; omega
end BL

/-! enumerate and zip of tracked lists: each turn hands out a new pair. -/
namespace L2
open PySem PySem.Spec PyProof.Rows
section
variable {X : Cx} {pins : List (Addr × Obj)} {σ : St} {H : Hp} {s : Shared} {h' : Heap}
/-- the records at ch have turned, all others stay -/
theorem Inv.turnedS {t' : Nat} {ch : List Addr} (I : Inv X pins σ H s) (k : ∀ b o, b ∉ ch → s.heap.get? b = some o → h'.get? b = some o) (hf : ∀ b ∈ ch, FpOk X pins H b) : Inv X pins σ H { s with heap := h', toks := t' } := by
  have nit : ∀ b u, H b = some u → b ∉ ch := fun b u e z => by rw [(hf b z).1] at e; cases e
  refine I.step (g' := s.gens) (d' := s.drawn) (ch := ch) (fun b hb => ?_) (fun b o _ _ hc e _ => k b o hc e) (fun b o _ _ hc e _ => ⟨o.slots, k b o hc e⟩) (fun _ _ _ _ n => n)
    (fun b o hc e => ⟨o, k b o hc e⟩) (fun _ _ e => e) (fun _ _ _ e => e) (fun b ps e => ⟨#[], by rw [e]; simp⟩) (fun m hm => ?_) (fun b u e => ?_) I.bare
  · obtain ⟨f0, f1, f2, f3, f4, f5⟩ := hf b hb
    exact ⟨f3, f1, f4, f5⟩
  · obtain ⟨o, es, ep, ho, r⟩ := hm
    exact ⟨o, es, ep, k _ o (fun z => (hf _ z).2.1 rfl) ho, r⟩
  · refine (I.hok b u e).stay (fun c v hc q => k c v ?_ q) (fun _ q => q) fun _ _ q => q
    rcases hc with z | z
    · rw [z]; exact nit b u e
    · exact nit c _ z
/-- .. and a new object is tracked -/
theorem Inv.turnedNew {t' : Nat} {ch : List Addr} {a : Addr} {o : HO} (I : Inv X pins σ H s) (k : ∀ b u, b ∉ ch → s.heap.get? b = some u → h'.get? b = some u) (hf : ∀ b ∈ ch, FpOk X pins H b) (hp : s.heap.objs.size ≤ a)
    (new : ObjOk X.prog X.w (upd H a o) h' a o) : Inv X pins σ (upd H a o) { s with heap := h', toks := t' } := by
  have hn : H a = none := I.hok.fresh hp
  have I1 := I.turnedS (t' := t') k hf
  have nea : ∀ b u, s.heap.get? b = some u → b ≠ a := fun b u e => Nat.ne_of_lt (Nat.lt_of_lt_of_le (Heap.lt_size e) hp)
  refine I.step (g' := s.gens) (d' := s.drawn) (ch := ch) (fun b hb => ?_) (fun b o _ _ hc e _ => k b o hc e) (fun b o _ _ hc e _ => ⟨o.slots, k b o hc e⟩) (fun b u _ e n => by rw [upd_ne (nea b u e)]; exact n)
    (fun b o hc e => ⟨o, k b o hc e⟩) (fun b xs e => by rw [upd_ne (ne_of_none e hn)]; exact e) (fun b o u e => by rw [upd_ne (ne_of_none e hn)]; exact e) (fun b ps e => ⟨#[], by rw [upd_ne (ne_of_none e hn), e]; simp⟩) (fun m hm => ?_) (I1.hok.track hn new) I.bare
  · obtain ⟨f0, f1, f2, f3, f4, f5⟩ := hf b hb
    exact ⟨f3, f1, f4, f5⟩
  · obtain ⟨o, es, ep, ho, r⟩ := hm
    exact ⟨o, es, ep, k _ o (fun z => (hf _ z).2.1 rfl) ho, r⟩
end
/-! ### enumerate -/
def Ite (a : Addr) : It :=
  ⟨fun i H => ∃ xs x, H a = some (.lst xs) ∧ xs[i]? = some x, fun i H v H' => ∃ T xs x, v = .ref T ∧ H T = none ∧ H a = some (.lst xs) ∧ xs[i]? = some x ∧ H' = upd H T (.tup [.int (i : Int), x]), fun i H => ∃ xs, H a = some (.lst xs) ∧ xs.length ≤ i⟩
theorem turn_enum {P : Program} {w : World} {K : PySem.W.Frag} {elts : List Expr} {k : Nat} {pos : Pos} (a e it : Addr) (hei : e ≠ it) (hae : a ≠ e) (hai : a ≠ it) :
    Turn P w K (.Tuple elts k pos) (Ite a) [e, it] e (fun i h => (∃ old, IsEnum h e it i old) ∧ h.IsListIter it a i) where
  mem := by simp
  obj := fun i h st b hb => by
    obtain ⟨⟨old, he⟩, o, ho, c, d⟩ := st
    rcases List.mem_cons.mp hb with rfl | hb
    · exact ⟨_, he, fun v z => by cases z⟩
    · have e' : b = it := by simpa using hb
      subst e'
      exact ⟨o, ho, fun v z => by rw [d] at z; cases z⟩
  keep := fun i h h' st k => by
    obtain ⟨⟨old, he⟩, hi⟩ := st
    exact ⟨⟨old, k e (by simp) _ he⟩, hi.at fun o q => k it (by simp) o q⟩
  item := by
    intro X hP hw hK hc i pins s σ H E I hf st hg
    subst hP hw hK
    obtain ⟨xs, x, hq, hx⟩ := hg
    obtain ⟨its, rv, p, hz⟩ := I.list (SqL.of (K := X.K) hq)
    obtain ⟨u, hu, ru⟩ := rv.get hx
    have W := WalksT.enumerate (prog := X.prog) (w := X.w) (I.ok.hd hc) e it a hei hae hai its.toArray
    have hlt : i < its.toArray.size := by
      have := (List.getElem?_eq_some_iff.mp hu).1
      simpa using this
    refine W.item i s _ _ hlt ⟨st.1, st.2, p.isList⟩ fun T vals h1 tk hPt hT hTup hMid hk => ?_
    have hTw := W.apart _ _ _ hMid
    refine ⟨_, rfl, W.go elts k pos i T _ _ _ hMid fun h2 hSt hk2 => ?_⟩
    obtain ⟨t, x', hx', hv⟩ := hPt
    have ex : x' = u := by
      rw [List.getElem?_toArray, hu] at hx'
      exact (Option.some.inj hx').symm
    subst ex
    subst hv
    have hTn : H T = none := I.hok.fresh hT
    refine ⟨.ref T, upd H T (.tup [.int (i : Int), x]), ?_, rfl, ⟨T, xs, x, rfl, hTn, hq, hx, rfl⟩, ⟨hSt.1, hSt.2.1⟩, fun b hb => ?_⟩
    · refine I.turnedNew (t' := tk) (ch := [e, it]) (fun b o hb q => hk2 b o hb (hk b o hb q)) hf hT ?_
      refine ⟨by simp only [List.length_cons, List.length_nil]; rw [sizeLine_eq]; decide, [.int (i : Int) t, x'], .cons ⟨_, rfl⟩ (.cons ru .nil), ?_⟩
      obtain ⟨o, ho, c, n, d⟩ := hTup
      exact ⟨o, hk2 T o hTw ho, c, n, d⟩
    · rw [upd_ne (fun z => by subst z; exact hTw hb)]
      exact (hf b hb).1
  done := by
    intro X hP hw hK hc i pins s σ H E I hf st hg
    subst hP hw hK
    obtain ⟨xs, hq, hx⟩ := hg
    obtain ⟨its, rv, p, hz⟩ := I.list (SqL.of (K := X.K) hq)
    obtain ⟨⟨old, he⟩, hit⟩ := st
    have hl := rv.length
    refine wpAny_pyNext_enum_end (I.ok.hd hc) he hit p.isList (by rw [List.getElem?_toArray]; exact List.getElem?_eq_none (by omega)) fun h' hx' => ⟨rfl, ?_⟩
    exact I.turnedS (t' := s.toks) (ch := [e, it]) (fun b o hb q => hx' b o (fun z => hb (by simp [z])) q) hf
  self := fun A i s Q E st h => by
    obtain ⟨⟨old, he⟩, _⟩ := st
    exact wpAny_pyIter_enum he h
/-! ### zip -/
def Itz (a b : Addr) : It :=
  ⟨fun i H => ∃ xs ys x y, H a = some (.lst xs) ∧ H b = some (.lst ys) ∧ xs[i]? = some x ∧ ys[i]? = some y,
   fun i H v H' => ∃ T xs ys x y, v = .ref T ∧ H T = none ∧ H a = some (.lst xs) ∧ H b = some (.lst ys) ∧ xs[i]? = some x ∧ ys[i]? = some y ∧ H' = upd H T (.tup [x, y]),
   fun i H => ∃ xs ys, H a = some (.lst xs) ∧ H b = some (.lst ys) ∧ (xs.length ≤ i ∨ ys.length ≤ i)⟩
theorem turn_zip {P : Program} {w : World} {K : PySem.W.Frag} {elts : List Expr} {k : Nat} {pos : Pos} (a b z TI TO i1 i2 : Addr) (D : ZipApart z TI TO i1 i2 a b) :
    Turn P w K (.Tuple elts k pos) (Itz a b) [z, TI, TO, i1, i2] z (fun i h => IsZip h z TI TO .none ∧ IsPair h TI (.ref i1) (.ref i2) ∧ (∃ x y, IsPair h TO x y) ∧ h.IsListIter i1 a i ∧ h.IsListIter i2 b i) where
  mem := by simp
  obj := fun i h st c hc => by
    obtain ⟨hz, hTI, ⟨x, y, hTO⟩, ⟨o1, h1, c1, d1⟩, ⟨o2, h2, c2, d2⟩⟩ := st
    simp only [List.mem_cons, List.not_mem_nil, or_false] at hc
    rcases hc with rfl | rfl | rfl | rfl | rfl
    · exact ⟨_, hz, fun v q => by cases q⟩
    · exact ⟨_, hTI, fun v q => by cases q⟩
    · exact ⟨_, hTO, fun v q => by cases q⟩
    · exact ⟨o1, h1, fun v q => by rw [d1] at q; cases q⟩
    · exact ⟨o2, h2, fun v q => by rw [d2] at q; cases q⟩
  keep := fun i h h' st k => by
    obtain ⟨hz, hTI, ⟨x, y, hTO⟩, h1, h2⟩ := st
    exact ⟨k z (by simp) _ hz, k TI (by simp) _ hTI, ⟨x, y, k TO (by simp) _ hTO⟩, h1.at fun o q => k i1 (by simp) o q, h2.at fun o q => k i2 (by simp) o q⟩
  item := by
    intro X hP hw hK hc i pins s σ H E I hf st hg
    subst hP hw hK
    obtain ⟨xs, ys, x, y, hq1, hq2, hx, hy⟩ := hg
    obtain ⟨its1, rv1, p1, _⟩ := I.list (SqL.of (K := X.K) hq1)
    obtain ⟨its2, rv2, p2, _⟩ := I.list (SqL.of (K := X.K) hq2)
    obtain ⟨u, hu, ru⟩ := rv1.get hx
    obtain ⟨v, hv, rv⟩ := rv2.get hy
    have W := WalksT.zip2 (prog := X.prog) (w := X.w) (I.ok.hd hc) z TI TO i1 i2 a b D its1.toArray its2.toArray
    have hlt : i < min its1.toArray.size its2.toArray.size := by
      have e1 := (List.getElem?_eq_some_iff.mp hu).1
      have e2 := (List.getElem?_eq_some_iff.mp hv).1
      simp only [List.size_toArray]
      omega
    obtain ⟨hz, hTI, hTO, h1, h2⟩ := st
    refine W.item i s _ _ hlt ⟨hz, hTI, hTO, h1, h2, p1.isList, p2.isList⟩ fun T vals hh tk hPt hT hTup hMid hk => ?_
    have hTw := W.apart _ _ _ hMid
    refine ⟨_, rfl, W.go elts k pos i T _ _ _ hMid fun h3 hSt hk2 => ?_⟩
    obtain ⟨x', y', hx', hy', hvs⟩ := hPt
    have ex : x' = u := by rw [List.getElem?_toArray, hu] at hx'; exact (Option.some.inj hx').symm
    have ey : y' = v := by rw [List.getElem?_toArray, hv] at hy'; exact (Option.some.inj hy').symm
    subst ex ey hvs
    have hTn : H T = none := I.hok.fresh hT
    have hTI' : T ≠ TI := fun q => by subst q; exact absurd (Nat.lt_of_lt_of_le (Heap.lt_size hTI) hT) (Nat.lt_irrefl _)
    refine ⟨.ref T, upd H T (.tup [x, y]), ?_, rfl, ⟨T, xs, ys, x, y, rfl, hTn, hq1, hq2, hx, hy, rfl⟩, ⟨hSt.1, hSt.2.1, hSt.2.2.1, hSt.2.2.2.1, hSt.2.2.2.2.1⟩, fun c hc' => ?_⟩
    · refine I.turnedNew (t' := tk) (ch := [z, TO, i1, i2]) (fun c o hc' q => hk2 c o hc' (hk c o hc' q)) (fun c hc' => hf c (W.sub c hc' |> fun q => by simp at hc' ⊢; rcases hc' with rfl | rfl | rfl | rfl <;> simp)) hT ?_
      refine ⟨by simp only [List.length_cons, List.length_nil]; rw [sizeLine_eq]; decide, [x', y'], .cons ru (.cons rv .nil), ?_⟩
      obtain ⟨o, ho, c, n, d⟩ := hTup
      exact ⟨o, hk2 T o hTw ho, c, n, d⟩
    · rw [upd_ne (fun q => by
        subst q
        simp only [List.mem_cons, List.not_mem_nil, or_false] at hc' hTw
        rcases hc' with q | q | q | q | q
        · exact hTw (.inl q)
        · exact hTI' q
        · exact hTw (.inr (.inl q))
        · exact hTw (.inr (.inr (.inl q)))
        · exact hTw (.inr (.inr (.inr q))))]
      exact (hf c hc').1
  done := by
    intro X hP hw hK hc i pins s σ H E I hf st hg
    subst hP hw hK
    obtain ⟨xs, ys, hq1, hq2, hx⟩ := hg
    obtain ⟨its1, rv1, p1, _⟩ := I.list (SqL.of (K := X.K) hq1)
    obtain ⟨its2, rv2, p2, _⟩ := I.list (SqL.of (K := X.K) hq2)
    obtain ⟨hz, hTI, ⟨x, y, hTO⟩, h1, h2⟩ := st
    have l1 := rv1.length
    have l2 := rv2.length
    refine wpAny_pyNext_zip_end (I.ok.hd hc) D hz hTI hTO h1 h2 p1.isList p2.isList ?_ fun h' hk => ⟨rfl, ?_⟩
    · rcases hx with hx | hx
      · exact .inl (by rw [List.getElem?_toArray]; exact List.getElem?_eq_none (by omega))
      · exact .inr (by rw [List.getElem?_toArray]; exact List.getElem?_eq_none (by omega))
    · exact I.turnedS (t' := s.toks) (ch := [z, TI, TO, i1, i2]) (fun c o hc' q => hk c o (fun q => hc' (by simp [q])) (fun q => hc' (by simp [q])) (fun q => hc' (by simp [q])) (fun q => hc' (by simp [q])) q) hf
  self := fun A i s Q E st h => wpAny_pyIter_zip st.1 h
/-! ### as iterators -/
def iEnum (tA : TA) : TI := fun σ H R => tA σ H fun vs H1 => ∃ a xs, vs = [.ref a] ∧ H1 a = some (.lst xs) ∧ R (Ite a) H1
def iZip (tA : TA) : TI := fun σ H R => tA σ H fun vs H1 => ∃ a b xs ys, vs = [.ref a, .ref b] ∧ H1 a = some (.lst xs) ∧ H1 b = some (.lst ys) ∧ R (Itz a b) H1
theorem bt_enumerate : bootBuiltins "enumerate" = some (.type "enumerate") := by decide +kernel
theorem bt_zip : bootBuiltins "zip" = some (.type "zip") := by decide +kernel
section
variable {X : Cx}
theorem pi_enum {elts : List Expr} {k : Nat} {tp : Pos} {a : Expr} {ta : TA} {p pos : Pos} (hg : Gl X "enumerate") (hm : X.mg "enumerate" = none) (ha : PA X [a] ta) (hs : starEach [a] X.env = [(false, eval a X.env)] := by rfl) :
    PI X (.Tuple elts k tp) (.Call (.Name "enumerate" p) [a] [] pos) (iEnum ta) := by
  intro pins s σ H R I h
  refine Call_ (ld_blt I hg hm bt_enumerate (PyProof.Rows.callWith_type1 (thn (ha pos pins s σ H _ I h) fun us s1 ⟨vs, H1, I1, r1, q1⟩ => ?_) hs rfl))
  obtain ⟨l, xs, e, hl, q⟩ := q1
  subst e
  cases r1 with
  | cons r rr =>
    cases rr
    cases r
    obtain ⟨_, its, n, _, _, hget⟩ := I1.lstM hl
    have hll : l < s1.heap.objs.size := Heap.lt_size hget
    refine call_enumerate_1 hget fun h' he hi hsz hk => wpAny_pyIter_enum he ?_
    have I2 : Inv X pins σ H1 { s1 with heap := h' } := I1.kept (t' := s1.toks) hk
    refine ⟨s1.heap.objs.size + 1, [s1.heap.objs.size + 1, s1.heap.objs.size], _, _, H1, rfl, I2, turn_enum l _ _ (Nat.ne_of_gt (Nat.lt_succ_self _)) (Nat.ne_of_lt (Nat.lt_succ_of_lt hll)) (Nat.ne_of_lt hll), ⟨⟨_, he⟩, hi⟩, fun b hb => ?_, q⟩
    have hle : s1.heap.objs.size ≤ b := by
      simp only [List.mem_cons, List.not_mem_nil, or_false] at hb
      rcases hb with hb | hb
      · rw [hb]; exact Nat.le_succ _
      · rw [hb]; exact Nat.le_refl _
    exact I1.fpOk hle (I1.hok.fresh hle)
theorem pi_zip {elts : List Expr} {k : Nat} {tp : Pos} {a b : Expr} {ta : TA} {p pos : Pos} (hg : Gl X "zip") (hm : X.mg "zip" = none) (ha : PA X [a, b] ta) (hs : starEach [a, b] X.env = [(false, eval a X.env), (false, eval b X.env)] := by rfl) (hs2 : starEach [b] X.env = [(false, eval b X.env)] := by rfl) :
    PI X (.Tuple elts k tp) (.Call (.Name "zip" p) [a, b] [] pos) (iZip ta) := by
  intro pins s σ H R I h
  refine Call_ (ld_blt I hg hm bt_zip (PyProof.Rows.callWith_type1 (thn (ha pos pins s σ H _ I h) fun us s1 ⟨vs, H1, I1, r1, q1⟩ => ?_) (by rw [hs, hs2]) (by rw [hs2]; rfl)))
  obtain ⟨l1, l2, xs, ys, e, hl1, hl2, q⟩ := q1
  subst e
  cases r1 with
  | cons r rr =>
    cases rr with
    | cons r' rr =>
      cases rr
      cases r
      cases r'
      obtain ⟨its1, _, p1, _⟩ := I1.list (SqL.of (K := X.K) hl1)
      obtain ⟨its2, _, p2, _⟩ := I1.list (SqL.of (K := X.K) hl2)
      have a1 : l1 < s1.heap.objs.size := I1.hok.lt hl1
      have a2 : l2 < s1.heap.objs.size := I1.hok.lt hl2
      refine call_zip_2 p1.isList p2.isList fun h' hz hTI hTO h1 h2 hsz hk => wpAny_pyIter_zip hz ?_
      have I2 : Inv X pins σ H1 { s1 with heap := h' } := I1.kept (t' := s1.toks) hk
      refine ⟨s1.heap.objs.size + 4, [s1.heap.objs.size + 4, s1.heap.objs.size + 2, s1.heap.objs.size + 3, s1.heap.objs.size, s1.heap.objs.size + 1], _, _, H1, rfl, I2, turn_zip l1 l2 _ _ _ _ _ (zipApart_new a1 a2), ⟨hz, hTI, ⟨_, _, hTO⟩, h1, h2⟩, fun b hb => ?_, q⟩
      have hle : s1.heap.objs.size ≤ b := by
        simp only [List.mem_cons, List.not_mem_nil, or_false] at hb
        rcases hb with hb | hb | hb | hb | hb <;> rw [hb]
        · exact Nat.le_add_right _ _
        · exact Nat.le_add_right _ _
        · exact Nat.le_add_right _ _
        · exact Nat.le_refl _
        · exact Nat.le_add_right _ _
      exact I1.fpOk hle (I1.hok.fresh hle)
end
end L2

/-! Loops and comprehensions over enumerate and zip; ranges down; a list turned about; names of the module that are ints; more in-place operators. -/
namespace L2
open PySem PySem.Spec PyProof.Rows
/-! ### for over enumerate, zip -/
def ForJ (J : It) (g : TG) (tb : TS) (D : Ends) (σ : St) (H : Hp) : Prop := ∃ W : Nat → Nat → St → Hp → Prop, (∃ m, W 0 m σ H) ∧ ∀ i m σ H, W i m σ H →
    (J.stop i H ∧ D.nx σ H) ∨ (J.go i H ∧ ∃ N : St → Hp → Prop, (∀ σ' H', N σ' H' → ∃ m', m' < m ∧ W (i + 1) m' σ' H') ∧ ∀ x H', J.yld i H x H' → g x σ H' fun σ2 H2 => tb { D with nx := N, ct := N, bk := D.nx } σ2 H2)
def ForE (vs : List V) (g : TG) (tb : TS) (D : Ends) (σ : St) (H : Hp) : Prop := ∃ a xs, vs = [.ref a] ∧ H a = some (.lst xs) ∧ ForJ (Ite a) g tb D σ H
def ForZ (vs : List V) (g : TG) (tb : TS) (D : Ends) (σ : St) (H : Hp) : Prop := ∃ a b xs ys, vs = [.ref a, .ref b] ∧ H a = some (.lst xs) ∧ H b = some (.lst ys) ∧ ForJ (Itz a b) g tb D σ H
section
variable {tA : TA} {g : TG} {tb : TS} {D : Ends} {σ : St} {H : Hp} {n b c : St → Hp → Prop} {r : VK}
theorem r_forE (h : tA σ H fun vs H1 => ForE vs g tb D σ H1) : tFor (iEnum tA) g tb D σ H := h
theorem r_forZ (h : tA σ H fun vs H1 => ForZ vs g tb D σ H1) : tFor (iZip tA) g tb D σ H := h
theorem forE {a : Addr} {xs : List V} (Pv : Nat → St → Hp → Prop) (h0 : Pv 0 σ H) (hl : ∀ i σ H, i ≤ xs.length → Pv i σ H → H a = some (.lst xs))
    (hs : ∀ (i : Nat) x σ H T, xs[i]? = some x → Pv i σ H → H T = none → g (.ref T) σ (upd H T (.tup [.int (i : Int), x])) fun σ2 H2 => tb ⟨Pv (i + 1), r, n, Pv (i + 1)⟩ σ2 H2) (hd : ∀ σ H, Pv xs.length σ H → n σ H) : ForE [.ref a] g tb ⟨n, r, b, c⟩ σ H := by
  refine ⟨a, xs, rfl, hl 0 σ H (Nat.zero_le _) h0, fun i m σ' H' => m = xs.length - i ∧ i ≤ xs.length ∧ Pv i σ' H', ⟨xs.length, by simp, Nat.zero_le _, h0⟩, ?_⟩
  rintro i m σ' H' ⟨rfl, hi, p⟩
  have q := hl i σ' H' hi p
  by_cases hlt : i < xs.length
  · refine .inr ⟨⟨xs, xs[i], q, by simp [hlt]⟩, Pv (i + 1), fun σ' H' p' => ⟨xs.length - (i + 1), by omega, rfl, hlt, p'⟩, fun v H2 y => ?_⟩
    obtain ⟨T, xs', x, rfl, hT, hq, hx, rfl⟩ := y
    rw [q] at hq
    cases hq
    exact hs i x σ' H' T hx p hT
  · have e : i = xs.length := by omega
    subst e
    exact .inl ⟨⟨xs, q, Nat.le_refl _⟩, hd σ' H' p⟩
theorem forZ {a1 a2 : Addr} {xs ys : List V} (Pv : Nat → St → Hp → Prop) (h0 : Pv 0 σ H) (hl : ∀ i σ H, i ≤ xs.length → i ≤ ys.length → Pv i σ H → H a1 = some (.lst xs) ∧ H a2 = some (.lst ys))
    (hs : ∀ (i : Nat) x y σ H T, xs[i]? = some x → ys[i]? = some y → Pv i σ H → H T = none → g (.ref T) σ (upd H T (.tup [x, y])) fun σ2 H2 => tb ⟨Pv (i + 1), r, n, Pv (i + 1)⟩ σ2 H2) (hd : ∀ σ H, Pv (min xs.length ys.length) σ H → n σ H) : ForZ [.ref a1, .ref a2] g tb ⟨n, r, b, c⟩ σ H := by
  obtain ⟨q1, q2⟩ := hl 0 σ H (Nat.zero_le _) (Nat.zero_le _) h0
  refine ⟨a1, a2, xs, ys, rfl, q1, q2, fun i m σ' H' => m = min xs.length ys.length - i ∧ i ≤ min xs.length ys.length ∧ Pv i σ' H', ⟨min xs.length ys.length, by simp, Nat.zero_le _, h0⟩, ?_⟩
  rintro i m σ' H' ⟨rfl, hi, p⟩
  obtain ⟨q1, q2⟩ := hl i σ' H' (by omega) (by omega) p
  by_cases hlt : i < min xs.length ys.length
  · have l1 : i < xs.length := by omega
    have l2 : i < ys.length := by omega
    refine .inr ⟨⟨xs, ys, xs[i], ys[i], q1, q2, by simp [l1], by simp [l2]⟩, Pv (i + 1), fun σ' H' p' => ⟨min xs.length ys.length - (i + 1), by omega, rfl, hlt, p'⟩, fun v H2 y => ?_⟩
    obtain ⟨T, xs', ys', x, y, rfl, hT, e1, e2, hx, hy, rfl⟩ := y
    rw [q1] at e1
    rw [q2] at e2
    cases e1
    cases e2
    exact hs i x y σ' H' T hx hy p hT
  · have e : i = min xs.length ys.length := by omega
    refine .inl ⟨⟨xs, ys, q1, q2, by omega⟩, hd σ' H' (e ▸ p)⟩
end
/-! ### comprehensions over them: two names as the target -/
section
variable {tA : TA} {js : List Nat} {g : TG} {tt : TT} {te : TE} {σ : St} {H : Hp} {Q : VK} {nt : Nat}
def CompE (vs : List V) (js : List Nat) (nt : Nat) (g : TG) (tt : TT) (te : TE) (σ : St) (H : Hp) (Q : VK) : Prop := ∃ a xs, vs = [.ref a] ∧ H a = some (.lst xs) ∧ CompJ (Ite a) js nt g tt te σ H Q
def CompZ (vs : List V) (js : List Nat) (nt : Nat) (g : TG) (tt : TT) (te : TE) (σ : St) (H : Hp) (Q : VK) : Prop := ∃ a b xs ys, vs = [.ref a, .ref b] ∧ H a = some (.lst xs) ∧ H b = some (.lst ys) ∧ CompJ (Itz a b) js nt g tt te σ H Q
theorem r_compE (h : tA σ H fun vs H1 => CompE vs js nt g tt te σ H1 Q) : tComp js nt (iEnum tA) g tt te σ H Q := h
theorem r_compZ (h : tA σ H fun vs H1 => CompZ vs js nt g tt te σ H1 Q) : tComp js nt (iZip tA) g tt te σ H Q := h
theorem compE {a : Addr} {xs : List V} (caps : St) (Pv : Nat → List V → Hp → Prop) (hcaps : cap σ js 2 = caps ++ [none, none]) (hsz : xs.length < sizeLine) (h0 : Pv 0 [] H)
    (hl : ∀ i ys H, i ≤ xs.length → Pv i ys H → H a = some (.lst xs)) (hlen : ∀ i ys H, Pv i ys H → ys.length ≤ i)
    (hs : ∀ (i : Nat) x ys z1 z2 H T, xs[i]? = some x → Pv i ys H → H T = none → g (.ref T) (caps ++ [z1, z2]) (upd H T (.tup [.int (i : Int), x])) fun σ3 H3 => tt σ3 H3 fun ok H4 => if ok = true then te σ3 H4 fun y H5 => Pv (i + 1) (ys ++ [y]) H5 ∧ ∃ z1 z2, σ3 = caps ++ [z1, z2] else Pv (i + 1) ys H4 ∧ ∃ z1 z2, σ3 = caps ++ [z1, z2])
    (hd : ∀ ys H, Pv xs.length ys H → ∀ D, H D = none → Q (.ref D) (upd H D (.lst ys))) : CompE [.ref a] js 2 g tt te σ H Q := by
  refine ⟨a, xs, rfl, hl 0 [] H (Nat.zero_le _) h0, fun i m ys σ' H' => m = xs.length - i ∧ i ≤ xs.length ∧ Pv i ys H' ∧ ∃ z1 z2, σ' = caps ++ [z1, z2], ⟨xs.length, by simp, Nat.zero_le _, h0, none, none, hcaps⟩, ?_⟩
  rintro i m ys σ' H' ⟨rfl, hi, p, z1, z2, rfl⟩
  refine ⟨by have := hlen i ys H' p; omega, ?_⟩
  have q := hl i ys H' hi p
  by_cases hlt : i < xs.length
  · refine .inr ⟨⟨xs, xs[i], q, by simp [hlt]⟩, fun ys σ' H' => Pv (i + 1) ys H' ∧ ∃ z1 z2, σ' = caps ++ [z1, z2], fun ys σ' H' ⟨p', q'⟩ => ⟨xs.length - (i + 1), by omega, rfl, hlt, p', q'⟩, fun v H2 y => ?_⟩
    obtain ⟨T, xs', x, rfl, hT, hq, hx, rfl⟩ := y
    rw [q] at hq
    cases hq
    exact hs i x ys z1 z2 H' T hx p hT
  · have e : i = xs.length := by omega
    subst e
    exact .inl ⟨⟨xs, q, Nat.le_refl _⟩, hd ys H' p⟩
theorem compZ {a1 a2 : Addr} {xs ws : List V} (caps : St) (Pv : Nat → List V → Hp → Prop) (hcaps : cap σ js 2 = caps ++ [none, none]) (hsz : xs.length < sizeLine) (h0 : Pv 0 [] H)
    (hl : ∀ i ys H, i ≤ xs.length → i ≤ ws.length → Pv i ys H → H a1 = some (.lst xs) ∧ H a2 = some (.lst ws)) (hlen : ∀ i ys H, Pv i ys H → ys.length ≤ i)
    (hs : ∀ (i : Nat) x w ys z1 z2 H T, xs[i]? = some x → ws[i]? = some w → Pv i ys H → H T = none → g (.ref T) (caps ++ [z1, z2]) (upd H T (.tup [x, w])) fun σ3 H3 => tt σ3 H3 fun ok H4 => if ok = true then te σ3 H4 fun y H5 => Pv (i + 1) (ys ++ [y]) H5 ∧ ∃ z1 z2, σ3 = caps ++ [z1, z2] else Pv (i + 1) ys H4 ∧ ∃ z1 z2, σ3 = caps ++ [z1, z2])
    (hd : ∀ ys H, Pv (min xs.length ws.length) ys H → ∀ D, H D = none → Q (.ref D) (upd H D (.lst ys))) : CompZ [.ref a1, .ref a2] js 2 g tt te σ H Q := by
  obtain ⟨q1, q2⟩ := hl 0 [] H (Nat.zero_le _) (Nat.zero_le _) h0
  refine ⟨a1, a2, xs, ws, rfl, q1, q2, fun i m ys σ' H' => m = min xs.length ws.length - i ∧ i ≤ min xs.length ws.length ∧ Pv i ys H' ∧ ∃ z1 z2, σ' = caps ++ [z1, z2], ⟨min xs.length ws.length, by simp, Nat.zero_le _, h0, none, none, hcaps⟩, ?_⟩
  rintro i m ys σ' H' ⟨rfl, hi, p, z1, z2, rfl⟩
  refine ⟨by have := hlen i ys H' p; omega, ?_⟩
  obtain ⟨q1, q2⟩ := hl i ys H' (by omega) (by omega) p
  by_cases hlt : i < min xs.length ws.length
  · have l1 : i < xs.length := by omega
    have l2 : i < ws.length := by omega
    refine .inr ⟨⟨xs, ws, xs[i], ws[i], q1, q2, by simp [l1], by simp [l2]⟩, fun ys σ' H' => Pv (i + 1) ys H' ∧ ∃ z1 z2, σ' = caps ++ [z1, z2], fun ys σ' H' ⟨p', q'⟩ => ⟨min xs.length ws.length - (i + 1), by omega, rfl, hlt, p', q'⟩, fun v H2 y => ?_⟩
    obtain ⟨T, xs', ys', x, y, rfl, hT, e1, e2, hx, hy, rfl⟩ := y
    rw [q1] at e1
    rw [q2] at e2
    cases e1
    cases e2
    exact hs i x y ys z1 z2 H' T hx hy p hT
  · have e : i = min xs.length ws.length := by omega
    exact .inl ⟨⟨xs, ws, q1, q2, by omega⟩, hd ys H' (e ▸ p)⟩
end
/-! ### a range down: hi, hi - 1, .. above lo -/
def Itd (hi : Int) (n : Nat) : It := ⟨fun i _ => i < n, fun i H x H' => H' = H ∧ x = .int (hi - i), fun i _ => n ≤ i⟩
theorem turn_down {P : Program} {w : World} {K : PySem.W.Frag} {tg : Expr} (it : Addr) (hi : Int) (n : Nat) : Turn P w K tg (Itd hi n) [it] it (fun i h => IsRangeIter h it (hi + (i : Nat) * (-1)) ((n : Int) - (i : Nat)) (-1)) where
  mem := by simp
  obj := fun i h st b hb => by
    have e : b = it := by simpa using hb
    subst e
    exact ⟨_, st, fun v z => by
      have z' : Data.fields _ = Data.cell v := z
      cases z'⟩
  keep := fun i h h' st k => k it (by simp) _ st
  item := by
    intro X hP hw hK hc i pins s σ H E I hf st hg
    subst hP hw hK
    obtain ⟨f0, f1, f2, f3, f4, f5⟩ := hf it (by simp)
    have W := Walks.range (prog := X.prog) (w := X.w) (I.ok.hd hc) it hi (-1) n
    refine W.item i s _ _ hg st fun v h' tk hv st' kk => ?_
    obtain ⟨t, rfl⟩ := hv
    have I1 : Inv X pins σ H { s with heap := h', toks := tk } := I.turned (fun b o hb e => kk b o (by simpa using hb) e) f0 f1 f3 f4 f5
    refine ⟨_, rfl, go_of (s := { s with heap := h', toks := tk }) (n := "range_iterator") st' rfl rfl (by decide) ⟨.int (hi - i), H, I1, ⟨t, ?_⟩, ⟨rfl, rfl⟩, st', fun b hb => (hf b hb).1⟩⟩
    rw [Int.mul_neg, Int.mul_one]
    rfl
  done := by
    intro X hP hw hK hc i pins s σ H E I hf st hg
    subst hP hw hK
    obtain ⟨f0, f1, f2, f3, f4, f5⟩ := hf it (by simp)
    exact wpAny_pyNext_range_end (I.ok.hd hc) st (by have : n ≤ i := hg; omega) fun h' eb => ⟨rfl, I.turned (t' := s.toks) (fun b o hb e => eb b o hb e) f0 f1 f3 f4 f5⟩
  self := fun _ _ _ _ _ st h => wpAny_pyIter_rangeiter st h
theorem rangeSize_down (a b : Int) : Builtin.Range.rangeSize a b (-1) = ((a - b).toNat : Int) := by
  unfold Builtin.Range.rangeSize
  rw [if_neg (by decide), show (- -1 : Int) = 1 by decide, Int.ediv_one]
  split <;> omega
theorem small_down {a b : Int} (ha : -(2 ^ 62) ≤ a) (ha' : a < 2 ^ 62) (hb : -(2 ^ 62) ≤ b) (hb' : b < 2 ^ 62) : Builtin.Range.small a b (-1) = true := by
  unfold Builtin.Range.small
  rw [rangeSize_down]
  simp only [Builtin.Range.rangeFitsLong, Bool.and_eq_true, Bool.or_eq_true, decide_eq_true_eq, beq_iff_eq, show ¬ ((-1 : Int) > 0) by decide, if_false]
  omega
def iRngD (ta : TA) : TI := fun σ H R => ta σ H fun vs H1 => ∃ i j : Int, vs = [.int i, .int j, .int (-1)] ∧ (-(2 ^ 61) ≤ i ∧ i < 2 ^ 61 ∧ -(2 ^ 61) ≤ j ∧ j < 2 ^ 61) ∧ R (Itd i (i - j).toNat) H1
section
variable {X : Cx} {tg : Expr}
theorem pi_rangeD {a b c : Expr} {ta : TA} {p pos : Pos} (hg : Gl X "range") (hm : X.mg "range" = none) (ha : PA X [a, b, c] ta) (hs : starEach [a, b, c] X.env = [(false, eval a X.env), (false, eval b X.env), (false, eval c X.env)] := by rfl)
    (hs2 : starEach [b, c] X.env = [(false, eval b X.env), (false, eval c X.env)] := by rfl) :
    PI X tg (.Call (.Name "range" p) [a, b, c] [] pos) (iRngD ta) := by
  intro pins s σ H R I h
  refine Call_ (ld_blt I hg hm boot_range (PyProof.Rows.callWith_type1 (thn (ha pos pins s σ H _ I h) fun us s1 ⟨vs, H1, I1, r1, q1⟩ => ?_) (by rw [hs, hs2]) (by rw [hs2]; rfl)))
  obtain ⟨i, j, e, ⟨q1, q2, q3, q4⟩, q⟩ := q1
  subst e
  cases r1 with
  | cons r rr =>
    cases rr with
    | cons r' rr =>
      cases rr with
      | cons r'' rr =>
        cases rr
        obtain ⟨t, rfl⟩ := r
        obtain ⟨t', rfl⟩ := r'
        obtain ⟨t'', rfl⟩ := r''
        refine call_range_3 (by decide) ?_ (Or.inl (PyProof.noPylong_small (by decide)))
        have I1' : Inv X pins σ H1 { s1 with heap := s1.heap.push { cls := .type "range", data := .fields #[.int i t, .int j t', .int (-1) t''] }, toks := s1.toks } := I1.kept fun b o e => Heap.get?_push_of_some _ e
        refine wpAny_pyIter_range (IsRange.new ..) (small_down (by omega) (by omega) (by omega) (by omega)) ?_
        refine ⟨(s1.heap.push { cls := .type "range", data := .fields #[.int i t, .int j t', .int (-1) t''] }).objs.size, [(s1.heap.push { cls := .type "range", data := .fields #[.int i t, .int j t', .int (-1) t''] }).objs.size], _, _, H1, rfl,
          I1'.kept (t' := s1.toks) fun b o e => Heap.get?_push_of_some _ e, turn_down _ i (i - j).toNat, ?_, fun b hb => ?_, q⟩
        · show IsRangeIter _ _ (i + ((0 : Nat) : Int) * (-1)) ((((i - j).toNat : Nat) : Int) - ((0 : Nat) : Int)) (-1)
          rw [show i + ((0 : Nat) : Int) * (-1) = i by simp, show (((i - j).toNat : Nat) : Int) - ((0 : Nat) : Int) = Builtin.Range.rangeSize i j (-1) by rw [rangeSize_down]; simp]
          exact Heap.get?_push_size _ rfl
        · have e : b = (s1.heap.push { cls := .type "range", data := .fields #[.int i t, .int j t', .int (-1) t''] }).objs.size := by simpa using hb
          subst e
          exact I1'.fpOk (Nat.le_refl _) (I1'.hok.fresh (Nat.le_refl _))
end
def ForD (vs : List V) (g : TG) (tb : TS) (D : Ends) (σ : St) (H : Hp) : Prop := ∃ i j : Int, vs = [.int i, .int j, .int (-1)] ∧ (-(2 ^ 61) ≤ i ∧ i < 2 ^ 61 ∧ -(2 ^ 61) ≤ j ∧ j < 2 ^ 61) ∧ ForJ (Itd i (i - j).toNat) g tb D σ H
section
variable {tA : TA} {g : TG} {tb : TS} {D : Ends} {σ : St} {H : Hp} {n b c : St → Hp → Prop} {r : VK}
theorem r_forD (h : tA σ H fun vs H1 => ForD vs g tb D σ H1) : tFor (iRngD tA) g tb D σ H := h
theorem forD {hi lo : Int} (Pv : Nat → St → Hp → Prop) (h1 : -1000000 ≤ hi) (h2 : hi < 1000000) (h3 : -1000000 ≤ lo) (h4 : lo < 1000000) (h0 : Pv 0 σ H)
    (hs : ∀ (i : Nat) σ H, (i : Int) < hi - lo → Pv i σ H → g (.int (hi - i)) σ H fun σ2 H2 => tb ⟨Pv (i + 1), r, n, Pv (i + 1)⟩ σ2 H2) (hd : ∀ σ H, Pv (hi - lo).toNat σ H → n σ H) : ForD [.int hi, .int lo, .int (-1)] g tb ⟨n, r, b, c⟩ σ H := by
  refine ⟨hi, lo, rfl, ⟨by omega, by omega, by omega, by omega⟩, fun i m σ' H' => m = (hi - lo).toNat - i ∧ i ≤ (hi - lo).toNat ∧ Pv i σ' H', ⟨(hi - lo).toNat, by simp, Nat.zero_le _, h0⟩, ?_⟩
  rintro i m σ' H' ⟨rfl, hi', p⟩
  by_cases hlt : i < (hi - lo).toNat
  · refine .inr ⟨hlt, Pv (i + 1), fun σ' H' p' => ⟨(hi - lo).toNat - (i + 1), by omega, rfl, hlt, p'⟩, fun v H2 y => ?_⟩
    obtain ⟨rfl, rfl⟩ := y
    exact hs i σ' _ (by omega) p
  · have e : i = (hi - lo).toNat := by omega
    subst e
    exact .inl ⟨Nat.le_refl _, hd σ' H' p⟩
end
/-! ### a list turned about -/
def rRev (K : PySem.W.Frag) (x y : V) (H : Hp) (Q : VK) : Prop := ∃ a xs, x = .ref a ∧ y = .int (-1) ∧ SqL K H a xs ∧ ∀ p, H p = none → Q (.ref p) (upd H p (.lst xs.reverse))
section
variable {X : Cx} {K : PySem.W.Frag}
theorem pe_revK {e k : Expr} {te tk : TE} {pos p2 : Pos} (hK : X.K = K) (he : PE X e te) (hk : PE X k tk) : PE X (.Subscript e (.Slice none none (some k) p2) pos) (tOp (rRev K) te tk) := by
  subst hK
  intro pins s σ H Q I h
  refine Subscript_ (thn (he pins s σ H _ I h) fun v s1 ⟨x, H1, I1, r1, q1⟩ => ?_)
  refine wpAny_Slice ?_
  rw [evalPart_none]
  refine wpAny_pure ?_
  refine wpAny_pure ?_
  rw [evalPart_some]
  refine thn (hk pins s1 σ H1 _ I1 q1) fun vk s3 ⟨y, H3, I3, r3, q3⟩ => ?_
  obtain ⟨a, xs, rfl, rfl, hx, q⟩ := q3
  cases r1
  obtain ⟨t, rfl⟩ := r3
  have I4 : Inv X pins σ H3 { s3 with heap := s3.heap.push { cls := .type "slice", data := .fields #[.none, .none, .int (-1) t] } } := I3.kept (t' := s3.toks) fun b ob q => Heap.get?_push_of_some _ q
  obtain ⟨its, r, ht, hz⟩ := I4.list hx
  have hlen := r.length
  show wpAny (model X.prog X.w) X.A (subscriptTail e (.Slice none none (some k) p2) (.ref a) (.ref s3.heap.objs.size)) (EP X pins σ Q) X.xe { s3 with heap := s3.heap.push { cls := .type "slice", data := .fields #[.none, .none, .int (-1) t] } }
  refine tail_any (ops := [.ref a, .ref s3.heap.objs.size]) (T := "list") ht.isList.typeIs slot_list_getitem.lookup ?_ (by with_unfolding_all rfl)
  refine wpAny_getItem_list_slice ht.isList (Heap.IsSliceOf.new ..) .none .none (.int (-1) t) (by decide) ?_ (by rw [List.size_toArray] <;> omega)
  rw [PySem.W.krv_pick]
  refine ⟨.ref _, _, I4.laid (t' := s3.toks) (o := .lst xs.reverse) (fun b ob q => Heap.get?_push_of_some _ q) (Nat.le_refl _) ?_, rfl, q _ (I4.hok.fresh (Nat.le_refl _))⟩
  exact ⟨by rw [List.length_reverse]; exact hz, _, 0, r.reverse, Heap.get?_push_size _ rfl⟩
end
theorem r_revL {K : PySem.W.Frag} {H : Hp} {Q : VK} {a : Addr} {xs : List V} (h1 : H a = some (.lst xs)) (h : ∀ p, H p = none → Q (.ref p) (upd H p (.lst xs.reverse))) : rRev K (.ref a) (.int (-1)) H Q := ⟨a, xs, rfl, rfl, SqL.of h1, h⟩
/-! ### an int of the module -/
theorem pe_globI {X : Cx} {x : Str} {i : Int} {pos : Pos} (hg : Gl X x) (hm : ∃ t, X.mg x = some (.int i t)) (hd : (x == ("__debug__" : Str)) = false := by decide) : PE X (.Name x pos) (tC (.int i)) := by
  obtain ⟨t, hm⟩ := hm
  exact pe_glob hg hm ⟨t, rfl⟩ hd
/-! ### in place -/
section
variable {X : Cx}
def ipC (C : Int → Int → Prop) (f : Int → Int → Int) : TIp := fun x y H Q => ∃ i j, x = .int i ∧ y = .int j ∧ C i j ∧ Q (.int (f i j)) H
theorem ip_mul : PIp X .Mult (ipC CMulB fun i j => i * j) := by
  intro pins s σ H x y v u Q I r1 r2 h
  obtain ⟨i, j, e1, e2, hc, q⟩ := h
  subst e1; subst e2
  obtain ⟨t, rfl⟩ := r1
  obtain ⟨t', rfl⟩ := r2
  have ok : IntMulOk i j := by
    rcases hc with hc | ⟨m, n, h1, h2, h3⟩
    · exact hc.ok
    · exact PySem.IntMulOk.of_le (PySem.intBits_le_iff.mpr h1) (PySem.intBits_le_iff.mpr h2) h3
  exact imul_int ⟨.int _, H, I.tok _, ⟨_, rfl⟩, q⟩ ok
theorem ip_fdiv : PIp X .FloorDiv (ipC CDivB fun i j => i / j) := by
  intro pins s σ H x y v u Q I r1 r2 h
  obtain ⟨i, j, e1, e2, ⟨h1, n, h2, h3⟩, q⟩ := h
  subst e1; subst e2
  obtain ⟨t, rfl⟩ := r1
  obtain ⟨t', rfl⟩ := r2
  refine ifloordiv_int (by omega) ?_ (.inl (PyProof.noPylong_of_log2 ((Nat.log2_lt (by omega)).mpr (Nat.lt_of_lt_of_le h2 (Nat.pow_le_pow_right (by decide) h3)))))
  rw [Int.fdiv_eq_ediv_of_nonneg i (by omega)]
  exact ⟨.int _, H, I.tok _, ⟨_, rfl⟩, q⟩
end
theorem r_ipC {C : Int → Int → Prop} {f : Int → Int → Int} {p q : Int} {H : Hp} {Q : VK} (hc : C p q) (h : Q (.int (f p q)) H) : ipC C f (.int p) (.int q) H Q := ⟨p, q, rfl, rfl, hc, h⟩
/-! ### o[i] op= e of a list -/
section
variable {X : Cx} {K : PySem.W.Frag}
theorem getLK (hK : X.K = K) : PGet X (rIxL K) := by
  subst hK
  intro pins s σ H x y v u Q I rx ry h
  obtain ⟨p, xs, i, z, rfl, rfl, hq, he, q⟩ := h
  cases rx
  obtain ⟨t, rfl⟩ := ry
  obtain ⟨its, r, pl, hz⟩ := I.list hq
  obtain ⟨j, h1, h2, h3, h4, h5⟩ := atI_get he
  obtain ⟨w, ew, rw'⟩ := r.get h2
  have hl := r.length
  have hn := line63
  have fin : EP X pins σ Q w s := ⟨z, H, I, rw', q⟩
  by_cases h0 : 0 ≤ i
  · have hj : i.toNat = j := by
      rw [seqIndex_of h0 h5] at h1
      exact Option.some.inj h1
    exact wpAny_getItem_list pl.isList h0 (by omega) (by rw [hj]; simpa using ew) fin
  · have hj : (i + (its.toArray.size : Int)).toNat = j := by
      rw [seqIndex_neg (by omega) h4] at h1
      rw [List.size_toArray, ← hl]
      exact Option.some.inj h1
    exact wpAny_getItem_list_neg pl.isList (by omega) (by rw [List.size_toArray] <;> omega) (by omega) (by rw [hj]; simpa using ew) fin
end
section
variable {K : PySem.W.Frag} {to ti te : TE} {tget : V → V → Hp → VK → Prop} {tip : TIp} {tset : TSet} {n b c : St → Hp → Prop} {r : VK} {σ : St} {H : Hp}
theorem r_augS (h : to σ H fun o H1 => ti σ H1 fun i H2 => tget o i H2 fun x H3 => te σ H3 fun y H4 => tip x y H4 fun z H5 => tset o i z H5 fun H6 => n σ H6) : tAugS to ti te tget tip tset ⟨n, r, b, c⟩ σ H := h
theorem r_ixLL {K : PySem.W.Frag} {p : Addr} {xs : List V} {k : Int} {v : V} {Q : VK} (h1 : H p = some (.lst xs)) (h2 : atI xs k = some v) (h : Q v H) : rIxL K (.ref p) (.int k) H Q := ⟨p, xs, k, v, rfl, rfl, SqL.of h1, h2, h⟩
end
/-! ### more operators by kinds -/
section
variable {X : Cx} {K : PySem.W.Frag}
theorem inK (h : X.K = K) : OpR X (compareOp .In) (rIn K false) := by subst h; exact op_in_seq
theorem notInK (h : X.K = K) : OpR X (compareOp .NotIn) (rIn K true) := by subst h; exact op_notIn_seq
def rDivmod : List V → Hp → VK → Prop := fun xs H Q => ∃ i j, xs = [.int i, .int j] ∧ CDivB i j ∧ ∀ p, H p = none → Q (.ref p) (upd H p (.tup [.int (i / j), .int (i % j)]))
theorem cl_divmod : CallR X (.builtin "divmod") rDivmod := by
  intro pins s σ H xs us Q I r h
  obtain ⟨i, j, rfl, ⟨h1, n, h2, h3⟩, q⟩ := h
  obtain ⟨u, w', rfl, ⟨t, rfl⟩, ⟨t', rfl⟩⟩ := vals2 r
  refine divmod_int (by omega) ?_ (.inl (PyProof.noPylong_of_log2 ((Nat.log2_lt (by omega)).mpr (Nat.lt_of_lt_of_le h2 (Nat.pow_le_pow_right (by decide) h3)))))
  rw [Int.fdiv_eq_ediv_of_nonneg i (by omega), Int.fmod_eq_emod_of_nonneg i (by omega)]
  have hn : H s.heap.objs.size = none := I.hok.fresh (Nat.le_refl _)
  refine ⟨.ref s.heap.objs.size, _, ?_, rfl, q _ hn⟩
  refine I.laid (fun b o e => Heap.get?_push_of_some _ e) (Nat.le_refl _) ⟨by simp only [List.length_cons, List.length_nil]; rw [sizeLine_eq]; decide, [.int (i / j) s.toks, .int (i % j) (s.toks + 1)], .cons ⟨_, rfl⟩ (.cons ⟨_, rfl⟩ .nil), ?_⟩
  exact ⟨_, Heap.get?_push_size s.heap rfl, rfl, 0, rfl⟩
theorem bt_divmod : bootBuiltins "divmod" = some (.builtin "divmod") := by decide +kernel
end
theorem r_divmod {i j : Int} {H : Hp} {Q : VK} (hc : CDivB i j) (h : ∀ p, H p = none → Q (.ref p) (upd H p (.tup [.int (i / j), .int (i % j)]))) : rDivmod [.int i, .int j] H Q := ⟨i, j, rfl, hc, h⟩
theorem r_chain {r r' : R2} {ta tb tc : TE} {σ : St} {H : Hp} {Q : VK} (h : ta σ H fun x H1 => tb σ H1 fun y H2 => r x y H2 fun z H3 => ∃ k, z = .bl k ∧ (if k = true then tc σ H3 fun w' H4 => r' y w' H4 Q else Q (.bl false) H3)) : tChain r r' ta tb tc σ H Q := h
section
variable {K : PySem.W.Frag} {H : Hp} {Q : VK}
theorem r_repI {a : Addr} {n k : Int} (h1 : H a = some (.lst [.int n])) (h0 : 0 ≤ k) (h2 : k < 65536) (h : ∀ p, H p = none → Q (.ref p) (upd H p (.lst ((List.replicate k.toNat n).map V.int)))) : rMulA (.ref a) (.int k) H Q := by
  refine .inr ⟨a, k, [.int n], rfl, rfl, h1, by omega, by omega, ?_, fun p hp => ?_⟩
  · rw [sizeLine_eq]
    simp only [List.length_cons, List.length_nil]
    omega
  · have e : (List.replicate k.toNat [V.int n]).flatten = (List.replicate k.toNat n).map V.int := by
      generalize k.toNat = m
      induction m with
      | zero => rfl
      | succ m ih => rw [List.replicate_succ, List.flatten_cons, ih, List.replicate_succ]; rfl
    rw [e]; exact h p hp
end
end L2

/-! THE MATHEMATICS of rows of rounds: which fit, who sits, how many draws. -/
namespace BR
open MB
inductive Wd where
  | council | bench | stay
  deriving DecidableEq
inductive Rn where
  | lot (n : Nat) | vote (n q : Nat) (w : Wd)
def Rn.n : Rn → Nat
  | .lot n => n
  | .vote n _ _ => n
def Fit (c s : Nat) : Rn → Prop
  | .lot n => 1 ≤ n ∧ n ≤ 60 ∧ n ≤ s
  | .vote n q w => 1 ≤ n ∧ n ≤ 60 ∧ n ≤ c ∧ s < 2 * q ∧ q ≤ s ∧ (w = .bench → n ≤ s) ∧ (w = .stay → n = s)
def FitR (c : Nat) : Nat → List Rn → Prop
  | _, [] => True
  | s, r :: rs => Fit c s r ∧ FitR c r.n rs
def lastN : Nat → List Rn → Nat
  | s, [] => s
  | _, r :: rs => lastN r.n rs
theorem Fit.pos {c s : Nat} : ∀ {r : Rn}, Fit c s r → 1 ≤ r.n ∧ r.n ≤ 60
  | .lot _, h => ⟨h.1, h.2.1⟩
  | .vote _ _ _, h => ⟨h.1, h.2.1⟩
theorem Fit.le {c s : Nat} (hs : s ≤ c) : ∀ {r : Rn}, Fit c s r → r.n ≤ c
  | .lot _, h => Nat.le_trans h.2.2 hs
  | .vote _ _ _, h => h.2.2.1
theorem lastN_append : ∀ (a : List Rn) (s : Nat) (b : List Rn), lastN s (a ++ b) = lastN (lastN s a) b
  | [], _, _ => rfl
  | r :: a, _, b => lastN_append a r.n b
theorem lastN_snoc (a : List Rn) (s : Nat) (r : Rn) : lastN s (a ++ [r]) = r.n := lastN_append a s [r]
theorem FitR.app {c : Nat} : ∀ {a : List Rn} {s : Nat} {b : List Rn}, FitR c s (a ++ b) ↔ FitR c s a ∧ FitR c (lastN s a) b
  | [], s, b => ⟨fun h => ⟨trivial, h⟩, fun h => h.2⟩
  | r :: a, s, b => by
    show (Fit c s r ∧ FitR c r.n (a ++ b)) ↔ (Fit c s r ∧ FitR c r.n a) ∧ FitR c (lastN r.n a) b
    rw [FitR.app (a := a)]
    exact ⟨fun ⟨x, y, z⟩ => ⟨⟨x, y⟩, z⟩, fun ⟨⟨x, y⟩, z⟩ => ⟨x, y, z⟩⟩
theorem FitR.snoc {c s : Nat} {a : List Rn} {r : Rn} (h : FitR c s a) (h2 : Fit c (lastN s a) r) : FitR c s (a ++ [r]) := FitR.app.mpr ⟨h, h2, trivial⟩
theorem FitR.take {c s : Nat} {a : List Rn} (h : FitR c s a) (k : Nat) : FitR c s (a.take k) := by
  rw [← List.take_append_drop k a] at h
  exact (FitR.app.mp h).1
theorem FitR.at {c s : Nat} {a : List Rn} {i : Nat} {r : Rn} (h : FitR c s a) (e : a[i]? = some r) : Fit c (lastN s (a.take i)) r := by
  have hlt := (List.getElem?_eq_some_iff.mp e).1
  have e2 : a = a.take i ++ (r :: a.drop (i + 1)) := by
    have := (List.getElem?_eq_some_iff.mp e).2
    rw [← this, ← List.drop_eq_getElem_cons hlt, List.take_append_drop]
  rw [e2] at h
  have := (FitR.app.mp h).2.1
  exact this
theorem lastN_le {c : Nat} : ∀ {a : List Rn} {s : Nat}, FitR c s a → 1 ≤ s → s ≤ c → 1 ≤ lastN s a ∧ lastN s a ≤ c
  | [], s, _, h1, h2 => ⟨h1, h2⟩
  | r :: a, s, h, h1, h2 => lastN_le (a := a) h.2 h.1.pos.1 (h.1.le h2)
theorem take_next {α : Type} {l : List α} {i : Nat} {x : α} (h : l[i]? = some x) : l.take (i + 1) = l.take i ++ [x] := by
  rw [List.take_add_one, h]; rfl
/-- how many sit behind each round -/
def szs (rs : List Rn) : List Nat := rs.map Rn.n
theorem ahead_get : ∀ {rs : List Rn} {s i : Nat}, i ≤ rs.length → (s :: szs rs)[i]? = some (lastN s (rs.take i))
  | _, s, 0, _ => rfl
  | [], s, i + 1, h => by simp at h
  | r :: rs, s, i + 1, h => by
    show (r.n :: szs rs)[i]? = some (lastN r.n (rs.take i))
    exact ahead_get (by simpa using h)
/-- a round's draws -/
def dr (c s : Nat) : Rn → Nat
  | .lot n => ch s n
  | .vote n _ .bench => ch s n
  | .vote n _ .council => ch c n
  | .vote _ _ .stay => 1
def drs (c : Nat) : Nat → List Rn → List Nat
  | _, [] => []
  | s, r :: rs => dr c s r :: drs c r.n rs
theorem drs_snoc (c : Nat) : ∀ (a : List Rn) (s : Nat) (r : Rn), drs c s (a ++ [r]) = drs c s a ++ [dr c (lastN s a) r]
  | [], _, _ => rfl
  | x :: a, s, r => by
    show dr c s x :: drs c x.n (a ++ [r]) = (dr c s x :: drs c x.n a) ++ [dr c (lastN x.n a) r]
    rw [drs_snoc c a x.n r]; rfl
theorem drs_len (c : Nat) : ∀ (a : List Rn) (s : Nat), (drs c s a).length = a.length
  | [], _ => rfl
  | x :: a, s => by
    show (drs c x.n a).length + 1 = a.length + 1
    rw [drs_len c a]
def prodN : List Nat → Nat
  | [] => 1
  | x :: l => x * prodN l
theorem prodN_snoc : ∀ (l : List Nat) (x : Nat), prodN (l ++ [x]) = prodN l * x
  | [], x => by simp [prodN]
  | y :: l, x => by
    show y * prodN (l ++ [x]) = y * prodN l * x
    rw [prodN_snoc l x, Nat.mul_assoc]
theorem dr_pos {c s : Nat} (hc : s ≤ c) : ∀ {r : Rn}, Fit c s r → 0 < dr c s r
  | .lot n, h => ch_pos h.2.2
  | .vote n q .bench, h => ch_pos (h.2.2.2.2.2.1 rfl)
  | .vote n q .council, h => ch_pos h.2.2.1
  | .vote n q .stay, h => by show 0 < 1; decide
theorem dr_lt {c s : Nat} (h1 : c < 512) (h2 : s < 512) : ∀ (r : Rn), dr c s r < 2 ^ 512
  | .lot n => Nat.lt_of_le_of_lt (ch_le_two_pow s n) (Nat.pow_lt_pow_right (by decide) h2)
  | .vote n q .bench => Nat.lt_of_le_of_lt (ch_le_two_pow s n) (Nat.pow_lt_pow_right (by decide) h2)
  | .vote n q .council => Nat.lt_of_le_of_lt (ch_le_two_pow c n) (Nat.pow_lt_pow_right (by decide) h1)
  | .vote n q .stay => Nat.one_lt_two_pow (by decide)
theorem prodN_lt {b : Nat} : ∀ (l : List Nat), (∀ x ∈ l, x < 2 ^ b) → prodN l < 2 ^ (b * l.length + 1)
  | [], _ => by show 1 < 2 ^ 1; decide
  | x :: l, h => by
    have h1 := prodN_lt l fun y hy => h y (List.mem_cons_of_mem _ hy)
    have h2 := h x List.mem_cons_self
    show x * prodN l < _
    rw [List.length_cons, Nat.mul_add, Nat.mul_one, show b * l.length + b + 1 = b + (b * l.length + 1) by omega, Nat.pow_add]
    exact Nat.mul_lt_mul'' h2 h1
theorem prodN_pos : ∀ (l : List Nat), (∀ x ∈ l, 0 < x) → 0 < prodN l
  | [], _ => by decide
  | x :: l, h => Nat.mul_pos (h x List.mem_cons_self) (prodN_pos l fun y hy => h y (List.mem_cons_of_mem _ hy))
theorem drs_all {c : Nat} (P : Nat → Prop) : ∀ {a : List Rn} {s : Nat}, FitR c s a → s ≤ c → (∀ s r, s ≤ c → Fit c s r → P (dr c s r)) → ∀ x ∈ drs c s a, P x
  | [], _, _, _, _, x, hx => by cases hx
  | r :: a, s, h, hs, f, x, hx => by
    rcases List.mem_cons.mp hx with rfl | hx
    · exact f s r hs h.1
    · exact drs_all P (a := a) h.2 (h.1.le hs) f x hx
theorem drs_pos {c s : Nat} {a : List Rn} (h : FitR c s a) (hs : s ≤ c) : ∀ x ∈ drs c s a, 0 < x := drs_all (fun x => 0 < x) h hs fun _ _ h1 h2 => dr_pos h1 h2
theorem drs_lt {c s : Nat} {a : List Rn} (h : FitR c s a) (hs : s ≤ c) (hc : c < 512) : ∀ x ∈ drs c s a, x < 2 ^ 512 := drs_all (fun x => x < 2 ^ 512) h hs fun s r h1 _ => dr_lt hc (by omega) r
/-- how many rows of draws -/
def allD (c : Nat) (rs : List Rn) : Nat := prodN (drs c c rs)
theorem allD_pos {c : Nat} {rs : List Rn} (h : FitR c c rs) : 0 < allD c rs := prodN_pos _ (drs_pos h (Nat.le_refl _))
theorem allD_lt {c : Nat} {rs : List Rn} (h : FitR c c rs) (hc : c < 512) : allD c rs < 2 ^ (512 * rs.length + 1) := by
  have := prodN_lt (b := 512) (drs c c rs) (drs_lt h (Nat.le_refl _) hc)
  rw [drs_len] at this
  exact this
end BR

/-! THE PROMISES of rows of rounds. -/
namespace L2
open PySem
theorem Fr1.free {d p : Addr} {H H' : Hp} (a : Fr1 d H H') (e : H' p = none) (h : p ≠ d) : H p = none := by
  cases q : H p with
  | none => rfl
  | some o => rw [a p o q h] at e; cases e
theorem Fr1.same {d : Addr} {H H1 H2 : Hp} (a : Fr1 d H H1) (b : Same H1 H2) : Fr1 d H H2 := fun c o h n => b c o (a c o h n)
theorem Same.tr {H H1 H2 : Hp} (a : Same H H1) (b : Same H1 H2) : Same H H2 := fun c o h => b c o (a c o h)
end L2
namespace BL
open PySem PySem.Spec PyProof.Rows L2 BR
/-- a list of objects -/
structure TsAt {α : Type} (ob : α → HO) (H : Hp) (f : Addr) (ps : List Addr) (qs : List α) : Prop where
  ls : H f = some (.lst (ps.map V.ref))
  it : ∀ i : Nat, ∀ p, ps[i]? = some p → ∃ q, qs[i]? = some q ∧ H p = some (ob q)
  ln : ps.length = qs.length
section
variable {α : Type} {ob : α → HO} {H H' : Hp} {f g p : Addr} {ps : List Addr} {qs : List α}
theorem TsAt.get (F : TsAt ob H f ps qs) {i : Nat} {v : V} (h : (ps.map V.ref)[i]? = some v) : ∃ p q, v = .ref p ∧ ps[i]? = some p ∧ qs[i]? = some q ∧ H p = some (ob q) := by
  rw [List.getElem?_map] at h
  cases e : ps[i]? with
  | none => rw [e] at h; cases h
  | some p =>
    rw [e] at h
    obtain ⟨q, hq, hp⟩ := F.it i p e
    exact ⟨p, q, (Option.some.inj h).symm, rfl, hq, hp⟩
theorem TsAt.ix (F : TsAt ob H f ps qs) {i : Nat} (h : i < qs.length) : ∃ p q, atI (ps.map V.ref) (i : Int) = some (.ref p) ∧ qs[i]? = some q ∧ H p = some (ob q) := by
  have hi : i < ps.length := by rw [F.ln]; exact h
  obtain ⟨p, q, e, _, h2, h3⟩ := F.get (i := i) (v := .ref ps[i]) (by rw [List.getElem?_map]; simp [hi])
  exact ⟨p, q, by rw [atI_nat (v := .ref ps[i]) (by rw [List.getElem?_map]; simp [hi]), e], h2, h3⟩
theorem TsAt.same (F : TsAt ob H f ps qs) (s : Same H H') : TsAt ob H' f ps qs := ⟨s _ _ F.ls, fun i p h => by obtain ⟨q, a, b⟩ := F.it i p h; exact ⟨q, a, s _ _ b⟩, F.ln⟩
theorem TsAt.new (F : TsAt ob H f ps qs) {o : HO} (h : H p = none) : TsAt ob (upd H p o) f ps qs := F.same ((Same.refl H).new h)
theorem TsAt.lay (F : TsAt ob H f ps qs) (h : H g = none) : TsAt ob (upd H g (.lst (ps.map V.ref))) g ps qs :=
  ⟨upd_same, fun i p h' => by obtain ⟨q, a, b⟩ := F.it i p h'; exact ⟨q, a, by rw [upd_ne (ne_of_none b h)]; exact b⟩, F.ln⟩
theorem TsAt.cut (F : TsAt ob H f ps qs) {k : Nat} (h : H g = none) : TsAt ob (upd H g (.lst ((ps.take k).map V.ref))) g (ps.take k) (qs.take k) :=
  ⟨upd_same, fun i p h' => by
    have hi : i < k := by
      by_cases z : i < k
      · exact z
      · rw [List.getElem?_eq_none (by rw [List.length_take]; omega)] at h'; cases h'
    rw [List.getElem?_take, if_pos hi] at h'
    obtain ⟨q, a, b⟩ := F.it i p h'
    exact ⟨q, by rw [List.getElem?_take, if_pos hi]; exact a, by rw [upd_ne (ne_of_none b h)]; exact b⟩, by rw [List.length_take, List.length_take, F.ln]⟩
theorem TsAt.fr1 (F : TsAt ob H f ps qs) {d l : Addr} (hob : ∀ q, ∃ xs, ob q = .tup xs) (D : DrL H d l) (hf : f ≠ d) (s : Fr1 d H H') : TsAt ob H' f ps qs :=
  ⟨s.get F.ls hf, fun i p h => by
    obtain ⟨q, a, b⟩ := F.it i p h
    obtain ⟨⟨xs, hd⟩, _⟩ := D.some
    obtain ⟨ys, e⟩ := hob q
    exact ⟨q, a, s.get b (by rw [e] at b; exact ne_kind b hd tup_lst)⟩, F.ln⟩
theorem TsAt.push (F : TsAt ob H f ps qs) {q : α} (hob : ∀ q, ∃ xs, ob q = .tup xs) (hp : H p = some (ob q)) : TsAt ob (upd H f (.lst (ps.map V.ref ++ [.ref p]))) f (ps ++ [p]) (qs ++ [q]) := by
  have nf : ∀ (r : Addr) (x : α), H r = some (ob x) → r ≠ f := fun r x e => by
    obtain ⟨ys, z⟩ := hob x
    rw [z] at e
    exact ne_kind e F.ls tup_lst
  refine ⟨by rw [upd_same]; simp, fun i p' h => ?_, by rw [List.length_append, List.length_append, F.ln]; rfl⟩
  by_cases hi : i < ps.length
  · rw [List.getElem?_append_left hi] at h
    obtain ⟨q', a, b⟩ := F.it i p' h
    exact ⟨q', by rw [List.getElem?_append_left (by rw [← F.ln]; exact hi)]; exact a, by rw [upd_ne (nf _ _ b)]; exact b⟩
  · rw [List.getElem?_append_right (by omega)] at h
    have e : i - ps.length = 0 := by
      cases z : i - ps.length with
      | zero => rfl
      | succ k => rw [z] at h; simp at h
    rw [e] at h
    simp at h
    subst h
    exact ⟨q, by rw [List.getElem?_append_right (by rw [← F.ln]; omega), ← F.ln, e]; rfl, by rw [upd_ne (nf _ _ hp)]; exact hp⟩
/-- two lists in one -/
theorem TsAt.cat {ps' : List Addr} {qs' : List α} (F : TsAt ob H f ps qs) (G : TsAt ob H g ps' qs') (h : H p = none) : TsAt ob (upd H p (.lst (ps.map V.ref ++ ps'.map V.ref))) p (ps ++ ps') (qs ++ qs') := by
  refine ⟨by rw [upd_same, List.map_append], fun i p' h' => ?_, by rw [List.length_append, List.length_append, F.ln, G.ln]⟩
  by_cases hi : i < ps.length
  · rw [List.getElem?_append_left hi] at h'
    obtain ⟨q, a, b⟩ := F.it i p' h'
    exact ⟨q, by rw [List.getElem?_append_left (by rw [← F.ln]; exact hi)]; exact a, by rw [upd_ne (ne_of_none b h)]; exact b⟩
  · rw [List.getElem?_append_right (by omega)] at h'
    obtain ⟨q, a, b⟩ := G.it _ p' h'
    exact ⟨q, by rw [List.getElem?_append_right (by rw [← F.ln]; omega), ← F.ln]; exact a, by rw [upd_ne (ne_of_none b h)]; exact b⟩
end
def wdS : Wd → Str
  | .council => "council"
  | .bench => "bench"
  | .stay => "stay"
def rnO : Rn → HO
  | .lot n => .tup [.str "lot", .int n]
  | .vote n q w => .tup [.str "vote", .int n, .int q, .str (wdS w)]
theorem rnO_tup : ∀ q : Rn, ∃ xs, rnO q = .tup xs
  | .lot _ => ⟨_, rfl⟩
  | .vote _ _ _ => ⟨_, rfl⟩
theorem rn_n : ∀ r : Rn, ∃ xs, rnO r = .tup xs ∧ atI xs 1 = some (.int (r.n : Nat))
  | .lot _ => ⟨_, rfl, rfl⟩
  | .vote _ _ _ => ⟨_, rfl, rfl⟩
/-- the data of rounds -/
def dRn : Rn → D
  | .lot n => .t [.v (.str "lot"), .v (.int n)]
  | .vote n q w => .t [.v (.str "vote"), .v (.int n), .v (.int q), .v (.str (wdS w))]
theorem isD_v {K : PySem.W.Frag} {H : Hp} {x : V} (h : flatV x = true) : IsD K H (.v x) x := by unfold IsD; exact ⟨h, rfl⟩
theorem isDs_cons {K : PySem.W.Frag} {H : Hp} {d : D} {ds : List D} {x : V} {xs : List V} (h : IsD K H d x) (h2 : IsDs K H ds xs) : IsDs K H (d :: ds) (x :: xs) := by unfold IsDs; exact ⟨_, _, rfl, h, h2⟩
theorem isDs_nil {K : PySem.W.Frag} {H : Hp} : IsDs K H [] [] := by unfold IsDs; rfl
theorem isD_rn {K : PySem.W.Frag} {H : Hp} {p : Addr} : ∀ {r : Rn}, H p = some (rnO r) → IsD K H (dRn r) (.ref p)
  | .lot n, h => by
    show IsD K H (.t _) _
    unfold IsD
    exact ⟨p, _, rfl, SqT.of h, isDs_cons (isD_v rfl) (isDs_cons (isD_v rfl) isDs_nil)⟩
  | .vote n q w, h => by
    show IsD K H (.t _) _
    unfold IsD
    exact ⟨p, _, rfl, SqT.of h, isDs_cons (isD_v rfl) (isDs_cons (isD_v rfl) (isDs_cons (isD_v rfl) (isDs_cons (isD_v rfl) isDs_nil)))⟩
theorem isDs_rns {K : PySem.W.Frag} {H : Hp} : ∀ {ps : List Addr} {qs : List Rn}, ps.length = qs.length → (∀ i : Nat, ∀ p, ps[i]? = some p → ∃ q, qs[i]? = some q ∧ H p = some (rnO q)) → IsDs K H (qs.map dRn) (ps.map V.ref)
  | [], [], _, _ => isDs_nil
  | [], _ :: _, h, _ => by simp at h
  | _ :: _, [], h, _ => by simp at h
  | p :: ps, q :: qs, h, hi => by
    refine isDs_cons ?_ (isDs_rns (by simpa using h) fun i p' h' => ?_)
    · obtain ⟨q', e, hp⟩ := hi 0 p (by simp)
      simp at e
      subst e
      exact isD_rn hp
    · obtain ⟨q', e, hp⟩ := hi (i + 1) p' (by simpa using h')
      exact ⟨q', by simpa using e, hp⟩
theorem eqD_rn : ∀ r : Rn, eqD (dRn r) (dRn r) = true
  | .lot n => by simp [dRn, eqD, eqDs, eqV]
  | .vote n q w => by simp [dRn, eqD, eqDs, eqV]
theorem eqDs_rns : ∀ rs : List Rn, eqDs (rs.map dRn) (rs.map dRn) = true
  | [] => by simp [eqDs]
  | r :: rs => by
    rw [List.map_cons]
    unfold eqDs
    rw [eqDs_rns rs, eqD_rn r]; rfl
theorem dep_rn : ∀ r : Rn, dep (dRn r) = 1
  | .lot n => by simp [dRn, dep, deps]
  | .vote n q w => by simp [dRn, dep, deps]
theorem deps_rns : ∀ rs : List Rn, deps (rs.map dRn) ≤ 1
  | [] => by simp [deps]
  | r :: rs => by
    rw [List.map_cons]
    unfold deps
    have := deps_rns rs
    rw [dep_rn]; omega
abbrev RwAt (H : Hp) (a : Addr) (ps : List Addr) (rs : List Rn) : Prop := TsAt rnO H a ps rs
section
variable {K : PySem.W.Frag} {H : Hp} {Q : VK} {f g : Addr} {ps ps' : List Addr} {rs : List Rn}
theorem isD_rw (F : RwAt H f ps rs) : IsD K H (.l (rs.map dRn)) (.ref f) := by unfold IsD; exact ⟨f, _, rfl, SqL.of F.ls, isDs_rns F.ln F.it⟩
theorem r_neRw (F : RwAt H f ps rs) (G : RwAt H g ps' rs) (h : Q (.bl false) H) : rNeA K (.ref f) (.ref g) H Q := by
  refine r_neDt (.l (rs.map dRn)) (.l (rs.map dRn)) rfl (by unfold dep; have := deps_rns rs; omega) (isD_rw F) (isD_rw G) ?_
  unfold eqD; rw [eqDs_rns]; exact h
theorem r_eqRw (F : RwAt H f ps rs) (G : RwAt H g ps' rs) (h : Q (.bl true) H) : rEqA K (.ref f) (.ref g) H Q := by
  refine r_eqDt (.l (rs.map dRn)) (.l (rs.map dRn)) rfl (by unfold dep; have := deps_rns rs; omega) (isD_rw F) (isD_rw G) ?_
  unfold eqD; rw [eqDs_rns]; exact h
/-- two lists of ints -/
theorem r_eqLI {a b : Addr} {ns ms : List Int} (h1 : H a = some (.lst (ns.map V.int))) (h2 : H b = some (.lst (ms.map V.int))) (h : Q (.bl (decide (ns = ms))) H) : rEqA K (.ref a) (.ref b) H Q :=
  r_eqDt (.l (dInts ns)) (.l (dInts ms)) rfl (by unfold dep; rw [deps_ints]; decide) (by unfold IsD; exact ⟨a, _, rfl, SqL.of h1, isDs_ints ns⟩) (by unfold IsD; exact ⟨b, _, rfl, SqL.of h2, isDs_ints ms⟩) (by unfold eqD; rw [eqDs_ints]; exact h)
theorem r_neLI {a b : Addr} {ns ms : List Int} (h1 : H a = some (.lst (ns.map V.int))) (h2 : H b = some (.lst (ms.map V.int))) (h : Q (.bl (!decide (ns = ms))) H) : rNeA K (.ref a) (.ref b) H Q :=
  r_neDt (.l (dInts ns)) (.l (dInts ms)) rfl (by unfold dep; rw [deps_ints]; decide) (by unfold IsD; exact ⟨a, _, rfl, SqL.of h1, isDs_ints ns⟩) (by unfold IsD; exact ⟨b, _, rfl, SqL.of h2, isDs_ints ms⟩) (by unfold eqD; rw [eqDs_ints]; exact h)
end
/-! ### the program -/
def spFitsVote : Sp := fun vs H Q _ => ∃ (c s n q : Nat) (w : Wd), vs = [.int c, .int s, .int n, .int q, .str (wdS w)] ∧ Fit c s (.vote n q w) ∧ Q (.bl true) H
def spFits : Sp := fun vs H Q _ => ∃ (c s : Nat) (p : Addr) (r : Rn), vs = [.int c, .int s, .ref p] ∧ H p = some (rnO r) ∧ Fit c s r ∧ Q (.bl true) H
theorem spFits_i {c s : Nat} {p : Addr} {r : Rn} {H : Hp} {Q : VK} {E : XK} (h1 : H p = some (rnO r)) (h2 : Fit c s r) (q : Q (.bl true) H) : spFits [.int c, .int s, .ref p] H Q E := ⟨c, s, p, r, rfl, h1, h2, q⟩
theorem spFitsVote_i {c s n q : Nat} {w : Wd} {H : Hp} {Q : VK} {E : XK} (h2 : Fit c s (.vote n q w)) (k : Q (.bl true) H) : spFitsVote [.int c, .int s, .int n, .int q, .str (wdS w)] H Q E := ⟨c, s, n, q, w, rfl, h2, k⟩
/-- count and a row that fits -/
structure CR (H : Hp) (a : Addr) (ps : List Addr) (c : Nat) (rs : List Rn) : Prop where
  rw : RwAt H a ps rs
  c1 : 1 ≤ c
  c2 : c ≤ 500
  ft : FitR c c rs
  ln : rs.length ≤ 100
theorem CR.same {H H' : Hp} {a : Addr} {ps : List Addr} {c : Nat} {rs : List Rn} (R : CR H a ps c rs) (s : Same H H') : CR H' a ps c rs := ⟨R.rw.same s, R.c1, R.c2, R.ft, R.ln⟩
def spSizes : Sp := fun vs H Q _ => ∃ (c : Nat) (a : Addr) (ps : List Addr) (rs : List Rn), vs = [.int c, .ref a] ∧ CR H a ps c rs ∧ ∀ (p : Addr) (H' : Hp), H p = none → Same H H' → H' p = some (lstN (szs rs)) → Q (.ref p) H'
theorem spSizes_i {c : Nat} {a : Addr} {ps : List Addr} {rs : List Rn} {H : Hp} {Q : VK} {E : XK} (R : CR H a ps c rs) (q : ∀ (p : Addr) (H' : Hp), H p = none → Same H H' → H' p = some (lstN (szs rs)) → Q (.ref p) H') : spSizes [.int c, .ref a] H Q E := ⟨c, a, ps, rs, rfl, R, q⟩
def spAhead : Sp := fun vs H Q _ => ∃ (c : Nat) (a : Addr) (ps : List Addr) (rs : List Rn), vs = [.int c, .ref a] ∧ CR H a ps c rs ∧ ∀ (p : Addr) (H' : Hp), H p = none → Same H H' → H' p = some (lstN (c :: szs rs)) → Q (.ref p) H'
theorem spAhead_i {c : Nat} {a : Addr} {ps : List Addr} {rs : List Rn} {H : Hp} {Q : VK} {E : XK} (R : CR H a ps c rs) (q : ∀ (p : Addr) (H' : Hp), H p = none → Same H H' → H' p = some (lstN (c :: szs rs)) → Q (.ref p) H') : spAhead [.int c, .ref a] H Q E := ⟨c, a, ps, rs, rfl, R, q⟩
def spRoundDraws : Sp := fun vs H Q _ => ∃ (c s : Nat) (p : Addr) (r : Rn), vs = [.int c, .int s, .ref p] ∧ H p = some (rnO r) ∧ c < 512 ∧ s < 512 ∧ Q (.int (dr c s r : Nat)) H
theorem spRoundDraws_i {c s : Nat} {p : Addr} {r : Rn} {H : Hp} {Q : VK} {E : XK} (h1 : H p = some (rnO r)) (h2 : c < 512) (h3 : s < 512) (q : Q (.int (dr c s r : Nat)) H) : spRoundDraws [.int c, .int s, .ref p] H Q E := ⟨c, s, p, r, rfl, h1, h2, h3, q⟩
def spDrawsRow : Sp := fun vs H Q _ => ∃ (c : Nat) (a : Addr) (ps : List Addr) (rs : List Rn), vs = [.int c, .ref a] ∧ CR H a ps c rs ∧ ∀ (p : Addr) (H' : Hp), H p = none → Same H H' → H' p = some (lstN (drs c c rs)) → Q (.ref p) H'
theorem spDrawsRow_i {c : Nat} {a : Addr} {ps : List Addr} {rs : List Rn} {H : Hp} {Q : VK} {E : XK} (R : CR H a ps c rs) (q : ∀ (p : Addr) (H' : Hp), H p = none → Same H H' → H' p = some (lstN (drs c c rs)) → Q (.ref p) H') : spDrawsRow [.int c, .ref a] H Q E := ⟨c, a, ps, rs, rfl, R, q⟩
def spDraws : Sp := fun vs H Q _ => ∃ (c : Nat) (a : Addr) (ps : List Addr) (rs : List Rn), vs = [.int c, .ref a] ∧ CR H a ps c rs ∧ ∀ (H' : Hp), Same H H' → Q (.int (allD c rs : Nat)) H'
theorem spDraws_i {c : Nat} {a : Addr} {ps : List Addr} {rs : List Rn} {H : Hp} {Q : VK} {E : XK} (R : CR H a ps c rs) (q : ∀ (H' : Hp), Same H H' → Q (.int (allD c rs : Nat)) H') : spDraws [.int c, .ref a] H Q E := ⟨c, a, ps, rs, rfl, R, q⟩
/-! ### the laws' rows -/
def spStep : Sp := fun vs H Q _ => ∃ (d l : Addr) (c s m : Nat), vs = [.ref d, .int c, .int s, .int m] ∧ DrL H d l ∧ 1 ≤ s ∧ s ≤ c ∧ c ≤ 500 ∧ 1 ≤ m ∧ m ≤ 60 ∧ ∀ (p : Addr) (H' : Hp) (r : Rn), Fit c s r → DrL H' d l → Fr1 d H H' → H' p = some (rnO r) → Q (.ref p) H'
theorem spStep_i {d l : Addr} {c s m : Nat} {H : Hp} {Q : VK} {E : XK} (D : DrL H d l) (h1 : 1 ≤ s) (h2 : s ≤ c) (h3 : c ≤ 500) (h4 : 1 ≤ m) (h5 : m ≤ 60) (q : ∀ (p : Addr) (H' : Hp) (r : Rn), Fit c s r → DrL H' d l → Fr1 d H H' → H' p = some (rnO r) → Q (.ref p) H') : spStep [.ref d, .int c, .int s, .int m] H Q E := ⟨d, l, c, s, m, rfl, D, h1, h2, h3, h4, h5, q⟩
def spLast : Sp := fun vs H Q _ => ∃ (d l : Addr) (c s : Nat), vs = [.ref d, .int s] ∧ DrL H d l ∧ 1 ≤ s ∧ s ≤ c ∧ c ≤ 500 ∧ ∀ (p : Addr) (H' : Hp) (ps : List Addr) (rs : List Rn), FitR c s rs → lastN s rs = 1 → rs.length ≤ 1 → DrL H' d l → Fr1 d H H' → H p = none → RwAt H' p ps rs → Q (.ref p) H'
theorem spLast_i {d l : Addr} {s : Nat} {H : Hp} {Q : VK} {E : XK} (c : Nat) (D : DrL H d l) (h1 : 1 ≤ s) (h2 : s ≤ c) (h3 : c ≤ 500) (q : ∀ (p : Addr) (H' : Hp) (ps : List Addr) (rs : List Rn), FitR c s rs → lastN s rs = 1 → rs.length ≤ 1 → DrL H' d l → Fr1 d H H' → H p = none → RwAt H' p ps rs → Q (.ref p) H') : spLast [.ref d, .int s] H Q E := ⟨d, l, c, s, rfl, D, h1, h2, h3, q⟩
def spWholeRow : Sp := fun vs H Q _ => ∃ (d l : Addr) (c k m : Nat), vs = [.ref d, .int c, .int k, .int m] ∧ DrL H d l ∧ 1 ≤ c ∧ c ≤ 500 ∧ k ≤ 50 ∧ 1 ≤ m ∧ m ≤ 60 ∧ ∀ (a : Addr) (H' : Hp) (ps : List Addr) (rs : List Rn), CR H' a ps c rs → rs.length ≤ k + 1 → lastN c rs = 1 → DrL H' d l → Fr1 d H H' → H a = none → Q (.ref a) H'
theorem spWholeRow_i {d l : Addr} {c k m : Nat} {H : Hp} {Q : VK} {E : XK} (D : DrL H d l) (h1 : 1 ≤ c) (h3 : c ≤ 500) (h4 : k ≤ 50) (h5 : 1 ≤ m) (h6 : m ≤ 60) (q : ∀ (a : Addr) (H' : Hp) (ps : List Addr) (rs : List Rn), CR H' a ps c rs → rs.length ≤ k + 1 → lastN c rs = 1 → DrL H' d l → Fr1 d H H' → H a = none → Q (.ref a) H') : spWholeRow [.ref d, .int c, .int k, .int m] H Q E := ⟨d, l, c, k, m, rfl, D, h1, h3, h4, h5, h6, q⟩
/-- all are ints -/
def spInts : Sp := fun vs H Q _ => ∃ (p : Addr) (ns : List Int), vs = [.ref p] ∧ H p = some (.lst (ns.map V.int)) ∧ ns.length < 16777216 ∧ ∀ H', Same H H' → Q (.bl true) H'
theorem spInts_i {p : Addr} {ns : List Int} {H : Hp} {Q : VK} {E : XK} (h : H p = some (.lst (ns.map V.int))) (h2 : ns.length < 16777216) (q : ∀ H', Same H H' → Q (.bl true) H') : spInts [.ref p] H Q E := ⟨p, ns, rfl, h, h2, q⟩
end BL

/-! THE MATHEMATICS of one round: how many draws lead to how many friends. -/
namespace BR
open MB
def mr (n : Nat) (f : Nat → Nat) : List Nat := (List.range (n + 1)).map f
theorem mr_len (n : Nat) (f : Nat → Nat) : (mr n f).length = n + 1 := by unfold mr; simp
theorem mr_get {n i : Nat} (f : Nat → Nat) (h : i ≤ n) : (mr n f)[i]? = some (f i) := by
  unfold mr
  rw [List.getElem?_map, List.getElem?_range (by omega)]; rfl
theorem mr_succ (n : Nat) (f : Nat → Nat) : mr (n + 1) f = mr n f ++ [f (n + 1)] := by
  unfold mr
  rw [List.range_succ, List.map_append]; rfl
theorem mr_cons (n : Nat) (f : Nat → Nat) : mr (n + 1) f = f 0 :: mr n (fun k => f (k + 1)) := by
  unfold mr
  rw [List.range_succ_eq_map, List.map_cons, List.map_map]; rfl
theorem mr_congr {n : Nat} {f g : Nat → Nat} (h : ∀ k, k ≤ n → f k = g k) : mr n f = mr n g := by
  unfold mr
  refine List.map_congr_left fun k hk => h k ?_
  have := List.mem_range.mp hk
  omega
theorem mr_none {n i : Nat} (f : Nat → Nat) (h : n < i) : (mr n f)[i]? = none := List.getElem?_eq_none (by rw [mr_len]; omega)
theorem mr_rev (n : Nat) (f : Nat → Nat) : (mr n f).reverse = mr n fun j => f (n - j) := by
  apply List.ext_getElem?
  intro i
  by_cases h : i ≤ n
  · rw [List.getElem?_reverse (by rw [mr_len]; omega), mr_len, mr_get _ (by omega), mr_get _ h]
    congr 2
  · rw [mr_none _ (by omega), List.getElem?_eq_none (by rw [List.length_reverse, mr_len]; omega)]
theorem sum_add (f g : Nat → Nat) : ∀ n : Nat, (mr n fun k => f k + g k).sum = (mr n f).sum + (mr n g).sum
  | 0 => by simp [mr]
  | n + 1 => by
    rw [mr_succ, mr_succ, mr_succ, List.sum_append, List.sum_append, List.sum_append, sum_add f g n]
    simp only [List.sum_cons, List.sum_nil]
    omega
theorem sum_zero {f : Nat → Nat} : ∀ {n : Nat}, (∀ k, k ≤ n → f k = 0) → (mr n f).sum = 0
  | 0, h => by simp [mr, h 0 (Nat.le_refl _)]
  | n + 1, h => by
    rw [mr_succ, List.sum_append, sum_zero fun k hk => h k (by omega)]
    simp [h (n + 1) (Nat.le_refl _)]
def one (n k v : Nat) : List Nat := mr n fun j => if j = k then v else 0
theorem sum_one {k v : Nat} : ∀ {n : Nat}, k ≤ n → (one n k v).sum = v
  | 0, h => by
    have : k = 0 := by omega
    subst this
    simp [one, mr]
  | n + 1, h => by
    unfold one
    rw [mr_succ, List.sum_append]
    by_cases e : k = n + 1
    · rw [sum_zero fun j hj => by rw [if_neg (by omega)]]
      simp [e]
    · have := sum_one (k := k) (v := v) (n := n) (by omega)
      unfold one at this
      rw [this]
      simp only [List.sum_cons, List.sum_nil]
      rw [if_neg (by omega)]; omega
theorem one_set {n k v : Nat} (h : k ≤ n) : (List.replicate (n + 1) 0).set k v = one n k v := by
  apply List.ext_getElem?
  intro i
  by_cases hi : i ≤ n
  · unfold one
    rw [mr_get _ hi, List.getElem?_set, List.length_replicate, List.getElem?_replicate]
    by_cases e : k = i
    · rw [if_pos e, if_pos (by omega), if_pos e.symm]
    · rw [if_neg e, if_pos (by omega), if_neg (fun z => e z.symm)]
  · unfold one
    rw [mr_none _ (by omega), List.getElem?_eq_none (by rw [List.length_set, List.length_replicate]; omega)]
theorem one_rev {n k v : Nat} (h : k ≤ n) : (one n k v).reverse = one n (n - k) v := by
  unfold one
  rw [mr_rev]
  refine mr_congr fun j hj => ?_
  by_cases e : j = n - k
  · rw [if_pos e, if_pos (by omega)]
  · rw [if_neg e, if_neg (by omega)]
/-- the picks of n out of b, on of them friends, by how many friends they have -/
def lotN (b on n : Nat) : List Nat := mr n fun k => ch on k * ch (b - on) (n - k)
theorem vander : ∀ (a m n : Nat), (mr n fun k => ch a k * ch m (n - k)).sum = ch (a + m) n
  | 0, m, 0 => by simp [mr, ch_zero]
  | 0, m, n + 1 => by
    rw [mr_cons, List.sum_cons, sum_zero fun k _ => by rw [ch_zs, Nat.zero_mul]]
    rw [ch_zero, Nat.one_mul, Nat.zero_add]; rfl
  | a + 1, m, 0 => by simp [mr, ch_zero]
  | a + 1, m, n + 1 => by
    have h1 := vander a m n
    have h2 := vander a m (n + 1)
    rw [mr_cons, List.sum_cons] at h2 ⊢
    rw [show a + 1 + m = (a + m) + 1 by omega, ch_ss, ← h1, ← h2]
    have e1 : (mr n fun k => ch (a + 1) (k + 1) * ch m (n + 1 - (k + 1))) = mr n fun k => ch a k * ch m (n - k) + ch a (k + 1) * ch m (n + 1 - (k + 1)) := mr_congr fun k hk => by
      rw [ch_ss, Nat.add_mul, show n + 1 - (k + 1) = n - k by omega]
    rw [e1, sum_add, ch_zero, ch_zero]
    omega
theorem lotN_sum {b on n : Nat} (h : on ≤ b) : (lotN b on n).sum = ch b n := by
  unfold lotN
  rw [vander, show on + (b - on) = b by omega]
theorem lotN_rev {b on n : Nat} (h : on ≤ b) : lotN b (b - on) n = (lotN b on n).reverse := by
  unfold lotN
  rw [mr_rev]
  refine mr_congr fun k hk => ?_
  rw [show b - (b - on) = on by omega, show n - (n - k) = k by omega, Nat.mul_comm]
/-- where a bench leads -/
def left (c f b on n q : Nat) : Nat := if q ≤ on then min f n else if q ≤ b - on then n - min (c - f) n else on
def bh (c f b on : Nat) : Rn → List Nat
  | .lot n => lotN b on n
  | .vote n q w => if q ≤ on then one n (min f n) (dr c b (.vote n q w)) else if q ≤ b - on then one n (n - min (c - f) n) (dr c b (.vote n q w)) else
    match w with
    | .council => lotN c f n
    | .bench => lotN b on n
    | .stay => one n on 1
theorem bh_vote (c f b on n q : Nat) (w : Wd) : bh c f b on (.vote n q w) = if q ≤ on then one n (min f n) (dr c b (.vote n q w)) else if q ≤ b - on then one n (n - min (c - f) n) (dr c b (.vote n q w)) else
    match w with
    | .council => lotN c f n
    | .bench => lotN b on n
    | .stay => one n on 1 := rfl
theorem bh_len (c f b on : Nat) : ∀ r : Rn, (bh c f b on r).length = r.n + 1
  | .lot n => mr_len _ _
  | .vote n q w => by
    rw [bh_vote]
    split
    · exact mr_len _ _
    · split
      · exact mr_len _ _
      · cases w <;> exact mr_len _ _
theorem bh_sum {c f b on : Nat} (hf : f ≤ c) (ho : on ≤ b) : ∀ {r : Rn}, Fit c b r → (bh c f b on r).sum = dr c b r
  | .lot n, _ => lotN_sum ho
  | .vote n q w, h => by
    rw [bh_vote]
    split
    · exact sum_one (by omega)
    · split
      · exact sum_one (by omega)
      · cases w with
        | council => exact lotN_sum hf
        | bench => exact lotN_sum ho
        | stay => exact sum_one (by have := h.2.2.2.2.2.2 rfl; omega)
theorem bh_rev {c f b on : Nat} (hf : f ≤ c) (ho : on ≤ b) : ∀ {r : Rn}, Fit c b r → bh c (c - f) b (b - on) r = (bh c f b on r).reverse
  | .lot n, _ => lotN_rev ho
  | .vote n q w, h => by
    obtain ⟨h1, h2, h3, h4, h5, h6, h7⟩ := h
    rw [bh_vote, bh_vote]
    by_cases a : q ≤ on
    · rw [if_neg (by omega), if_pos (by omega), if_pos a, one_rev (by omega), show c - (c - f) = f by omega]
    · by_cases a2 : q ≤ b - on
      · rw [if_pos a2, if_neg a, if_pos a2, one_rev (by omega)]
        congr 1
        omega
      · rw [if_neg a2, if_neg (by omega), if_neg a, if_neg a2]
        cases w with
        | council => exact lotN_rev hf
        | bench => exact lotN_rev ho
        | stay =>
          have := h7 rfl
          show one n (b - on) 1 = (one n on 1).reverse
          rw [one_rev (by omega), this]
theorem ch_div' (n i : Nat) : ((ch n i : Int) * ((n : Int) - (i : Int))) / ((i : Int) + 1) = (ch n (i + 1) : Int) := by
  by_cases h : i ≤ n
  · exact ch_div n i h
  · rw [ch_gt (show n < i by omega), ch_gt (show n < i + 1 by omega)]
    simp
theorem bh_le {c f b on : Nat} (hf : f ≤ c) (ho : on ≤ b) (hc : c < 512) (hb : b < 512) {r : Rn} (h : Fit c b r) : ∀ x ∈ bh c f b on r, x < 2 ^ 512 := by
  intro x hx
  have h1 : x ≤ (bh c f b on r).sum := by
    generalize bh c f b on r = l at hx ⊢
    induction l with
    | nil => cases hx
    | cons y l ih =>
      rw [List.sum_cons]
      rcases List.mem_cons.mp hx with rfl | hx
      · omega
      · have := ih hx; omega
  rw [bh_sum hf ho h] at h1
  exact Nat.lt_of_le_of_lt h1 (dr_lt hc hb r)
end BR

/-! THE PROMISES of one round. -/
namespace BL
open PySem PySem.Spec PyProof.Rows L2 BR
theorem ixN_nat {n k : Nat} (h : k < n) : ixN n (k : Int) = some k := by
  unfold ixN
  rw [if_pos (by omega), if_pos (by omega)]; rfl
theorem zs_set (l : List Nat) (k x : Nat) : ((zs l).map V.int).set k (.int (x : Int)) = (zs (l.set k x)).map V.int := by
  unfold zs
  rw [List.map_set, List.map_set]
theorem zs_rep (n : Nat) : (List.replicate n (0 : Int)).map V.int = (zs (List.replicate n 0)).map V.int := by
  unfold zs
  rw [List.map_replicate, List.map_replicate, List.map_replicate]; rfl
theorem zs_rev (l : List Nat) : ((zs l).map V.int).reverse = (zs l.reverse).map V.int := by
  unfold zs
  rw [List.map_reverse, List.map_reverse]
theorem zs_sum : ∀ l : List Nat, (zs l).sum = ((l.sum : Nat) : Int)
  | [] => rfl
  | x :: l => by
    show (x : Int) + (zs l).sum = _
    rw [zs_sum l, List.sum_cons, Int.natCast_add]
theorem get_lstN {l : List Nat} {i : Nat} {v : V} (h : ((zs l).map V.int)[i]? = some v) : ∃ x : Nat, l[i]? = some x ∧ v = .int (x : Int) := by
  unfold zs at h
  rw [List.getElem?_map, List.getElem?_map] at h
  cases w : l[i]? with
  | none => rw [w] at h; cases h
  | some x => rw [w] at h; exact ⟨x, rfl, (Option.some.inj h).symm⟩
/-- a new list of numbers -/
def NewL (H : Hp) (Q : VK) (l : List Nat) : Prop := ∀ (p : Addr) (H' : Hp), H p = none → Same H H' → H' p = some (lstN l) → Q (.ref p) H'
def spUpTo : Sp := fun vs H Q _ => ∃ m k : Nat, vs = [.int m, .int k] ∧ m < 512 ∧ k ≤ 500 ∧ NewL H Q (mr k (MB.ch m))
theorem spUpTo_i {m k : Nat} {H : Hp} {Q : VK} {E : XK} (h1 : m < 512) (h2 : k ≤ 500) (q : NewL H Q (mr k (MB.ch m))) : spUpTo [.int m, .int k] H Q E := ⟨m, k, rfl, h1, h2, q⟩
def spLot : Sp := fun vs H Q _ => ∃ b on k : Nat, vs = [.int b, .int on, .int k] ∧ b < 512 ∧ on ≤ b ∧ k ≤ 500 ∧ NewL H Q (lotN b on k)
theorem spLot_i {b on k : Nat} {H : Hp} {Q : VK} {E : XK} (h1 : b < 512) (h3 : on ≤ b) (h2 : k ≤ 500) (q : NewL H Q (lotN b on k)) : spLot [.int b, .int on, .int k] H Q E := ⟨b, on, k, rfl, h1, h3, h2, q⟩
def sideS (b on q : Nat) : Str := if q ≤ on then "friends" else if q ≤ b - on then "foes" else "hung"
def spSide : Sp := fun vs H Q _ => ∃ b on q : Nat, vs = [.int b, .int on, .int q] ∧ on ≤ b ∧ Q (.str (sideS b on q)) H
theorem spSide_i {b on q : Nat} {H : Hp} {Q : VK} {E : XK} (h : on ≤ b) (k : Q (.str (sideS b on q)) H) : spSide [.int b, .int on, .int q] H Q E := ⟨b, on, q, rfl, h, k⟩
def spSeated : Sp := fun vs H Q _ => ∃ (c f n : Nat) (w : Bool), vs = [.int c, .int f, .int n, .str (if w then "friends" else "foes")] ∧ f ≤ c ∧ Q (.int ((if w then min f n else n - min (c - f) n : Nat) : Int)) H
theorem spSeated_i {c f n : Nat} {w : Bool} {H : Hp} {Q : VK} {E : XK} (h : f ≤ c) (k : Q (.int ((if w then min f n else n - min (c - f) n : Nat) : Int)) H) : spSeated [.int c, .int f, .int n, .str (if w then "friends" else "foes")] H Q E := ⟨c, f, n, w, rfl, h, k⟩
def spLead : Sp := fun vs H Q _ => ∃ n k v : Nat, vs = [.int n, .int k, .int v] ∧ k ≤ n ∧ n ≤ 500 ∧ NewL H Q (one n k v)
theorem spLead_i {n k v : Nat} {H : Hp} {Q : VK} {E : XK} (h1 : k ≤ n) (h2 : n ≤ 500) (q : NewL H Q (one n k v)) : spLead [.int n, .int k, .int v] H Q E := ⟨n, k, v, rfl, h1, h2, q⟩
def spBehind : Sp := fun vs H Q _ => ∃ (c f b on : Nat) (p : Addr) (r : Rn), vs = [.int c, .int f, .int b, .int on, .ref p] ∧ H p = some (rnO r) ∧ f ≤ c ∧ on ≤ b ∧ c < 512 ∧ b < 512 ∧ Fit c b r ∧ NewL H Q (bh c f b on r)
theorem spBehind_i {c f b on : Nat} {p : Addr} {r : Rn} {H : Hp} {Q : VK} {E : XK} (hp : H p = some (rnO r)) (h1 : f ≤ c) (h2 : on ≤ b) (h3 : c < 512) (h4 : b < 512) (h5 : Fit c b r) (q : NewL H Q (bh c f b on r)) : spBehind [.int c, .int f, .int b, .int on, .ref p] H Q E := ⟨c, f, b, on, p, r, rfl, hp, h1, h2, h3, h4, h5, q⟩
/-- the sealed draws of a vote -/
def sld (c f b on n : Nat) : Wd → List Nat
  | .council => lotN c f n
  | .bench => lotN b on n
  | .stay => [1]
theorem sld_sum {c f b on n q : Nat} (hf : f ≤ c) (ho : on ≤ b) : ∀ w : Wd, (sld c f b on n w).sum = dr c b (.vote n q w)
  | .council => lotN_sum hf
  | .bench => lotN_sum ho
  | .stay => rfl
/-- a bench in a council -/
def spBench : Sp := fun vs H Q _ => ∃ (d l : Addr) (m : Nat), vs = [.ref d, .int m] ∧ DrL H d l ∧ 1 ≤ m ∧ m ≤ 500 ∧ ∀ (p : Addr) (H' : Hp) (c f b on : Nat), 1 ≤ c → c ≤ m → f ≤ c → 1 ≤ b → b ≤ c → b ≤ 60 → on ≤ b → DrL H' d l → Fr1 d H H' → H' p = some (.tup [.int (c : Nat), .int (f : Nat), .int (b : Nat), .int (on : Nat)]) → Q (.ref p) H'
theorem spBench_i {d l : Addr} {m : Nat} {H : Hp} {Q : VK} {E : XK} (D : DrL H d l) (h1 : 1 ≤ m) (h2 : m ≤ 500) (q : ∀ (p : Addr) (H' : Hp) (c f b on : Nat), 1 ≤ c → c ≤ m → f ≤ c → 1 ≤ b → b ≤ c → b ≤ 60 → on ≤ b → DrL H' d l → Fr1 d H H' → H' p = some (.tup [.int (c : Nat), .int (f : Nat), .int (b : Nat), .int (on : Nat)]) → Q (.ref p) H') : spBench [.ref d, .int m] H Q E := ⟨d, l, m, rfl, D, h1, h2, q⟩
/-- a council: a pair of how many, how many friends -/
def spCouncil : Sp := fun vs H Q _ => ∃ (d l : Addr) (m : Nat), vs = [.ref d, .int m] ∧ DrL H d l ∧ 1 ≤ m ∧ m ≤ 500 ∧ ∀ (p : Addr) (H' : Hp) (c f : Nat), 1 ≤ c → c ≤ m → f ≤ c → DrL H' d l → Fr1 d H H' → H' p = some (.tup [.int (c : Nat), .int (f : Nat)]) → Q (.ref p) H'
theorem spCouncil_i {d l : Addr} {m : Nat} {H : Hp} {Q : VK} {E : XK} (D : DrL H d l) (h1 : 1 ≤ m) (h2 : m ≤ 500) (q : ∀ (p : Addr) (H' : Hp) (c f : Nat), 1 ≤ c → c ≤ m → f ≤ c → DrL H' d l → Fr1 d H H' → H' p = some (.tup [.int (c : Nat), .int (f : Nat)]) → Q (.ref p) H') : spCouncil [.ref d, .int m] H Q E := ⟨d, l, m, rfl, D, h1, h2, q⟩
end BL

/-! THE MATHEMATICS of roads. -/
namespace BR
open MB
def sm : Nat → (Nat → Nat) → Nat
  | 0, _ => 0
  | k + 1, g => sm k g + g k
theorem sm_congr {f g : Nat → Nat} : ∀ {k : Nat}, (∀ i, i < k → f i = g i) → sm k f = sm k g
  | 0, _ => rfl
  | k + 1, h => by
    show sm k f + f k = sm k g + g k
    rw [sm_congr fun i hi => h i (by omega), h k (by omega)]
theorem mr_sum (f : Nat → Nat) : ∀ n : Nat, (mr n f).sum = sm (n + 1) f
  | 0 => by simp [mr, sm]
  | n + 1 => by
    rw [mr_succ, List.sum_append, mr_sum f n]
    simp [sm]
theorem sm_add (f g : Nat → Nat) : ∀ k : Nat, (sm k fun i => f i + g i) = sm k f + sm k g
  | 0 => rfl
  | k + 1 => by
    show (sm k fun i => f i + g i) + (f k + g k) = (sm k f + f k) + (sm k g + g k)
    rw [sm_add f g k]; omega
theorem sm_mul (a : Nat) (f : Nat → Nat) : ∀ k : Nat, (sm k fun i => a * f i) = a * sm k f
  | 0 => by simp [sm]
  | k + 1 => by
    show (sm k fun i => a * f i) + a * f k = a * (sm k f + f k)
    rw [sm_mul a f k, Nat.mul_add]
theorem sm_zero : ∀ k : Nat, (sm k fun _ => 0) = 0
  | 0 => rfl
  | k + 1 => by show (sm k fun _ => 0) + 0 = 0; rw [sm_zero k]
theorem sm_swap (g : Nat → Nat → Nat) (m : Nat) : ∀ k : Nat, (sm k fun i => sm m fun j => g i j) = sm m fun j => sm k fun i => g i j
  | 0 => by
    show 0 = sm m fun j => 0
    rw [sm_zero]
  | k + 1 => by
    show (sm k fun i => sm m fun j => g i j) + (sm m fun j => g k j) = sm m fun j => (sm k fun i => g i j) + g k j
    rw [sm_swap g m k, sm_add]
theorem list_sum : ∀ (l : List Nat), l.sum = sm l.length fun i => l.getD i 0 := by
  intro l
  have key : ∀ k, k ≤ l.length → (l.take k).sum = sm k fun i => l.getD i 0 := by
    intro k
    induction k with
    | zero => intro _; simp [sm]
    | succ k ih =>
      intro h
      have hk : l[k]? = some l[k] := by simp
      rw [take_next hk, List.sum_append, ih (by omega)]
      show _ = _ + l.getD k 0
      rw [List.getD_eq_getElem?_getD, hk]; simp
  have := key l.length (Nat.le_refl _)
  rw [List.take_length] at this
  exact this
theorem sm_le {f : Nat → Nat} : ∀ {k i : Nat}, i < k → f i ≤ sm k f
  | 0, i, h => by omega
  | k + 1, i, h => by
    show f i ≤ sm k f + f k
    by_cases e : i = k
    · subst e; omega
    · have := sm_le (f := f) (k := k) (i := i) (by omega); omega
theorem mr_set {n j v : Nat} {g : Nat → Nat} (h : j ≤ n) : (mr n g).set j v = mr n fun t => if t = j then v else g t := by
  apply List.ext_getElem?
  intro i
  by_cases hi : i ≤ n
  · rw [mr_get _ hi, List.getElem?_set, mr_len, mr_get _ hi]
    by_cases e : j = i
    · rw [if_pos e, if_pos (by omega), if_pos e.symm]
    · rw [if_neg e, if_neg (fun z => e z.symm)]
  · rw [mr_none _ (by omega), List.getElem?_eq_none (by rw [List.length_set, mr_len]; omega)]
theorem getD_some {l : List Nat} {i x : Nat} (h : l[i]? = some x) : l.getD i 0 = x := by rw [List.getD_eq_getElem?_getD, h]; rfl
theorem mem_le_sum : ∀ {l : List Nat} {x : Nat}, x ∈ l → x ≤ l.sum
  | y :: l, x, h => by
    rw [List.sum_cons]
    rcases List.mem_cons.mp h with rfl | h
    · omega
    · have := mem_le_sum h; omega
/-- from the roads to a bench of b to those behind a round -/
def rT (c f b : Nat) (h : List Nat) (r : Rn) (i t : Nat) : Nat := sm i fun on => h.getD on 0 * (bh c f b on r).getD t 0
def ron (c f b : Nat) (h : List Nat) (r : Rn) : List Nat := mr r.n fun t => rT c f b h r (b + 1) t
theorem ron_len (c f b : Nat) (h : List Nat) (r : Rn) : (ron c f b h r).length = r.n + 1 := mr_len _ _
theorem ron_sum {c f b : Nat} {h : List Nat} {r : Rn} (hf : f ≤ c) (hl : h.length = b + 1) (ft : Fit c b r) : (ron c f b h r).sum = h.sum * dr c b r := by
  unfold ron
  rw [mr_sum]
  unfold rT
  rw [← sm_swap (fun on t => h.getD on 0 * (bh c f b on r).getD t 0) (r.n + 1) (b + 1)]
  have e : ∀ on, on < b + 1 → (sm (r.n + 1) fun t => h.getD on 0 * (bh c f b on r).getD t 0) = dr c b r * h.getD on 0 := fun on ho => by
    rw [sm_mul, ← bh_len c f b on r, ← list_sum, bh_sum hf (by omega) ft, Nat.mul_comm]
  rw [sm_congr e, sm_mul, ← hl, ← list_sum, Nat.mul_comm]
def rds (c f : Nat) : Nat → List Nat → List Rn → List (List Nat)
  | _, _, [] => []
  | b, h, r :: rs => ron c f b h r :: rds c f r.n (ron c f b h r) rs
/-- the roads ahead of the round i -/
def rdl (c f : Nat) : Nat → List Nat → List Rn → List Nat
  | _, h, [] => h
  | b, h, r :: rs => rdl c f r.n (ron c f b h r) rs
theorem rds_snoc (c f : Nat) : ∀ (a : List Rn) (b : Nat) (h : List Nat) (r : Rn), rds c f b h (a ++ [r]) = rds c f b h a ++ [ron c f (lastN b a) (rdl c f b h a) r]
  | [], _, _, _ => rfl
  | x :: a, b, h, r => by
    show ron c f b h x :: rds c f x.n (ron c f b h x) (a ++ [r]) = (ron c f b h x :: rds c f x.n (ron c f b h x) a) ++ _
    rw [rds_snoc c f a x.n _ r]; rfl
theorem rdl_snoc (c f : Nat) : ∀ (a : List Rn) (b : Nat) (h : List Nat) (r : Rn), rdl c f b h (a ++ [r]) = ron c f (lastN b a) (rdl c f b h a) r
  | [], _, _, _ => rfl
  | x :: a, b, h, r => by
    show rdl c f x.n (ron c f b h x) (a ++ [r]) = _
    rw [rdl_snoc c f a x.n _ r]; rfl
theorem rds_len (c f : Nat) : ∀ (a : List Rn) (b : Nat) (h : List Nat), (rds c f b h a).length = a.length
  | [], _, _ => rfl
  | x :: a, b, h => by
    show (rds c f x.n _ a).length + 1 = a.length + 1
    rw [rds_len c f a]
theorem rdl_len (c f : Nat) : ∀ (a : List Rn) {b : Nat} {h : List Nat}, h.length = b + 1 → (rdl c f b h a).length = lastN b a + 1
  | [], b, h, e => e
  | x :: a, b, h, e => rdl_len c f a (ron_len _ _ _ _ _)
theorem rdl_sum {c f : Nat} (hf : f ≤ c) : ∀ (a : List Rn) {b : Nat} {h : List Nat}, h.length = b + 1 → FitR c b a → (rdl c f b h a).sum = h.sum * prodN (drs c b a)
  | [], b, h, e, _ => by show h.sum = h.sum * 1; omega
  | x :: a, b, h, e, ft => by
    show (rdl c f x.n (ron c f b h x) a).sum = h.sum * (dr c b x * prodN (drs c x.n a))
    rw [rdl_sum hf a (ron_len _ _ _ _ _) ft.2, ron_sum hf e ft.1, Nat.mul_assoc]
theorem rds_get {c f : Nat} : ∀ {a : List Rn} {b : Nat} {h : List Nat} {i : Nat} {l : List Nat}, (rds c f b h a)[i]? = some l → l = rdl c f b h (a.take (i + 1))
  | [], _, _, i, l, e => by simp [rds] at e
  | x :: a, b, h, 0, l, e => by
    have : ron c f b h x = l := by simpa [rds] using e
    rw [← this]; rfl
  | x :: a, b, h, i + 1, l, e => by
    show l = rdl c f x.n (ron c f b h x) (a.take (i + 1))
    exact rds_get (by simpa [rds] using e)
/-- the roads of a whole council -/
def road (c f : Nat) (rs : List Rn) : List (List Nat) := rds c f c (one c f 1) rs
theorem one_len (n k v : Nat) : (one n k v).length = n + 1 := mr_len _ _
def frM (c f : Nat) (rs : List Rn) : Nat := (rdl c f c (one c f 1) rs).getD 1 0
end BR

/-! THE PROMISES of roads. -/
namespace L2
open PySem
theorem r_bm0 {K : PySem.W.Frag} {o : V → List V → Hp → VK → Prop} {te : TE} {σ : St} {H : Hp} {Q : VK} (h : te σ H fun x H1 => tyV K "list" x H1 ∧ o x [] H1 Q) : tBM0 K "list" o te σ H Q := h
theorem r_clear {p : Addr} {xs : List V} {H : Hp} {Q : VK} (h1 : H p = some (.lst xs)) (h : Q .non (upd H p (.lst []))) : rClear (.ref p) [] H Q := ⟨p, xs, rfl, rfl, h1, h⟩
end L2
namespace BR
theorem drs_take (c : Nat) : ∀ (rs : List Rn) (s k : Nat), drs c s (rs.take k) = (drs c s rs).take k
  | _, _, 0 => by simp [drs]
  | [], _, k + 1 => by simp [drs]
  | r :: rs, s, k + 1 => by
    show dr c s r :: drs c r.n (rs.take k) = dr c s r :: (drs c r.n rs).take k
    rw [drs_take c rs]
end BR
namespace BL
open PySem PySem.Spec PyProof.Rows L2 BR
theorem snoc_of {α : Type} : ∀ {l : List α}, l ≠ [] → ∃ l' y, l = l' ++ [y]
  | [], h => absurd rfl h
  | [x], _ => ⟨[], x, rfl⟩
  | x :: y :: l, _ => by
    obtain ⟨l', z, e⟩ := snoc_of (l := y :: l) (fun h => by cases h)
    exact ⟨x :: l', z, by rw [e]; rfl⟩
theorem atI_lastN {l : List Nat} {k x : Nat} (h : l[k]? = some x) (hl : l.length = k + 1) : atI ((zs l).map V.int) (-1) = some (.int (x : Int)) := by
  have : l ≠ [] := by rintro rfl; simp at hl
  obtain ⟨l', y, rfl⟩ : ∃ l' y, l = l' ++ [y] := snoc_of this
  have e : l'.length = k := by rw [List.length_append] at hl; simpa using hl
  subst e
  rw [List.getElem?_append_right (Nat.le_refl _), Nat.sub_self] at h
  have : y = x := by simpa using h
  subst this
  rw [← lst_snoc]
  exact atI_last _ _
def spWhole : Sp := fun vs H Q _ => ∃ (c : Nat) (a : Addr) (ps : List Addr) (rs : List Rn), vs = [.int c, .ref a] ∧ CR H a ps c rs ∧ ∀ H', Same H H' → Q (.bl (decide (lastN c rs = 1))) H'
theorem spWhole_i {c : Nat} {a : Addr} {ps : List Addr} {rs : List Rn} {H : Hp} {Q : VK} {E : XK} (R : CR H a ps c rs) (q : ∀ H', Same H H' → Q (.bl (decide (lastN c rs = 1))) H') : spWhole [.int c, .ref a] H Q E := ⟨c, a, ps, rs, rfl, R, q⟩
def spNeedW : Sp := fun vs H Q _ => ∃ (c : Nat) (a : Addr) (ps : List Addr) (rs : List Rn), vs = [.int c, .ref a] ∧ CR H a ps c rs ∧ lastN c rs = 1 ∧ ∀ H', Same H H' → Q .non H'
theorem spNeedW_i {c : Nat} {a : Addr} {ps : List Addr} {rs : List Rn} {H : Hp} {Q : VK} {E : XK} (R : CR H a ps c rs) (h : lastN c rs = 1) (q : ∀ H', Same H H' → Q .non H') : spNeedW [.int c, .ref a] H Q E := ⟨c, a, ps, rs, rfl, R, h, q⟩
def spNeedF : Sp := fun vs H Q _ => ∃ (c f : Nat) (a : Addr) (ps : List Addr) (rs : List Rn), vs = [.int c, .int f, .ref a] ∧ CR H a ps c rs ∧ lastN c rs = 1 ∧ f ≤ c ∧ ∀ H', Same H H' → Q .non H'
theorem spNeedF_i {c f : Nat} {a : Addr} {ps : List Addr} {rs : List Rn} {H : Hp} {Q : VK} {E : XK} (R : CR H a ps c rs) (h : lastN c rs = 1) (hf : f ≤ c) (q : ∀ H', Same H H' → Q .non H') : spNeedF [.int c, .int f, .ref a] H Q E := ⟨c, f, a, ps, rs, rfl, R, h, hf, q⟩
def spRoadsOn : Sp := fun vs H Q _ => ∃ (c f b : Nat) (ha p : Addr) (h : List Nat) (r : Rn), vs = [.int c, .int f, .ref ha, .ref p] ∧ H ha = some (lstN h) ∧ H p = some (rnO r) ∧ h.length = b + 1 ∧ f ≤ c ∧ c < 512 ∧ b < 512 ∧ Fit c b r ∧ h.sum < 2 ^ 60000 ∧ NewL H Q (ron c f b h r)
theorem spRoadsOn_i {c f b : Nat} {ha p : Addr} {h : List Nat} {r : Rn} {H : Hp} {Q : VK} {E : XK} (h1 : H ha = some (lstN h)) (h2 : H p = some (rnO r)) (h3 : h.length = b + 1) (h4 : f ≤ c) (h5 : c < 512) (h6 : b < 512) (h7 : Fit c b r) (h8 : h.sum < 2 ^ 60000) (q : NewL H Q (ron c f b h r)) : spRoadsOn [.int c, .int f, .ref ha, .ref p] H Q E := ⟨c, f, b, ha, p, h, r, rfl, h1, h2, h3, h4, h5, h6, h7, h8, q⟩
/-- a new list of new lists of numbers -/
def NewLL (H : Hp) (Q : VK) (ls : List (List Nat)) : Prop := ∀ (a : Addr) (H' : Hp) (ps : List Addr), H a = none → Same H H' → TsAt lstN H' a ps ls → (∀ p ∈ ps, H p = none ∧ p ≠ a) → Q (.ref a) H'
/-- a council's row, friends in it, whole -/
structure CF (H : Hp) (a : Addr) (ps : List Addr) (c f : Nat) (rs : List Rn) : Prop where
  cr : CR H a ps c rs
  wh : lastN c rs = 1
  fr : f ≤ c
theorem CF.same {H H' : Hp} {a : Addr} {ps : List Addr} {c f : Nat} {rs : List Rn} (R : CF H a ps c f rs) (s : Same H H') : CF H' a ps c f rs := ⟨R.cr.same s, R.wh, R.fr⟩
def spRoads : Sp := fun vs H Q _ => ∃ (c f : Nat) (a : Addr) (ps : List Addr) (rs : List Rn), vs = [.int c, .int f, .ref a] ∧ CF H a ps c f rs ∧ NewLL H Q (road c f rs)
theorem spRoads_i {c f : Nat} {a : Addr} {ps : List Addr} {rs : List Rn} {H : Hp} {Q : VK} {E : XK} (R : CF H a ps c f rs) (q : NewLL H Q (road c f rs)) : spRoads [.int c, .int f, .ref a] H Q E := ⟨c, f, a, ps, rs, rfl, R, q⟩
def spFrM : Sp := fun vs H Q _ => ∃ (c f : Nat) (a : Addr) (ps : List Addr) (rs : List Rn), vs = [.int c, .int f, .ref a] ∧ CF H a ps c f rs ∧ ∀ H', Same H H' → Q (.int (frM c f rs : Nat)) H'
theorem spFrM_i {c f : Nat} {a : Addr} {ps : List Addr} {rs : List Rn} {H : Hp} {Q : VK} {E : XK} (R : CF H a ps c f rs) (q : ∀ H', Same H H' → Q (.int (frM c f rs : Nat)) H') : spFrM [.int c, .int f, .ref a] H Q E := ⟨c, f, a, ps, rs, rfl, R, q⟩
def spChance : Sp := fun vs H Q _ => ∃ (c f : Nat) (a : Addr) (ps : List Addr) (rs : List Rn), vs = [.int c, .int f, .ref a] ∧ CF H a ps c f rs ∧ rs.length ≤ 16 ∧ ∀ (p : Addr) (H' : Hp), H p = none → Same H H' → H' p = some (tupF (loT (frM c f rs : Nat) (allD c rs : Nat), loB (frM c f rs : Nat) (allD c rs : Nat))) → Q (.ref p) H'
theorem spChance_i {c f : Nat} {a : Addr} {ps : List Addr} {rs : List Rn} {H : Hp} {Q : VK} {E : XK} (R : CF H a ps c f rs) (hl : rs.length ≤ 16) (q : ∀ (p : Addr) (H' : Hp), H p = none → Same H H' → H' p = some (tupF (loT (frM c f rs : Nat) (allD c rs : Nat), loB (frM c f rs : Nat) (allD c rs : Nat))) → Q (.ref p) H') : spChance [.int c, .int f, .ref a] H Q E := ⟨c, f, a, ps, rs, rfl, R, hl, q⟩
theorem road_sum {c f : Nat} {rs : List Rn} (hf : f ≤ c) (ft : FitR c c rs) : (rdl c f c (one c f 1) rs).sum = allD c rs := by
  rw [rdl_sum hf rs (one_len _ _ _) ft, sum_one hf, Nat.one_mul]; rfl
theorem road_bd {c f : Nat} {rs : List Rn} (hf : f ≤ c) (ft : FitR c c rs) (hc : c < 512) (hl : rs.length ≤ 100) : (rdl c f c (one c f 1) rs).sum < 2 ^ 60000 := by
  rw [road_sum hf ft]
  exact Nat.lt_of_lt_of_le (allD_lt ft hc) (Nat.pow_le_pow_right (by decide) (by omega))
theorem TsAt.pushL {H : Hp} {f p : Addr} {ps : List Addr} {qs : List (List Nat)} {q : List Nat} (F : TsAt lstN H f ps qs) (h1 : ∀ r ∈ ps, r ≠ f) (h2 : p ≠ f) (hp : H p = some (lstN q)) : TsAt lstN (upd H f (.lst (ps.map V.ref ++ [.ref p]))) f (ps ++ [p]) (qs ++ [q]) := by
  refine ⟨by rw [upd_same]; simp, fun i p' h => ?_, by rw [List.length_append, List.length_append, F.ln]; rfl⟩
  by_cases hi : i < ps.length
  · rw [List.getElem?_append_left hi] at h
    obtain ⟨q', a, b⟩ := F.it i p' h
    exact ⟨q', by rw [List.getElem?_append_left (by rw [← F.ln]; exact hi)]; exact a, by rw [upd_ne (h1 _ (List.mem_of_getElem? h))]; exact b⟩
  · rw [List.getElem?_append_right (by omega)] at h
    have e : i - ps.length = 0 := by
      cases z : i - ps.length with
      | zero => rfl
      | succ k => rw [z] at h; simp at h
    rw [e] at h
    simp at h
    subst h
    exact ⟨q, by rw [List.getElem?_append_right (by rw [← F.ln]; omega), ← F.ln, e]; rfl, by rw [upd_ne h2]; exact hp⟩
/-- lists of lists of ints, by == -/
def dLL (ls : List (List Nat)) : List D := ls.map fun l => D.l (dInts (zs l))
theorem isDs_LL {K : PySem.W.Frag} {H : Hp} : ∀ {ps : List Addr} {ls : List (List Nat)}, ps.length = ls.length → (∀ i : Nat, ∀ p, ps[i]? = some p → ∃ q, ls[i]? = some q ∧ H p = some (lstN q)) → IsDs K H (dLL ls) (ps.map V.ref)
  | [], [], _, _ => isDs_nil
  | [], _ :: _, h, _ => by simp at h
  | _ :: _, [], h, _ => by simp at h
  | p :: ps, q :: qs, h, hi => by
    refine isDs_cons ?_ (isDs_LL (by simpa using h) fun i p' h' => ?_)
    · obtain ⟨q', e, hp⟩ := hi 0 p (by simp)
      simp at e
      subst e
      unfold IsD
      exact ⟨p, _, rfl, SqL.of hp, isDs_ints _⟩
    · obtain ⟨q', e, hp⟩ := hi (i + 1) p' (by simpa using h')
      exact ⟨q', by simpa using e, hp⟩
theorem eqDs_LL : ∀ ls : List (List Nat), eqDs (dLL ls) (dLL ls) = true
  | [] => by simp [dLL, eqDs]
  | l :: ls => by
    show eqDs (D.l (dInts (zs l)) :: dLL ls) (D.l (dInts (zs l)) :: dLL ls) = true
    unfold eqDs
    rw [eqDs_LL ls]
    unfold eqD
    rw [eqDs_ints]; simp
theorem deps_LL : ∀ ls : List (List Nat), deps (dLL ls) ≤ 1
  | [] => by simp [dLL, deps]
  | l :: ls => by
    show deps (D.l (dInts (zs l)) :: dLL ls) ≤ 1
    unfold deps
    have := deps_LL ls
    have e : dep (D.l (dInts (zs l))) = 1 := by unfold dep; rw [deps_ints]
    rw [e]; omega
section
variable {K : PySem.W.Frag} {H : Hp} {Q : VK} {f g : Addr} {ps ps' : List Addr} {ls : List (List Nat)}
theorem isD_LL (F : TsAt lstN H f ps ls) : IsD K H (.l (dLL ls)) (.ref f) := by unfold IsD; exact ⟨f, _, rfl, SqL.of F.ls, isDs_LL F.ln F.it⟩
theorem r_neLL (F : TsAt lstN H f ps ls) (G : TsAt lstN H g ps' ls) (h : Q (.bl false) H) : rNeA K (.ref f) (.ref g) H Q := by
  refine r_neDt (.l (dLL ls)) (.l (dLL ls)) rfl (by unfold dep; have := deps_LL ls; omega) (isD_LL F) (isD_LL G) ?_
  unfold eqD; rw [eqDs_LL]; exact h
theorem r_eqLL (F : TsAt lstN H f ps ls) (G : TsAt lstN H g ps' ls) (h : Q (.bl true) H) : rEqA K (.ref f) (.ref g) H Q := by
  refine r_eqDt (.l (dLL ls)) (.l (dLL ls)) rfl (by unfold dep; have := deps_LL ls; omega) (isD_LL F) (isD_LL G) ?_
  unfold eqD; rw [eqDs_LL]; exact h
end
end BL

/-! Friends and foes exchanged; none, all. -/
namespace BR
open MB
theorem sm_rev (g : Nat → Nat) (b : Nat) : sm (b + 1) g = sm (b + 1) fun i => g (b - i) := by
  rw [← mr_sum, ← mr_sum, ← mr_rev, List.sum_reverse]
theorem getD_rev {l : List Nat} {n t : Nat} (hl : l.length = n + 1) (ht : t ≤ n) : l.reverse.getD t 0 = l.getD (n - t) 0 := by
  rw [List.getD_eq_getElem?_getD, List.getD_eq_getElem?_getD, List.getElem?_reverse (by omega), hl]
  congr 2
theorem ron_rev {c f b : Nat} {h : List Nat} {r : Rn} (hf : f ≤ c) (hl : h.length = b + 1) (ft : Fit c b r) : ron c (c - f) b h.reverse r = (ron c f b h r).reverse := by
  unfold ron
  rw [mr_rev]
  refine mr_congr fun t ht => ?_
  unfold rT
  rw [sm_rev]
  refine sm_congr fun i hi => ?_
  rw [getD_rev hl (by omega), show b - (b - i) = i by omega, bh_rev hf (by omega) ft, getD_rev (bh_len c f b i r) ht]
theorem rdl_rev {c f : Nat} (hf : f ≤ c) : ∀ (a : List Rn) {b : Nat} {h : List Nat}, h.length = b + 1 → FitR c b a → rdl c (c - f) b h.reverse a = (rdl c f b h a).reverse
  | [], _, _, _, _ => rfl
  | x :: a, b, h, hl, ft => by
    show rdl c (c - f) x.n (ron c (c - f) b h.reverse x) a = (rdl c f x.n (ron c f b h x) a).reverse
    rw [ron_rev hf hl ft.1]
    exact rdl_rev hf a (ron_len _ _ _ _ _) ft.2
theorem two_sum {l : List Nat} (h : l.length = 2) : l.sum = l.getD 0 0 + l.getD 1 0 := by
  match l, h with
  | [x, y], _ => simp
theorem frM_both {c f : Nat} {rs : List Rn} (hf : f ≤ c) (ft : FitR c c rs) (hw : lastN c rs = 1) : frM c f rs + frM c (c - f) rs = allD c rs := by
  have hl := rdl_len c f rs (one_len c f 1)
  rw [hw] at hl
  have hs : (rdl c f c (one c f 1) rs).sum = allD c rs := by rw [rdl_sum hf rs (one_len _ _ _) ft, sum_one hf, Nat.one_mul]; rfl
  have e : frM c (c - f) rs = (rdl c f c (one c f 1) rs).getD 0 0 := by
    unfold frM
    rw [← one_rev hf, rdl_rev hf rs (one_len _ _ _) ft, getD_rev hl (by decide)]
  rw [e, ← hs, two_sum hl]
  show (rdl c f c (one c f 1) rs).getD 1 0 + _ = _
  omega
/-- no friend: all roads lead to none -/
theorem bh_none {c b : Nat} : ∀ {r : Rn}, Fit c b r → bh c 0 b 0 r = one r.n 0 (dr c b r)
  | .lot n, _ => by
    show lotN b 0 n = one n 0 (ch b n)
    unfold lotN one
    refine mr_congr fun k _ => ?_
    cases k with
    | zero => rw [if_pos rfl, ch_zero, Nat.one_mul]; rfl
    | succ k => rw [ch_zs, Nat.zero_mul, if_neg (by omega)]
  | .vote n q w, h => by
    rw [bh_vote, if_neg (by have := h.2.2.2.1; omega), if_pos (by have := h.2.2.2.2.1; omega)]
    have := h.2.2.1
    congr 1
    show n - min (c - 0) n = 0
    omega
theorem sm_first {g : Nat → Nat} : ∀ {k : Nat}, (∀ i, 0 < i → g i = 0) → sm (k + 1) g = g 0
  | 0, _ => by show 0 + g 0 = g 0; omega
  | k + 1, h => by
    show sm (k + 1) g + g (k + 1) = g 0
    rw [sm_first h, h (k + 1) (by omega), Nat.add_zero]
theorem getD_one {n k v t : Nat} : (one n k v).getD t 0 = if t ≤ n then (if t = k then v else 0) else 0 := by
  rw [List.getD_eq_getElem?_getD]
  by_cases h : t ≤ n
  · unfold one
    rw [mr_get _ h, if_pos h]; rfl
  · unfold one
    rw [mr_none _ (by omega), if_neg h]; rfl
theorem ron_none {c b S : Nat} {r : Rn} (ft : Fit c b r) : ron c 0 b (one b 0 S) r = one r.n 0 (S * dr c b r) := by
  unfold ron
  show _ = mr r.n fun j => if j = 0 then S * dr c b r else 0
  refine mr_congr fun t ht => ?_
  unfold rT
  rw [sm_first fun i hi => by rw [getD_one, if_neg (show ¬ i = 0 by omega)]; simp]
  rw [bh_none ft, getD_one, getD_one, if_pos (by omega), if_pos rfl, if_pos ht]
  by_cases z : t = 0
  · rw [if_pos z, if_pos z]
  · rw [if_neg z, if_neg z, Nat.mul_zero]
theorem rdl_none {c : Nat} : ∀ (a : List Rn) {b S : Nat}, FitR c b a → rdl c 0 b (one b 0 S) a = one (lastN b a) 0 (S * prodN (drs c b a))
  | [], b, S, _ => by show one b 0 S = one b 0 (S * 1); rw [Nat.mul_one]
  | x :: a, b, S, ft => by
    show rdl c 0 x.n (ron c 0 b (one b 0 S) x) a = one (lastN x.n a) 0 (S * (dr c b x * prodN (drs c x.n a)))
    rw [ron_none ft.1, rdl_none a ft.2, Nat.mul_assoc]
theorem frM_none {c : Nat} {rs : List Rn} (ft : FitR c c rs) : frM c 0 rs = 0 := by
  unfold frM
  rw [rdl_none rs ft, getD_one, if_neg (show ¬ (1 : Nat) = 0 by decide)]
  simp
theorem frM_all {c : Nat} {rs : List Rn} (ft : FitR c c rs) (hw : lastN c rs = 1) : frM c c rs = allD c rs := by
  have := frM_both (f := 0) (Nat.zero_le c) ft hw
  rw [frM_none ft, Nat.sub_zero] at this
  omega
theorem frM_le {c f : Nat} {rs : List Rn} (hf : f ≤ c) (ft : FitR c c rs) (hw : lastN c rs = 1) : frM c f rs ≤ allD c rs := by
  have := frM_both hf ft hw
  omega
end BR

/-! THE PROMISES of chances. -/
namespace BL
open PySem PySem.Spec PyProof.Rows L2 BR
/-- the chance, as a fraction -/
def chF (c f : Nat) (rs : List Rn) : Int × Int := (loT (frM c f rs : Nat) (allD c rs : Nat), loB (frM c f rs : Nat) (allD c rs : Nat))
def spChn : Sp := fun vs H Q _ => ∃ (c f : Nat) (a : Addr) (ps : List Addr) (rs : List Rn), vs = [.int c, .int f, .ref a] ∧ CF H a ps c f rs ∧ allD c rs < 2 ^ 9000 ∧ ∀ (p : Addr) (H' : Hp), H p = none → Same H H' → H' p = some (tupF (chF c f rs)) → Q (.ref p) H'
theorem spChn_i {c f : Nat} {a : Addr} {ps : List Addr} {rs : List Rn} {H : Hp} {Q : VK} {E : XK} (R : CF H a ps c f rs) (hl : allD c rs < 2 ^ 9000) (q : ∀ (p : Addr) (H' : Hp), H p = none → Same H H' → H' p = some (tupF (chF c f rs)) → Q (.ref p) H') : spChn [.int c, .int f, .ref a] H Q E := ⟨c, f, a, ps, rs, rfl, R, hl, q⟩
theorem allD_bd {c : Nat} {rs : List Rn} (h : FitR c c rs) (hc : c < 512) (hl : rs.length ≤ 17) : allD c rs < 2 ^ 9000 := Nat.lt_of_lt_of_le (allD_lt h hc) (Nat.pow_le_pow_right (by decide) (by omega))
theorem lo_low {t b : Int} (hb : 0 < b) : loT (loT t b) (loB t b) = loT t b ∧ loB (loT t b) (loB t b) = loB t b := lo_unique (loB_pos hb) hb (lo_cross hb)
theorem lo_le {t b : Int} (hb : 0 < b) (h0 : 0 ≤ t) (h1 : t ≤ b) : 0 ≤ loT t b ∧ loT t b ≤ loB t b := by
  have hg := gI_pos (a := t) hb
  exact ⟨Int.ediv_nonneg h0 (by omega), Int.ediv_le_ediv hg h1⟩
theorem lo_both {s t b : Int} (hb : 0 < b) (h : s + t = b) : loT s b * loB t b + loT t b * loB s b = loB s b * loB t b := by
  have c1 := lo_cross (t := s) hb
  have c2 := lo_cross (t := t) hb
  have key : (loT s b * loB t b + loT t b * loB s b) * b = (loB s b * loB t b) * b := by
    rw [Int.add_mul]
    have e1 : loT s b * loB t b * b = s * (loB s b * loB t b) := by
      rw [Int.mul_right_comm, c1, Int.mul_assoc]
    have e2 : loT t b * loB s b * b = t * (loB s b * loB t b) := by
      rw [Int.mul_right_comm, c2, Int.mul_assoc, Int.mul_comm (loB t b)]
    rw [e1, e2, ← Int.add_mul, h, Int.mul_comm]
  exact Int.eq_of_mul_eq_mul_right (by omega) key
theorem lo_zero {b : Int} (hb : 0 < b) : loT 0 b = 0 ∧ loB 0 b = 1 := by
  have := lo_unique (t := 0) (b := b) (u := 0) (c := 1) hb (by decide) (by simp)
  exact ⟨this.1.trans (by decide), this.2.trans (by decide)⟩
theorem lo_one {b : Int} (hb : 0 < b) : loT b b = 1 ∧ loB b b = 1 := by
  have := lo_unique (t := b) (b := b) (u := 1) (c := 1) hb (by decide) (by omega)
  exact ⟨this.1.trans (by decide), this.2.trans (by decide)⟩
theorem chF_sz {c f : Nat} {rs : List Rn} (hf : f ≤ c) (ft : FitR c c rs) (hw : lastN c rs = 1) (hl : allD c rs < 2 ^ 9000) : (chF c f rs).1.natAbs < 2 ^ 9000 ∧ (chF c f rs).2.natAbs < 2 ^ 9000 := by
  have h1 := loT_abs (frM c f rs : Nat) (allD c rs : Nat)
  have h2 := loB_abs (frM c f rs : Nat) (allD c rs : Nat)
  have h3 := frM_le hf ft hw
  rw [Int.natAbs_natCast] at h1 h2
  exact ⟨Nat.lt_of_le_of_lt (Nat.le_trans h1 h3) hl, Nat.lt_of_le_of_lt h2 hl⟩
end BL

local macro_rules | `(tactic| walk_at "ne") => `(tactic| first
  | with_reducible assumption
  | exact Ne.symm (by with_reducible assumption)
  | ((with_reducible apply L2.ne_fresh); (with_reducible assumption); walk_at "hp")
  | ((with_reducible apply Ne.symm); (with_reducible apply L2.ne_fresh); (with_reducible assumption); walk_at "hp"))
local macro_rules | `(tactic| walk_at "hp") => `(tactic| first
  | with_reducible assumption
  | with_reducible exact L2.upd_same
  | ((with_reducible apply L2.upd_get); walk_at "ne"; walk_at "hp")
  | ((with_reducible apply L2.Fr1.get); (with_reducible assumption); walk_at "hp"; walk_at "ne"))
local macro_rules | `(tactic| walk_at "cond") => `(tactic| first
  | with_reducible assumption
  | exact L2.CDivB.small (by omega) (by omega)
  | exact L2.CMulB.left (by omega) (by omega)
  | exact L2.CMulB.right (by omega) (by omega)
  | (show (0 : Int) < _; omega))
local macro_rules | `(tactic| walk_at "size") => `(tactic| first
  | (simp only [List.length_cons, List.length_nil]; decide)
  | (simp only [List.length_cons, List.length_nil, List.length_map, List.length_append, sizeLine_eq]; omega))
local macro_rules | `(tactic| walk_at "ty") => `(tactic| first
  | with_reducible exact L2.TyOf.int _
  | with_reducible exact L2.TyOf.bl _
  | with_reducible exact L2.TyOf.str _
  | with_reducible exact L2.TyOf.non
  | ((with_reducible apply L2.TyOf.tup); walk_at "hp")
  | ((with_reducible apply L2.TyOf.lst); walk_at "hp"))
local macro_rules | `(tactic| walk_at "rd") => `(tactic| repeat (first
  | with_reducible refine L2.r_seq ?_
  | with_reducible refine L2.r_asg ?_
  | with_reducible refine L2.r_gname ?_
  | with_reducible refine L2.r_op ?_
  | ((with_reducible apply L2.r_var); exact rfl)
  | with_reducible refine L2.r_c ?_
  | with_reducible refine L2.r_rI0 ?_
  | with_reducible refine L2.r_addBI ?_
  | with_reducible refine L2.r_slice ?_
  | with_reducible refine L2.r_noPart ?_
  | with_reducible refine L2.r_part ?_
  | with_reducible refine L2.r_partI ?_
  | with_reducible refine L2.r_ltI ?_
  | with_reducible refine L2.r_leI ?_
  | with_reducible refine L2.r_eqI ?_
  | with_reducible refine L2.r_neI ?_
  | with_reducible refine L2.r_eqB ?_
  | with_reducible refine L2.r_neB ?_
  | with_reducible refine L2.r_eqS ?_
  | with_reducible refine L2.r_neS ?_
  | with_reducible refine L2.r_test ?_
  | with_reducible refine L2.r_bl ?_
  | with_reducible refine L2.r_ifs ?_
  | with_reducible refine L2.r_ret ?_
  | with_reducible refine L2.r_retN ?_
  | with_reducible refine L2.r_next ?_
  | with_reducible refine L2.r_cons ?_
  | with_reducible refine L2.r_nil ?_
  | with_reducible refine L2.r_cl ?_
  | with_reducible refine L2.r_cb ?_
  | with_reducible refine L2.r_clE ?_
  | with_reducible refine L2.r_try ?_
  | with_reducible refine L2.r_raise ?_
  | with_reducible refine L2.r_and ?_
  | with_reducible refine L2.r_or ?_
  | with_reducible refine L2.r_not ?_
  | with_reducible refine L2.r_andV ?_
  | with_reducible refine L2.r_orV ?_
  | with_reducible refine L2.r_notV ?_
  | with_reducible refine L2.r_ifx ?_
  | with_reducible refine L2.r_tru ?_
  | with_reducible refine L2.r_truI ?_
  | with_reducible refine L2.r_truB ?_
  | with_reducible refine L2.r_tB ?_
  | with_reducible refine L2.r_pow18 ?_
  | with_reducible refine L2.r_pow6 ?_
  | ((with_reducible apply L2.r_rI); walk_at "cond")
  | ((with_reducible apply L2.r_mulI); walk_at "cond")
  | with_reducible refine L2.r_abs ?_
  | with_reducible refine L2.r_min2 ?_
  | with_reducible refine L2.r_max2 ?_
  | with_reducible refine L2.r_int1 ?_
  | with_reducible refine L2.r_int1B ?_
  | ((with_reducible apply L2.r_isi); walk_at "ty"; exact rfl)
  | ((with_reducible apply L2.r_lenL); walk_at "hp")
  | ((with_reducible apply L2.r_lenT); walk_at "hp")
  | ((with_reducible apply L2.r_ix2L); walk_at "hp"; exact rfl)
  | ((with_reducible apply L2.r_ix2T); walk_at "hp"; exact rfl)
  | with_reducible refine L2.r_gsub ?_
  | with_reducible refine L2.r_isNo0 ?_
  | with_reducible refine L2.r_isNoR ?_
  | with_reducible refine L2.r_isNoI ?_
  | with_reducible refine L2.r_isNoS ?_
  | with_reducible refine L2.r_notNo0 ?_
  | with_reducible refine L2.r_notNoR ?_
  | with_reducible refine L2.r_notNoI ?_
  | with_reducible refine L2.r_notNoS ?_
  | with_reducible refine L2.r_un ?_
  | with_reducible refine L2.r_rU ?_
  | ((with_reducible apply L2.r_setL); walk_at "hp"; exact rfl)
  | with_reducible refine L2.r_drop ?_
  | with_reducible refine L2.r_bmL ?_
  | ((with_reducible apply L2.r_tyL); walk_at "hp")
  | ((with_reducible apply L2.r_append); walk_at "hp"; walk_at "size")
  | with_reducible refine L2.r_tup ?_
  | with_reducible refine L2.r_lst ?_
  | ((with_reducible apply L2.r_size0); walk_at "size")
  | with_reducible refine L2.r_par ?_
  | with_reducible refine L2.r_par2 ?_
  | ((with_reducible apply L2.r_aug); exact rfl)
  | with_reducible refine L2.r_ipI ?_
  | with_reducible refine L2.r_forR ?_
  | with_reducible refine L2.r_compR ?_
  | with_reducible refine L2.r_compL ?_
  | with_reducible refine L2.r_compT ?_
  | with_reducible refine L2.r_compE ?_
  | with_reducible refine L2.r_bm0 ?_
  | with_reducible refine L2.r_compZ ?_
  | with_reducible refine L2.r_forE ?_
  | with_reducible refine L2.r_forZ ?_
  | with_reducible refine L2.r_forD ?_
  | with_reducible refine L2.r_chain ?_
  | with_reducible refine L2.r_augS ?_
  | with_reducible refine L2.r_yes ?_
  | with_reducible refine L2.r_forL ?_
  | with_reducible refine L2.r_forT ?_
  | with_reducible refine L2.r_gcons ?_
  | with_reducible refine L2.r_gnil ?_
  | ((with_reducible apply L2.r_gtup); walk_at "hp"; exact rfl)
  | with_reducible refine L2.iteT ?_
  | with_reducible refine L2.iteF ?_
  | with_reducible refine L2.r_iteNT ?_
  | with_reducible refine L2.r_iteNF ?_))

namespace K18
open PySem PySem.Spec PyProof.Rows L2
def top (i : Nat) : Stmt := PySem.Challenge.pw_ballotin_k18_whole_friends_and_foes.main.body.getD i (.Pass ⟨0, 0, 0, 0⟩)
abbrev s_ways : Stmt := top 6
abbrev s_fits_vote : Stmt := top 10
abbrev s_fits : Stmt := top 11
abbrev s_sizes : Stmt := top 12
abbrev s_sizes_ahead : Stmt := top 13
abbrev s_whole : Stmt := top 14
abbrev s_need_whole : Stmt := top 15
abbrev s_need_friends : Stmt := top 16
abbrev s_round_draws : Stmt := top 17
abbrev s_draws_row : Stmt := top 18
abbrev s_draws : Stmt := top 19
abbrev s_ways_up_to : Stmt := top 21
abbrev s_behind_lot : Stmt := top 22
abbrev s_side : Stmt := top 23
abbrev s_seated : Stmt := top 24
abbrev s_all_lead_to : Stmt := top 25
abbrev s_behind : Stmt := top 26
abbrev s_common_part : Stmt := top 28
abbrev s_lowest : Stmt := top 29
abbrev s_roads_on : Stmt := top 31
abbrev s_roads : Stmt := top 32
abbrev s_friendly_many : Stmt := top 33
abbrev s_chance : Stmt := top 34
abbrev s_l_begin : Stmt := top 36
abbrev s_l_take : Stmt := top 37
abbrev s_l_step : Stmt := top 38
abbrev s_l_last : Stmt := top 39
abbrev s_l_whole_row : Stmt := top 40
abbrev s_l_council : Stmt := top 41
abbrev s_l_int : Stmt := top 42
abbrev s_l_is_part : Stmt := top 43
abbrev s_l_lowest : Stmt := top 44
abbrev s_law : Stmt := top 45
theorem sc_ways : FnScope ["many", "few", "found", "at"] ["many", "few"] (defScope s_ways) := ⟨rfl, rfl, rfl, by decide +kernel, rfl, by decide +kernel, by decide +kernel⟩
theorem sc_fits_vote : FnScope ["count", "sit", "seats", "needed", "word"] ["count", "sit", "seats", "needed", "word"] (defScope s_fits_vote) := ⟨rfl, rfl, rfl, by decide +kernel, rfl, by decide +kernel, by decide +kernel⟩
theorem sc_fits : FnScope ["count", "sit", "step"] ["count", "sit", "step"] (defScope s_fits) := ⟨rfl, rfl, rfl, by decide +kernel, rfl, by decide +kernel, by decide +kernel⟩
theorem sc_sizes : FnScope ["count", "row", "sit", "found", "at", "step"] ["count", "row"] (defScope s_sizes) := ⟨rfl, rfl, rfl, by decide +kernel, rfl, by decide +kernel, by decide +kernel⟩
theorem sc_sizes_ahead : FnScope ["count", "row"] ["count", "row"] (defScope s_sizes_ahead) := ⟨rfl, rfl, rfl, by decide +kernel, rfl, by decide +kernel, by decide +kernel⟩
theorem sc_whole : FnScope ["count", "row"] ["count", "row"] (defScope s_whole) := ⟨rfl, rfl, rfl, by decide +kernel, rfl, by decide +kernel, by decide +kernel⟩
theorem sc_need_whole : FnScope ["count", "row"] ["count", "row"] (defScope s_need_whole) := ⟨rfl, rfl, rfl, by decide +kernel, rfl, by decide +kernel, by decide +kernel⟩
theorem sc_need_friends : FnScope ["count", "friends", "row"] ["count", "friends", "row"] (defScope s_need_friends) := ⟨rfl, rfl, rfl, by decide +kernel, rfl, by decide +kernel, by decide +kernel⟩
theorem sc_round_draws : FnScope ["count", "sit", "step"] ["count", "sit", "step"] (defScope s_round_draws) := ⟨rfl, rfl, rfl, by decide +kernel, rfl, by decide +kernel, by decide +kernel⟩
theorem sc_draws_row : FnScope ["count", "row"] ["count", "row"] (defScope s_draws_row) := ⟨rfl, rfl, rfl, by decide +kernel, rfl, by decide +kernel, by decide +kernel⟩
theorem sc_draws : FnScope ["count", "row", "found", "many"] ["count", "row"] (defScope s_draws) := ⟨rfl, rfl, rfl, by decide +kernel, rfl, by decide +kernel, by decide +kernel⟩
theorem sc_ways_up_to : FnScope ["many", "few", "found", "taken"] ["many", "few"] (defScope s_ways_up_to) := ⟨rfl, rfl, rfl, by decide +kernel, rfl, by decide +kernel, by decide +kernel⟩
theorem sc_behind_lot : FnScope ["bench", "on", "few", "friendly", "others"] ["bench", "on", "few"] (defScope s_behind_lot) := ⟨rfl, rfl, rfl, by decide +kernel, rfl, by decide +kernel, by decide +kernel⟩
theorem sc_side : FnScope ["bench", "on", "needed"] ["bench", "on", "needed"] (defScope s_side) := ⟨rfl, rfl, rfl, by decide +kernel, rfl, by decide +kernel, by decide +kernel⟩
theorem sc_seated : FnScope ["count", "friends", "seats", "who"] ["count", "friends", "seats", "who"] (defScope s_seated) := ⟨rfl, rfl, rfl, by decide +kernel, rfl, by decide +kernel, by decide +kernel⟩
theorem sc_all_lead_to : FnScope ["seats", "on", "many", "found"] ["seats", "on", "many"] (defScope s_all_lead_to) := ⟨rfl, rfl, rfl, by decide +kernel, rfl, by decide +kernel, by decide +kernel⟩
theorem sc_behind : FnScope ["count", "friends", "bench", "on", "step", "seats", "who"] ["count", "friends", "bench", "on", "step"] (defScope s_behind) := ⟨rfl, rfl, rfl, by decide +kernel, rfl, by decide +kernel, by decide +kernel⟩
theorem sc_common_part : FnScope ["one", "other"] ["one", "other"] (defScope s_common_part) := ⟨rfl, rfl, rfl, by decide +kernel, rfl, by decide +kernel, by decide +kernel⟩
theorem sc_lowest : FnScope ["top", "bottom", "part"] ["top", "bottom"] (defScope s_lowest) := ⟨rfl, rfl, rfl, by decide +kernel, rfl, by decide +kernel, by decide +kernel⟩
theorem sc_roads_on : FnScope ["count", "friends", "roads_here", "step", "sit", "found", "on", "many", "to", "leading"] ["count", "friends", "roads_here", "step"] (defScope s_roads_on) := ⟨rfl, rfl, rfl, by decide +kernel, rfl, by decide +kernel, by decide +kernel⟩
theorem sc_roads : FnScope ["count", "friends", "row", "here", "found", "step"] ["count", "friends", "row"] (defScope s_roads) := ⟨rfl, rfl, rfl, by decide +kernel, rfl, by decide +kernel, by decide +kernel⟩
theorem sc_friendly_many : FnScope ["count", "friends", "row", "found"] ["count", "friends", "row"] (defScope s_friendly_many) := ⟨rfl, rfl, rfl, by decide +kernel, rfl, by decide +kernel, by decide +kernel⟩
theorem sc_chance : FnScope ["count", "friends", "row"] ["count", "friends", "row"] (defScope s_chance) := ⟨rfl, rfl, rfl, by decide +kernel, rfl, by decide +kernel, by decide +kernel⟩
theorem sc_l_begin : FnScope ["_law_script"] ["_law_script"] (defScope s_l_begin) := ⟨rfl, rfl, rfl, by decide +kernel, rfl, by decide +kernel, by decide +kernel⟩
theorem sc_l_take : FnScope ["_law_draw", "_law_many", "_law_number", "_law_got"] ["_law_draw", "_law_many"] (defScope s_l_take) := ⟨rfl, rfl, rfl, by decide +kernel, rfl, by decide +kernel, by decide +kernel⟩
theorem sc_l_step : FnScope ["_law_draw", "_law_count", "_law_bench", "_law_most", "_law_word", "_law_lot", "_law_needed", "_law_n"] ["_law_draw", "_law_count", "_law_bench", "_law_most"] (defScope s_l_step) := ⟨rfl, rfl, rfl, by decide +kernel, rfl, by decide +kernel, by decide +kernel⟩
theorem sc_l_last : FnScope ["_law_draw", "_law_bench", "_law_needed"] ["_law_draw", "_law_bench"] (defScope s_l_last) := ⟨rfl, rfl, rfl, by decide +kernel, rfl, by decide +kernel, by decide +kernel⟩
theorem sc_l_whole_row : FnScope ["_law_draw", "_law_count", "_law_many", "_law_most", "_law_bench", "_law_row", "_law_k"] ["_law_draw", "_law_count", "_law_many", "_law_most"] (defScope s_l_whole_row) := ⟨rfl, rfl, rfl, by decide +kernel, rfl, by decide +kernel, by decide +kernel⟩
theorem sc_l_council : FnScope ["_law_draw", "_law_most", "_law_count"] ["_law_draw", "_law_most"] (defScope s_l_council) := ⟨rfl, rfl, rfl, by decide +kernel, rfl, by decide +kernel, by decide +kernel⟩
theorem sc_l_int : FnScope ["_law_thing"] ["_law_thing"] (defScope s_l_int) := ⟨rfl, rfl, rfl, by decide +kernel, rfl, by decide +kernel, by decide +kernel⟩
theorem sc_l_is_part : FnScope ["_law_found", "_law_due"] ["_law_found", "_law_due"] (defScope s_l_is_part) := ⟨rfl, rfl, rfl, by decide +kernel, rfl, by decide +kernel, by decide +kernel⟩
theorem sc_l_lowest : FnScope ["_law_top", "_law_bottom", "_law_one", "_law_other"] ["_law_top", "_law_bottom"] (defScope s_l_lowest) := ⟨rfl, rfl, rfl, by decide +kernel, rfl, by decide +kernel, by decide +kernel⟩
theorem sc_law : FnScope ["_law_script", "_law_draw", "_law_count", "_law_friends", "_law_row", "_law_mine", "_law_theirs", "_law_one"] ["_law_script"] (defScope s_law) := ⟨rfl, rfl, rfl, by decide +kernel, rfl, by decide +kernel, by decide +kernel⟩
open BL BR
/-- the names that the top leaves to the built-ins -/
structure Txt (mg : Str → Option Value) : Prop where
  b_abs : mg "abs" = none
  b_bool : mg "bool" = none
  b_enumerate : mg "enumerate" = none
  b_int : mg "int" = none
  b_isinstance : mg "isinstance" = none
  b_len : mg "len" = none
  b_list : mg "list" = none
  b_min : mg "min" = none
  b_range : mg "range" = none
  b_tuple : mg "tuple" = none
  b_zip : mg "zip" = none
  m_MOST_PEOPLE : ∃ t, mg "MOST_PEOPLE" = some (.int 500 t)
  m_MOST_SEATS : ∃ t, mg "MOST_SEATS" = some (.int 60 t)

theorem ok_ways {P : Program} {w : World} {K : PySem.W.Frag} {mg : Str → Option Value} {base : Heap} (T : Txt mg) (U : Up K mg "ways" s_ways ["many", "few"]) : Callee P w K mg base 1 "ways" ["many", "few"] (spWays) := by
  have sc := sc_ways
  refine Callee.of (k := 0) U sc (fun vs H Q E h => ?_) (fun f cdv A outer s H vs Q E hr h => ?_)
  · obtain ⟨m, k, rfl, _⟩ := h; rfl
  · obtain ⟨m, k, rfl, hm, q⟩ := h
    have hu := hr.units
    refine ⟨_, (pss_cons (ps_if (PW.pt (pw_or (pt_cmpR (ltK (K := K) rfl hu) (pv 1) pe_int (nomark _)) (pw_or1 (pt_cmpR op_gt (pv 1) (pv 0) (nomark _))))) (pss_one (ps_ret pe_int)) pss_nil)
      (pss_cons (ps_set (i := 2) sc.nd rfl (Or.inl rfl) pe_int)
      (pss_cons (ps_for PassesOwn.never rfl (pi_range1 rfl T.b_range (pa_cons (pe_callB (cl_min2 rfl) rfl T.b_min bt_min (pa_cons (pv 1) (pa_cons (pe_op op_sub (pv 0) (pv 1)) pa_nil))) pa_nil)) (pg_name (i := 3) sc.nd rfl (Or.inl rfl)) (pss_one (ps_set (i := 2) sc.nd rfl (Or.inl rfl) (pe_op op_fdivB (pe_op op_mulA (pv 2) (pe_op op_sub (pv 0) (pv 3))) (pe_op (addK (K := K) rfl) (pv 3) pe_int)))))
      (pss_one (ps_ret (pv 2)))))), ?_⟩
    rw [show L2.start ["many", "few", "found", "at"] [V.int m, V.int k] = [some (V.int m), some (V.int k), none, none] from rfl]
    walk_at "rd"
    refine r_iteD (fun h1 => ?_) (fun h1 => ?_)
    · walk_at "rd"
      rw [MB.W_out (.inl h1)] at q
      exact q
    · walk_at "rd"
      refine r_iteD (fun h2 => ?_) (fun h2 => ?_)
      · walk_at "rd"
        rw [MB.W_out (.inr h2)] at q
        exact q
      · walk_at "rd"
        obtain ⟨j, hj, hj1, hj2, hj3⟩ : ∃ j : Int, (if m - k < k then m - k else k) = j ∧ 0 ≤ j ∧ j ≤ m ∧ (j = k ∨ j = m - k) := by
          by_cases z : m - k < k
          · exact ⟨m - k, if_pos z, by omega, by omega, .inr rfl⟩
          · exact ⟨k, if_neg z, by omega, by omega, .inl rfl⟩
        rw [hj]
        refine forR (fun i σ' H' => H' = H ∧ ∃ x, σ' = [some (.int m), some (.int k), some (.int (MB.ch m.toNat i)), x]) (by omega) (by omega) ⟨rfl, none, by rw [MB.ch_zero]; rfl⟩ ?_ ?_
        · rintro i σ' H' hi ⟨rfl, x, rfl⟩
          walk_at "rd"
          refine ⟨rfl, some (.int i), ?_⟩
          have e := MB.ch_div m.toNat i (by omega)
          have e2 : ((m.toNat : Nat) : Int) = m := by omega
          rw [e2] at e
          rw [e]
          rfl
        · rintro σ' H' ⟨rfl, x, rfl⟩
          walk_at "rd"
          rw [← MB.ch_min (j := j) (by omega) (by omega) hj3] at q
          exact q

theorem ok_fits_vote {P : Program} {w : World} {K : PySem.W.Frag} {mg : Str → Option Value} {base : Heap} (T : Txt mg) (U : Up K mg "fits_vote" s_fits_vote ["count", "sit", "seats", "needed", "word"]) : Callee P w K mg base 1 "fits_vote" ["count", "sit", "seats", "needed", "word"] (spFitsVote) := by
  have sc := sc_fits_vote
  refine Callee.of (k := 0) U sc (fun vs H Q E h => ?_) (fun f cdv A outer s H vs Q E hr h => ?_)
  · obtain ⟨c, s, n, q, w, rfl, _⟩ := h; rfl
  · obtain ⟨c, s, n, q, w, rfl, ⟨f1, f2, f3, f4, f5, f6, f7⟩, k⟩ := h
    have hu := hr.units
    refine ⟨_, (pss_cons (ps_if (PW.pt (pw_or (pt_cmpR op_gt (pv 2) (pv 0) (nomark _)) (pw_or (pt_cmpR (leK (K := K) rfl hu) (pe_op op_mulA (pv 3) pe_int) (pv 1) (nomark _)) (pw_or1 (pt_cmpR op_gt (pv 3) (pv 1) (nomark _)))))) (pss_one (ps_ret pe_bl)) pss_nil)
      (pss_cons (ps_if (pt_cmpR (eqK (K := K) rfl hu) (pv 4) pe_str (nomark _)) (pss_one (ps_ret (pe_cmpR (leK (K := K) rfl hu) (pv 2) (pv 1) (nomark _)))) pss_nil)
      (pss_cons (ps_if (pt_cmpR (eqK (K := K) rfl hu) (pv 4) pe_str (nomark _)) (pss_one (ps_ret (pe_cmpR (eqK (K := K) rfl hu) (pv 2) (pv 1) (nomark _)))) pss_nil)
      (pss_one (ps_ret (pe_cmpR (eqK (K := K) rfl hu) (pv 4) pe_str (nomark _))))))), ?_⟩
    rw [show L2.start ["count", "sit", "seats", "needed", "word"] [V.int c, V.int s, V.int n, V.int q, V.str (wdS w)] = [some (V.int c), some (V.int s), some (V.int n), some (V.int q), some (V.str (wdS w))] from rfl]
    walk_at "rd"
    refine r_iteD (fun h1 => by omega) (fun _ => ?_)
    walk_at "rd"
    refine r_iteD (fun h1 => by omega) (fun _ => ?_)
    walk_at "rd"
    refine r_iteD (fun h1 => by omega) (fun _ => ?_)
    walk_at "rd"
    cases w with
    | council =>
      refine r_iteD (fun h1 => absurd h1 (by decide)) (fun _ => ?_)
      walk_at "rd"
      refine r_iteD (fun h1 => absurd h1 (by decide)) (fun _ => ?_)
      walk_at "rd"
      exact k
    | bench =>
      refine r_iteD (fun h1 => ?_) (fun h1 => absurd rfl h1)
      walk_at "rd"
      rw [decide_eq_true (show (n : Int) ≤ (s : Int) by have := f6 rfl; omega)]
      exact k
    | stay =>
      refine r_iteD (fun h1 => absurd h1 (by decide)) (fun _ => ?_)
      walk_at "rd"
      refine r_iteD (fun h1 => ?_) (fun h1 => absurd rfl h1)
      walk_at "rd"
      rw [decide_eq_true (show (n : Int) = (s : Int) by have := f7 rfl; omega)]
      exact k

theorem ok_fits {P : Program} {w : World} {K : PySem.W.Frag} {mg : Str → Option Value} {base : Heap} (T : Txt mg) (U : Up K mg "fits" s_fits ["count", "sit", "step"]) (C_fits_vote : Callee P w K mg base 1 "fits_vote" ["count", "sit", "seats", "needed", "word"] (spFitsVote)) : Callee P w K mg base 2 "fits" ["count", "sit", "step"] (spFits) := by
  have sc := sc_fits
  refine Callee.of (k := 1) U sc (fun vs H Q E h => ?_) (fun f cdv A outer s H vs Q E hr h => ?_)
  · obtain ⟨c, s, p, r, rfl, _⟩ := h; rfl
  · obtain ⟨c, s, p, r, rfl, hp, ft, k⟩ := h
    have hu := hr.units
    refine ⟨_, (pss_cons (ps_if (PW.pt (pw_or (pt_cmpR (ltK (K := K) rfl hu) (pe_ix (ixK (K := K) rfl) (pv 2) pe_int (fun _ _ => rfl)) pe_int (nomark _)) (pw_or1 (pt_cmpR op_gt (pe_ix (ixK (K := K) rfl) (pv 2) pe_int (fun _ _ => rfl)) (pe_globI rfl T.m_MOST_SEATS) (nomark _))))) (pss_one (ps_ret pe_bl)) pss_nil)
      (pss_cons (ps_if (PW.pt (pw_and (pt_cmpR (eqK (K := K) rfl hu) (pe_ix (ixK (K := K) rfl) (pv 2) pe_int (fun _ _ => rfl)) pe_str (nomark _)) (pw_and1 (pt_cmpR (eqK (K := K) rfl hu) (pe_callB (lenK (K := K) rfl) rfl T.b_len bt_len (pa_cons (pv 2) pa_nil)) pe_int (nomark _))))) (pss_one (ps_ret (pe_cmpR (leK (K := K) rfl hu) (pe_ix (ixK (K := K) rfl) (pv 2) pe_int (fun _ _ => rfl)) (pv 1) (nomark _)))) pss_nil)
      (pss_cons (ps_if (PW.pt (pw_and (pt_cmpR (eqK (K := K) rfl hu) (pe_ix (ixK (K := K) rfl) (pv 2) pe_int (fun _ _ => rfl)) pe_str (nomark _)) (pw_and1 (pt_cmpR (eqK (K := K) rfl hu) (pe_callB (lenK (K := K) rfl) rfl T.b_len bt_len (pa_cons (pv 2) pa_nil)) pe_int (nomark _))))) (pss_one (ps_ret (pe_c C_fits_vote (hr.mono (by decide)) rfl (pa_cons (pv 0) (pa_cons (pv 1) (pa_cons (pe_ix (ixK (K := K) rfl) (pv 2) pe_int (fun _ _ => rfl)) (pa_cons (pe_ix (ixK (K := K) rfl) (pv 2) pe_int (fun _ _ => rfl)) (pa_cons (pe_ix (ixK (K := K) rfl) (pv 2) pe_int (fun _ _ => rfl)) pa_nil)))))))) pss_nil)
      (pss_one (ps_ret pe_bl))))), ?_⟩
    rw [show L2.start ["count", "sit", "step"] [V.int c, V.int s, V.ref p] = [some (V.int c), some (V.int s), some (V.ref p)] from rfl]
    cases r with
    | lot n =>
      have hp' : H p = some (.tup [.str "lot", .int n]) := hp
      obtain ⟨f1, f2, f3⟩ := ft
      walk_at "rd"
      refine r_iteD (fun h1 => by omega) (fun _ => ?_)
      walk_at "rd"
      refine r_iteD (fun h1 => by omega) (fun _ => ?_)
      walk_at "rd"
      refine r_iteD (fun _ => ?_) (fun h1 => absurd rfl h1)
      walk_at "rd"
      refine r_iteD (fun _ => ?_) (fun h1 => absurd rfl h1)
      walk_at "rd"
      rw [decide_eq_true (show (n : Int) ≤ (s : Int) by omega)]
      exact k
    | vote n q w =>
      have hp' : H p = some (.tup [.str "vote", .int n, .int q, .str (wdS w)]) := hp
      have ft' := ft
      obtain ⟨f1, f2, f3⟩ := ft'
      walk_at "rd"
      refine r_iteD (fun h1 => by omega) (fun _ => ?_)
      walk_at "rd"
      refine r_iteD (fun h1 => by omega) (fun _ => ?_)
      walk_at "rd"
      refine r_iteD (fun h1 => absurd h1 (by decide)) (fun _ => ?_)
      walk_at "rd"
      refine r_iteD (fun _ => ?_) (fun h1 => absurd rfl h1)
      walk_at "rd"
      refine r_iteD (fun _ => ?_) (fun h1 => absurd rfl h1)
      walk_at "rd"
      exact spFitsVote_i ft k

theorem ok_sizes {P : Program} {w : World} {K : PySem.W.Frag} {mg : Str → Option Value} {base : Heap} (T : Txt mg) (U : Up K mg "sizes" s_sizes ["count", "row"]) (C_fits : Callee P w K mg base 2 "fits" ["count", "sit", "step"] (spFits)) : Callee P w K mg base 3 "sizes" ["count", "row"] (spSizes) := by
  have sc := sc_sizes
  refine Callee.of (k := 2) U sc (fun vs H Q E h => ?_) (fun f cdv A outer s H vs Q E hr h => ?_)
  · obtain ⟨c, a, ps, rs, rfl, _⟩ := h; rfl
  · obtain ⟨c, a, ps, rs, rfl, ⟨R, c1, c2, ft, ln⟩, q⟩ := h
    have hu := hr.units
    refine ⟨_, (pss_cons (ps_if (PW.pt (pw_or (pt_cmpR (ltK (K := K) rfl hu) (pv 0) pe_int (nomark _)) (pw_or1 (pt_cmpR op_gt (pv 0) (pe_globI rfl T.m_MOST_PEOPLE) (nomark _))))) (pss_one ps_never) pss_nil)
      (pss_cons (ps_set (i := 2) sc.nd rfl (Or.inl rfl) (pv 0))
      (pss_cons (ps_set (i := 3) sc.nd rfl (Or.inl rfl) (pe_lst pa_nil))
      (pss_cons (ps_for PassesOwn.never rfl (pi_enum rfl T.b_enumerate (pa_cons (pv 1) pa_nil)) (gtupK (K := K) (n := 2) rfl rfl (pgs_cons (pg_name (i := 4) sc.nd rfl (Or.inl rfl)) (pgs_cons (pg_name (i := 5) sc.nd rfl (Or.inl rfl)) pgs_nil))) (pss_cons (ps_if (pt_not (truK (K := K) rfl (pe_c C_fits (hr.mono (by decide)) rfl (pa_cons (pv 0) (pa_cons (pv 2) (pa_cons (pv 5) pa_nil)))))) (pss_one ps_never) pss_nil)
      (pss_cons (ps_set (i := 2) sc.nd rfl (Or.inl rfl) (pe_ix (ixK (K := K) rfl) (pv 5) pe_int (fun _ _ => rfl)))
      (pss_one (ps_expr (pe_bm PySem.F.plainAttrs_list PySem.F.slot_list_append PySem.F.type_list_append mt_append (pv 3) (pa_cons (pv 2) pa_nil)))))))
      (pss_one (ps_ret (pv 3))))))), ?_⟩
    rw [show L2.start ["count", "row", "sit", "found", "at", "step"] [V.int c, V.ref a] = [some (V.int c), some (V.ref a), none, none, none, none] from rfl]
    walk_at "rd"
    refine r_iteD (fun h1 => by omega) (fun _ => ?_)
    walk_at "rd"
    refine r_iteD (fun h1 => by omega) (fun _ => ?_)
    walk_at "rd"
    intro f hf
    walk_at "rd"
    have haf : a ≠ f := ne_of_none R.ls hf
    refine forE (a := a) (xs := ps.map V.ref) (fun i σ' H' => ∃ x y : Option V, Fr1 f H H' ∧ H' f = some (lstN (szs (rs.take i))) ∧ σ' = [some (.int c), some (.ref a), some (.int (lastN c (rs.take i) : Nat)), some (.ref f), x, y]) ⟨none, none, (Fr1.refl f H).upd, upd_same, rfl⟩ (fun i σ' H' _ ⟨_, _, fr, _⟩ => fr.get R.ls haf) ?_ ?_
    · rintro i x σ' H' T hi ⟨x1, y1, fr, hf', rfl⟩ hT
      obtain ⟨p, r, rfl, hp, hr', ho⟩ := R.get hi
      have hpf : p ≠ f := ne_of_none ho hf
      have ho' : H' p = some (rnO r) := fr.get ho hpf
      have hpT : p ≠ T := ne_of_none ho' hT
      have hfT : f ≠ T := ne_of_none hf' hT
      have fit := ft.at hr'
      walk_at "rd"
      refine spFits_i (upd_get hpT ho') fit ?_
      walk_at "rd"
      obtain ⟨xs, e1, e2⟩ := rn_n r
      refine r_ix2T (xs := xs) (by rw [← e1]; exact upd_get hpT ho') e2 ?_
      walk_at "rd"
      refine r_tyL (xs := (zs (szs (rs.take i))).map V.int) (upd_get hfT hf') ?_
      walk_at "rd"
      refine r_append (xs := (zs (szs (rs.take i))).map V.int) (upd_get hfT hf') (by rw [len_lstN, sizeLine_eq]; unfold szs; rw [List.length_map, List.length_take]; omega) ?_
      walk_at "rd"
      have en := BR.take_next hr'
      refine ⟨some (.int i), some (.ref p), ((fr.new hT).upd), ?_, ?_⟩
      · rw [upd_same, lst_snoc, en]
        show some (lstN _) = some (lstN _)
        congr 2
        unfold szs
        rw [List.map_append]; rfl
      · rw [en, lastN_snoc]; rfl
    · rintro σ' H' ⟨x1, y1, fr, hf', rfl⟩
      walk_at "rd"
      rw [List.length_map, R.ln, List.take_length] at hf'
      exact q f H' hf (fun b o z => fr b o z (ne_of_none z hf)) hf'

theorem ok_sizes_ahead {P : Program} {w : World} {K : PySem.W.Frag} {mg : Str → Option Value} {base : Heap} (T : Txt mg) (U : Up K mg "sizes_ahead" s_sizes_ahead ["count", "row"]) (C_sizes : Callee P w K mg base 3 "sizes" ["count", "row"] (spSizes)) : Callee P w K mg base 4 "sizes_ahead" ["count", "row"] (spAhead) := by
  have sc := sc_sizes_ahead
  refine Callee.of (k := 3) U sc (fun vs H Q E h => ?_) (fun f cdv A outer s H vs Q E hr h => ?_)
  · obtain ⟨c, a, ps, rs, rfl, _⟩ := h; rfl
  · obtain ⟨c, a, ps, rs, rfl, R, q⟩ := h
    have hu := hr.units
    refine ⟨_, (pss_one (ps_ret (pe_op (addK (K := K) rfl) (pe_lst (pa_cons (pv 0) pa_nil)) (pe_c C_sizes (hr.mono (by decide)) rfl (pa_cons (pv 0) (pa_cons (pv 1) pa_nil)))))), ?_⟩
    rw [show L2.start ["count", "row"] [V.int c, V.ref a] = [some (V.int c), some (V.ref a)] from rfl]
    walk_at "rd"
    intro f hf
    have s1 : Same H (upd H f (.lst [.int c])) := (Same.refl H).new hf
    walk_at "rd"
    refine spSizes_i (R.same s1) fun p H' hp s2 hp' => ?_
    have ln := R.ln
    refine r_addBL (xs := [.int c]) (ys := (zs (szs rs)).map V.int) (s2 _ _ upd_same) hp' (by rw [len_lstN, sizeLine_eq]; unfold szs; rw [List.length_map]; simp only [List.length_cons, List.length_nil]; omega) fun p2 hp2 => ?_
    exact q p2 _ (s1.free (s2.free hp2)) ((s1.tr s2).new hp2) upd_same

theorem ok_whole {P : Program} {w : World} {K : PySem.W.Frag} {mg : Str → Option Value} {base : Heap} (T : Txt mg) (U : Up K mg "whole" s_whole ["count", "row"]) (C_sizes_ahead : Callee P w K mg base 4 "sizes_ahead" ["count", "row"] (spAhead)) : Callee P w K mg base 5 "whole" ["count", "row"] (spWhole) := by
  have sc := sc_whole
  refine Callee.of (k := 4) U sc (fun vs H Q E h => ?_) (fun f cdv A outer s H vs Q E hr h => ?_)
  · obtain ⟨c, a, ps, rs, rfl, _⟩ := h; rfl
  · obtain ⟨c, a, ps, rs, rfl, R, q⟩ := h
    have hu := hr.units
    refine ⟨_, (pss_one (ps_ret (pe_cmpR (eqK (K := K) rfl hu) (pe_ix (ixK (K := K) rfl) (pe_c C_sizes_ahead (hr.mono (by decide)) rfl (pa_cons (pv 0) (pa_cons (pv 1) pa_nil))) (pe_un un_neg pe_int) (fun _ _ => rfl)) pe_int (nomark _)))), ?_⟩
    rw [show L2.start ["count", "row"] [V.int c, V.ref a] = [some (V.int c), some (V.ref a)] from rfl]
    walk_at "rd"
    refine spAhead_i R fun p H1 hp s1 hp1 => ?_
    walk_at "rd"
    have hat : atI ((zs (c :: szs rs)).map V.int) (-1) = some (.int (lastN c rs : Nat)) := atI_lastN (by
      have := ahead_get (s := c) (rs := rs) (i := rs.length) (Nat.le_refl _)
      rw [List.take_length] at this
      exact this) (by rw [List.length_cons]; unfold szs; rw [List.length_map])
    refine r_ix2L (xs := (zs (c :: szs rs)).map V.int) hp1 hat ?_
    walk_at "rd"
    rw [show decide (((lastN c rs : Nat) : Int) = 1) = decide (lastN c rs = 1) by by_cases z : lastN c rs = 1 <;> simp [z]; omega]
    exact q _ s1

theorem ok_need_whole {P : Program} {w : World} {K : PySem.W.Frag} {mg : Str → Option Value} {base : Heap} (T : Txt mg) (U : Up K mg "need_whole" s_need_whole ["count", "row"]) (C_whole : Callee P w K mg base 5 "whole" ["count", "row"] (spWhole)) : Callee P w K mg base 6 "need_whole" ["count", "row"] (spNeedW) := by
  have sc := sc_need_whole
  refine Callee.of (k := 5) U sc (fun vs H Q E h => ?_) (fun f cdv A outer s H vs Q E hr h => ?_)
  · obtain ⟨c, a, ps, rs, rfl, _⟩ := h; rfl
  · obtain ⟨c, a, ps, rs, rfl, R, hw, q⟩ := h
    have hu := hr.units
    refine ⟨_, (pss_one (ps_if (pt_not (truK (K := K) rfl (pe_c C_whole (hr.mono (by decide)) rfl (pa_cons (pv 0) (pa_cons (pv 1) pa_nil))))) (pss_one ps_never) pss_nil)), ?_⟩
    rw [show L2.start ["count", "row"] [V.int c, V.ref a] = [some (V.int c), some (V.ref a)] from rfl]
    walk_at "rd"
    refine spWhole_i R fun H1 s1 => ?_
    rw [decide_eq_true hw]
    walk_at "rd"
    exact q _ s1

theorem ok_need_friends {P : Program} {w : World} {K : PySem.W.Frag} {mg : Str → Option Value} {base : Heap} (T : Txt mg) (U : Up K mg "need_friends" s_need_friends ["count", "friends", "row"]) (C_need_whole : Callee P w K mg base 6 "need_whole" ["count", "row"] (spNeedW)) : Callee P w K mg base 7 "need_friends" ["count", "friends", "row"] (spNeedF) := by
  have sc := sc_need_friends
  refine Callee.of (k := 6) U sc (fun vs H Q E h => ?_) (fun f cdv A outer s H vs Q E hr h => ?_)
  · obtain ⟨c, f, a, ps, rs, rfl, _⟩ := h; rfl
  · obtain ⟨c, f, a, ps, rs, rfl, R, hw, hf, q⟩ := h
    have hu := hr.units
    refine ⟨_, (pss_cons (ps_expr (pe_c C_need_whole (hr.mono (by decide)) rfl (pa_cons (pv 0) (pa_cons (pv 2) pa_nil))))
      (pss_one (ps_if (PW.pt (pw_or (pt_cmpR (ltK (K := K) rfl hu) (pv 1) pe_int (nomark _)) (pw_or1 (pt_cmpR op_gt (pv 1) (pv 0) (nomark _))))) (pss_one ps_never) pss_nil))), ?_⟩
    rw [show L2.start ["count", "friends", "row"] [V.int c, V.int f, V.ref a] = [some (V.int c), some (V.int f), some (V.ref a)] from rfl]
    walk_at "rd"
    refine spNeedW_i R hw fun H1 s1 => ?_
    walk_at "rd"
    refine r_iteD (fun h1 => by omega) (fun _ => ?_)
    walk_at "rd"
    refine r_iteD (fun h1 => by omega) (fun _ => ?_)
    walk_at "rd"
    exact q _ s1

theorem ok_round_draws {P : Program} {w : World} {K : PySem.W.Frag} {mg : Str → Option Value} {base : Heap} (T : Txt mg) (U : Up K mg "round_draws" s_round_draws ["count", "sit", "step"]) (C_ways : Callee P w K mg base 1 "ways" ["many", "few"] (spWays)) : Callee P w K mg base 2 "round_draws" ["count", "sit", "step"] (spRoundDraws) := by
  have sc := sc_round_draws
  refine Callee.of (k := 1) U sc (fun vs H Q E h => ?_) (fun f cdv A outer s H vs Q E hr h => ?_)
  · obtain ⟨c, s, p, r, rfl, _⟩ := h; rfl
  · obtain ⟨c, s, p, r, rfl, hp, h1, h2, k⟩ := h
    have hu := hr.units
    refine ⟨_, (pss_cons (ps_if (PW.pt (pw_or (pt_cmpR (eqK (K := K) rfl hu) (pe_ix (ixK (K := K) rfl) (pv 2) pe_int (fun _ _ => rfl)) pe_str (nomark _)) (pw_or1 (pt_cmpR (eqK (K := K) rfl hu) (pe_ix (ixK (K := K) rfl) (pv 2) pe_int (fun _ _ => rfl)) pe_str (nomark _))))) (pss_one (ps_ret (pe_c C_ways (hr.mono (by decide)) rfl (pa_cons (pv 1) (pa_cons (pe_ix (ixK (K := K) rfl) (pv 2) pe_int (fun _ _ => rfl)) pa_nil))))) pss_nil)
      (pss_cons (ps_if (pt_cmpR (eqK (K := K) rfl hu) (pe_ix (ixK (K := K) rfl) (pv 2) pe_int (fun _ _ => rfl)) pe_str (nomark _)) (pss_one (ps_ret (pe_c C_ways (hr.mono (by decide)) rfl (pa_cons (pv 0) (pa_cons (pe_ix (ixK (K := K) rfl) (pv 2) pe_int (fun _ _ => rfl)) pa_nil))))) pss_nil)
      (pss_one (ps_ret pe_int)))), ?_⟩
    rw [show L2.start ["count", "sit", "step"] [V.int c, V.int s, V.ref p] = [some (V.int c), some (V.int s), some (V.ref p)] from rfl]
    cases r with
    | lot n =>
      have hp' : H p = some (.tup [.str "lot", .int n]) := hp
      walk_at "rd"
      refine r_iteD (fun _ => ?_) (fun h1 => absurd rfl h1)
      walk_at "rd"
      refine spWays_i (by omega) ?_
      rw [MB.W_nat]
      exact k
    | vote n q w =>
      have hp' : H p = some (.tup [.str "vote", .int n, .int q, .str (wdS w)]) := hp
      walk_at "rd"
      refine r_iteD (fun h1 => absurd h1 (by decide)) (fun _ => ?_)
      walk_at "rd"
      cases w with
      | council =>
        refine r_iteD (fun h1 => absurd h1 (by decide)) (fun _ => ?_)
        walk_at "rd"
        refine r_iteD (fun _ => ?_) (fun h1 => absurd rfl h1)
        walk_at "rd"
        refine spWays_i (by omega) ?_
        rw [MB.W_nat]
        exact k
      | bench =>
        refine r_iteD (fun _ => ?_) (fun h1 => absurd rfl h1)
        walk_at "rd"
        refine spWays_i (by omega) ?_
        rw [MB.W_nat]
        exact k
      | stay =>
        refine r_iteD (fun h1 => absurd h1 (by decide)) (fun _ => ?_)
        walk_at "rd"
        refine r_iteD (fun h1 => absurd h1 (by decide)) (fun _ => ?_)
        walk_at "rd"
        exact k

theorem ok_draws_row {P : Program} {w : World} {K : PySem.W.Frag} {mg : Str → Option Value} {base : Heap} (T : Txt mg) (U : Up K mg "draws_row" s_draws_row ["count", "row"]) (C_sizes_ahead : Callee P w K mg base 4 "sizes_ahead" ["count", "row"] (spAhead)) (C_round_draws : Callee P w K mg base 2 "round_draws" ["count", "sit", "step"] (spRoundDraws)) : Callee P w K mg base 5 "draws_row" ["count", "row"] (spDrawsRow) := by
  have sc := sc_draws_row
  refine Callee.of (k := 4) U sc (fun vs H Q E h => ?_) (fun f cdv A outer s H vs Q E hr h => ?_)
  · obtain ⟨c, a, ps, rs, rfl, _⟩ := h; rfl
  · obtain ⟨c, a, ps, rs, rfl, R, q⟩ := h
    have hu := hr.units
    refine ⟨_, (pss_one (ps_ret (pe_lc ["count"] ["step", "sit"] [0] (by with_unfolding_all rfl) rfl rfl (pi_zip rfl T.b_zip (pa_cons (pv 1) (pa_cons (pe_c C_sizes_ahead (hr.mono (by decide)) rfl (pa_cons (pv 0) (pa_cons (pv 1) pa_nil))) pa_nil))) (by decide) rfl (by decide) (by exact ⟨rfl, trivial⟩) (by with_unfolding_all rfl) (fun _ => by exact ⟨cap1 rfl rfl rfl rfl, trivial⟩) (fun _ _ _ _ => (gtupK (K := K) (n := 2) rfl rfl (pgs_cons (pg_name (i := 1) (show List.Nodup (["count", "step", "sit"] : List Str) from by decide +kernel) rfl (Or.inl rfl) (.inr rfl)) (pgs_cons (pg_name (i := 2) (show List.Nodup (["count", "step", "sit"] : List Str) from by decide +kernel) rfl (Or.inl rfl) (.inr rfl)) pgs_nil)))) (fun _ _ _ _ => pts_nil) (fun _ _ _ _ => (pe_c C_round_draws (hr.mono (by decide)) rfl (pa_cons (pv 0) (pa_cons (pv 2) (pa_cons (pv 1) pa_nil)))))))), ?_⟩
    rw [show L2.start ["count", "row"] [V.int c, V.ref a] = [some (V.int c), some (V.ref a)] from rfl]
    walk_at "rd"
    refine spAhead_i R fun p H1 hp s1 hp1 => ?_
    have R1 := R.same s1
    have c2 := R.c2
    have ln := R.ln
    have rl := R.rw.ln
    refine compZ (a1 := a) (a2 := p) (xs := ps.map V.ref) (ws := (zs (c :: szs rs)).map V.int) [some (.int c)] (fun i ys H' => Same H1 H' ∧ ys = (zs (drs c c (rs.take i))).map V.int) rfl (by rw [List.length_map, sizeLine_eq]; omega) ⟨fun _ _ z => z, rfl⟩
      (fun i ys H' _ _ ⟨s, _⟩ => ⟨s _ _ R1.rw.ls, s _ _ hp1⟩) (fun i ys H' ⟨_, e⟩ => by rw [e, len_lstN, drs_len, List.length_take]; omega) ?_ ?_
    · rintro i x w ys z1 z2 H' T hi hw ⟨s, rfl⟩ hT
      obtain ⟨p2, r, rfl, _, hr', ho⟩ := R1.rw.get hi
      have hil : i < rs.length := (List.getElem?_eq_some_iff.mp hr').1
      have ew : w = .int (lastN c (rs.take i) : Nat) := by
        have := ahead_get (s := c) (rs := rs) (i := i) (by omega)
        unfold zs at hw
        rw [List.getElem?_map, List.getElem?_map, this] at hw
        exact (Option.some.inj hw).symm
      subst ew
      have lb := lastN_le (R.ft.take i) R.c1 (Nat.le_refl _)
      walk_at "rd"
      refine spRoundDraws_i (r := r) (upd_get (ne_of_none (s _ _ ho) hT) (s _ _ ho)) (by omega) (by omega) ?_
      refine ⟨⟨s.new hT, ?_⟩, _, _, rfl⟩
      rw [BR.take_next hr', drs_snoc, ← lst_snoc]
    · rintro ys H' ⟨s, rfl⟩ D hD
      have e : min (ps.map V.ref).length ((zs (c :: szs rs)).map V.int).length = rs.length := by
        rw [len_lstN, List.length_map, List.length_cons]; unfold szs; rw [List.length_map]; omega
      rw [e, List.take_length]
      exact q D _ (s1.free (s.free hD)) ((s1.tr s).new hD) upd_same

theorem ok_draws {P : Program} {w : World} {K : PySem.W.Frag} {mg : Str → Option Value} {base : Heap} (T : Txt mg) (U : Up K mg "draws" s_draws ["count", "row"]) (C_draws_row : Callee P w K mg base 5 "draws_row" ["count", "row"] (spDrawsRow)) : Callee P w K mg base 6 "draws" ["count", "row"] (spDraws) := by
  have sc := sc_draws
  refine Callee.of (k := 5) U sc (fun vs H Q E h => ?_) (fun f cdv A outer s H vs Q E hr h => ?_)
  · obtain ⟨c, a, ps, rs, rfl, _⟩ := h; rfl
  · obtain ⟨c, a, ps, rs, rfl, R, q⟩ := h
    have hu := hr.units
    refine ⟨_, (pss_cons (ps_set (i := 2) sc.nd rfl (Or.inl rfl) pe_int)
      (pss_cons (ps_for PassesOwn.never rfl (piLK (K := K) rfl (pe_c C_draws_row (hr.mono (by decide)) rfl (pa_cons (pv 0) (pa_cons (pv 1) pa_nil)))) (pg_name (i := 3) sc.nd rfl (Or.inl rfl)) (pss_one (ps_aug (i := 2) sc.nd rfl (Or.inl rfl) (pv 3) ip_mul)))
      (pss_one (ps_ret (pv 2))))), ?_⟩
    rw [show L2.start ["count", "row", "found", "many"] [V.int c, V.ref a] = [some (V.int c), some (V.ref a), none, none] from rfl]
    walk_at "rd"
    refine spDrawsRow_i R fun p H1 hp s1 hp1 => ?_
    have lt := drs_lt R.ft (Nat.le_refl _) (by have := R.c2; omega)
    have ln := R.ln
    have dl := drs_len c rs c
    refine forL (a := p) (xs := (zs (drs c c rs)).map V.int) (fun i σ' H' => H' = H1 ∧ ∃ x : Option V, σ' = [some (.int c), some (.ref a), some (.int (prodN ((drs c c rs).take i) : Nat)), x]) ⟨rfl, none, rfl⟩ (fun i σ' H' _ ⟨e, _⟩ => by subst e; exact SqL.of hp1) ?_ ?_
    · rintro i x σ' H' hi ⟨rfl, x1, rfl⟩
      obtain ⟨n, hn, rfl⟩ : ∃ n, (drs c c rs)[i]? = some n ∧ V.int (n : Nat) = x := by
        unfold zs at hi
        rw [List.getElem?_map, List.getElem?_map] at hi
        cases w : (drs c c rs)[i]? with
        | none => rw [w] at hi; cases hi
        | some n => rw [w] at hi; exact ⟨n, rfl, Option.some.inj hi⟩
      have hil : i < (drs c c rs).length := (List.getElem?_eq_some_iff.mp hn).1
      have b1 := prodN_lt (b := 512) ((drs c c rs).take i) fun y hy => lt y (List.mem_of_mem_take hy)
      have b2 := lt n (List.mem_of_getElem? hn)
      walk_at "rd"
      refine r_ipC (.of _ 512 (by rw [Int.natAbs_natCast]; exact b1) (by rw [Int.natAbs_natCast]; exact b2) (by rw [List.length_take]; omega)) ?_
      refine ⟨rfl, some (.int n), ?_⟩
      rw [BR.take_next hn, prodN_snoc, Int.natCast_mul]
      rfl
    · rintro σ' H' ⟨rfl, x1, rfl⟩
      walk_at "rd"
      rw [len_lstN, List.take_length]
      exact q _ s1

theorem ok_ways_up_to {P : Program} {w : World} {K : PySem.W.Frag} {mg : Str → Option Value} {base : Heap} (T : Txt mg) (U : Up K mg "ways_up_to" s_ways_up_to ["many", "few"]) : Callee P w K mg base 1 "ways_up_to" ["many", "few"] (spUpTo) := by
  have sc := sc_ways_up_to
  refine Callee.of (k := 0) U sc (fun vs H Q E h => ?_) (fun f cdv A outer s H vs Q E hr h => ?_)
  · obtain ⟨m, k, rfl, _⟩ := h; rfl
  · obtain ⟨m, k, rfl, hm, hk, q⟩ := h
    have hu := hr.units
    refine ⟨_, (pss_cons (ps_set (i := 2) sc.nd rfl (Or.inl rfl) (pe_lst (pa_cons pe_int pa_nil)))
      (pss_cons (ps_for PassesOwn.never rfl (pi_range1 rfl T.b_range (pa_cons (pv 1) pa_nil)) (pg_name (i := 3) sc.nd rfl (Or.inl rfl)) (pss_one (ps_expr (pe_bm PySem.F.plainAttrs_list PySem.F.slot_list_append PySem.F.type_list_append mt_append (pv 2) (pa_cons (pe_op op_fdivB (pe_op op_mulA (pe_ix (ixK (K := K) rfl) (pv 2) (pe_un un_neg pe_int) (fun _ _ => rfl)) (pe_op op_sub (pv 0) (pv 3))) (pe_op (addK (K := K) rfl) (pv 3) pe_int)) pa_nil)))))
      (pss_one (ps_ret (pv 2))))), ?_⟩
    rw [show L2.start ["many", "few", "found", "taken"] [V.int m, V.int k] = [some (V.int m), some (V.int k), none, none] from rfl]
    walk_at "rd"
    intro f hf
    walk_at "rd"
    refine forR (fun i σ' H' => ∃ x : Option V, Fr1 f H H' ∧ H' f = some (lstN (mr i (MB.ch m))) ∧ σ' = [some (.int m), some (.int k), some (.ref f), x]) (by omega) (by omega) ⟨none, (Fr1.refl f H).upd, by rw [upd_same]; simp [mr, lstN, zs, MB.ch_zero], rfl⟩ ?_ ?_
    · rintro i σ' H' hi ⟨x1, fr, hf', rfl⟩
      walk_at "rd"
      refine r_tyL (xs := (zs (mr i (MB.ch m))).map V.int) hf' ?_
      walk_at "rd"
      have hat : atI ((zs (mr i (MB.ch m))).map V.int) (-1) = some (.int (MB.ch m i : Nat)) := by
        cases i with
        | zero => rfl
        | succ i =>
          rw [mr_succ, ← lst_snoc]
          exact atI_last _ _
      refine r_ix2L (xs := (zs (mr i (MB.ch m))).map V.int) hf' hat ?_
      walk_at "rd"
      rw [ch_div' m i]
      refine r_append (xs := (zs (mr i (MB.ch m))).map V.int) hf' (by rw [len_lstN, sizeLine_eq, mr_len]; omega) ?_
      refine ⟨some (.int i), fr.upd, ?_, rfl⟩
      rw [upd_same, lst_snoc, mr_succ]
      rfl
    · rintro σ' H' ⟨x1, fr, hf', rfl⟩
      walk_at "rd"
      exact q f H' hf (fun b o z => fr b o z (ne_of_none z hf)) hf'

theorem ok_behind_lot {P : Program} {w : World} {K : PySem.W.Frag} {mg : Str → Option Value} {base : Heap} (T : Txt mg) (U : Up K mg "behind_lot" s_behind_lot ["bench", "on", "few"]) (C_ways_up_to : Callee P w K mg base 1 "ways_up_to" ["many", "few"] (spUpTo)) : Callee P w K mg base 2 "behind_lot" ["bench", "on", "few"] (spLot) := by
  have sc := sc_behind_lot
  refine Callee.of (k := 1) U sc (fun vs H Q E h => ?_) (fun f cdv A outer s H vs Q E hr h => ?_)
  · obtain ⟨b, on, k, rfl, _⟩ := h; rfl
  · obtain ⟨b, on, k, rfl, hb, ho, hk, q⟩ := h
    have hu := hr.units
    refine ⟨_, (pss_cons (ps_set (i := 3) sc.nd rfl (Or.inl rfl) (pe_c C_ways_up_to (hr.mono (by decide)) rfl (pa_cons (pv 1) (pa_cons (pv 2) pa_nil))))
      (pss_cons (ps_set (i := 4) sc.nd rfl (Or.inl rfl) (pe_c C_ways_up_to (hr.mono (by decide)) rfl (pa_cons (pe_op op_sub (pv 0) (pv 1)) (pa_cons (pv 2) pa_nil))))
      (pss_one (ps_ret (pe_lc [] ["one", "other"] [] (by with_unfolding_all rfl) rfl rfl (pi_zip rfl T.b_zip (pa_cons (pv 3) (pa_cons (pe_revK (K := K) rfl (pv 4) (pe_un un_neg pe_int)) pa_nil))) (by decide) rfl (by decide) (by exact trivial) (by with_unfolding_all rfl) (fun _ => by exact trivial) (fun _ _ _ _ => (gtupK (K := K) (n := 2) rfl rfl (pgs_cons (pg_name (i := 0) (show List.Nodup (["one", "other"] : List Str) from by decide +kernel) rfl (Or.inl rfl) (.inr rfl)) (pgs_cons (pg_name (i := 1) (show List.Nodup (["one", "other"] : List Str) from by decide +kernel) rfl (Or.inl rfl) (.inr rfl)) pgs_nil)))) (fun _ _ _ _ => pts_nil) (fun _ _ _ _ => (pe_op op_mulA (pv 0) (pv 1)))))))), ?_⟩
    rw [show L2.start ["bench", "on", "few", "friendly", "others"] [V.int b, V.int on, V.int k] = [some (V.int b), some (V.int on), some (V.int k), none, none] from rfl]
    walk_at "rd"
    refine spUpTo_i (by omega) hk fun p H1 hp s1 hp1 => ?_
    walk_at "rd"
    rw [show (b : Int) - (on : Int) = ((b - on : Nat) : Int) by omega]
    refine spUpTo_i (by omega) hk fun p2 H2 hp2 s2 hp22 => ?_
    walk_at "rd"
    refine r_revL (xs := (zs (mr k (MB.ch (b - on)))).map V.int) hp22 fun p3 hp3 => ?_
    rw [zs_rev, mr_rev]
    have s3 : Same H2 (upd H2 p3 (.lst ((zs (mr k fun j => MB.ch (b - on) (k - j))).map V.int))) := (Same.refl H2).new hp3
    have h3 : (upd H2 p3 (.lst ((zs (mr k fun j => MB.ch (b - on) (k - j))).map V.int))) p3 = some (lstN (mr k fun j => MB.ch (b - on) (k - j))) := upd_same
    generalize upd H2 p3 (.lst ((zs (mr k fun j => MB.ch (b - on) (k - j))).map V.int)) = H3 at s3 h3 ⊢
    walk_at "rd"
    refine compZ (a1 := p) (a2 := p3) (xs := (zs (mr k (MB.ch on))).map V.int) (ws := (zs (mr k fun j => MB.ch (b - on) (k - j))).map V.int) [] (fun i ys H' => Same H3 H' ∧ ys = (zs ((lotN b on k).take i)).map V.int) rfl (by rw [len_lstN, mr_len, sizeLine_eq]; omega) ⟨Same.refl H3, rfl⟩
      (fun i ys H' _ _ ⟨s, _⟩ => ⟨s _ _ (s3 _ _ (s2 _ _ hp1)), s _ _ h3⟩) (fun i ys H' ⟨_, e⟩ => by rw [e, len_lstN, List.length_take]; omega) ?_ ?_
    · rintro i x w ys z1 z2 H' T hi hw ⟨s, rfl⟩ hT
      obtain ⟨x', hx, rfl⟩ := get_lstN hi
      obtain ⟨w', hw', rfl⟩ := get_lstN hw
      have hil : i < k + 1 := by
        have := (List.getElem?_eq_some_iff.mp hx).1
        rw [mr_len] at this; exact this
      rw [mr_get _ (by omega)] at hx hw'
      have ex := Option.some.inj hx
      have ew := Option.some.inj hw'
      subst ex ew
      walk_at "rd"
      have b1 := Nat.lt_of_le_of_lt (MB.ch_le_two_pow on i) (Nat.pow_lt_pow_right (by decide) (show on < 512 by omega))
      have b2 := Nat.lt_of_le_of_lt (MB.ch_le_two_pow (b - on) (k - i)) (Nat.pow_lt_pow_right (by decide) (show b - on < 512 by omega))
      refine r_mulI (.of 512 512 (by rw [Int.natAbs_natCast]; exact b1) (by rw [Int.natAbs_natCast]; exact b2)) ?_
      refine ⟨⟨s.new hT, ?_⟩, _, _, rfl⟩
      have hl : (lotN b on k)[i]? = some (MB.ch on i * MB.ch (b - on) (k - i)) := mr_get (fun k' => MB.ch on k' * MB.ch (b - on) (k - k')) (by omega)
      rw [BR.take_next hl, ← lst_snoc, Int.natCast_mul]
    · rintro ys H' ⟨s, rfl⟩ D hD
      have e : min ((zs (mr k (MB.ch on))).map V.int).length ((zs (mr k fun j => MB.ch (b - on) (k - j))).map V.int).length = (lotN b on k).length := by
        rw [len_lstN, len_lstN, mr_len, mr_len]; unfold lotN; rw [mr_len]; omega
      rw [e, List.take_length]
      have t := ((s1.tr s2).tr s3).tr s
      exact q D _ (t.free hD) (t.new hD) upd_same

theorem ok_side {P : Program} {w : World} {K : PySem.W.Frag} {mg : Str → Option Value} {base : Heap} (T : Txt mg) (U : Up K mg "side" s_side ["bench", "on", "needed"]) : Callee P w K mg base 1 "side" ["bench", "on", "needed"] (spSide) := by
  have sc := sc_side
  refine Callee.of (k := 0) U sc (fun vs H Q E h => ?_) (fun f cdv A outer s H vs Q E hr h => ?_)
  · obtain ⟨b, on, q', rfl, _⟩ := h; rfl
  · obtain ⟨b, on, q', rfl, ho, q⟩ := h
    have hu := hr.units
    refine ⟨_, (pss_cons (ps_if (pt_cmpR op_ge (pv 1) (pv 2) (nomark _)) (pss_one (ps_ret pe_str)) pss_nil)
      (pss_cons (ps_if (pt_cmpR op_ge (pe_op op_sub (pv 0) (pv 1)) (pv 2) (nomark _)) (pss_one (ps_ret pe_str)) pss_nil)
      (pss_one (ps_ret pe_str)))), ?_⟩
    rw [show L2.start ["bench", "on", "needed"] [V.int b, V.int on, V.int q'] = [some (V.int b), some (V.int on), some (V.int q')] from rfl]
    walk_at "rd"
    refine r_iteD (fun h1 => ?_) (fun h1 => ?_)
    · walk_at "rd"
      rw [show sideS b on q' = "friends" from if_pos (by omega)] at q
      exact q
    · walk_at "rd"
      refine r_iteD (fun h2 => ?_) (fun h2 => ?_)
      · walk_at "rd"
        rw [show sideS b on q' = "foes" from (if_neg (by omega)).trans (if_pos (by omega))] at q
        exact q
      · walk_at "rd"
        rw [show sideS b on q' = "hung" from (if_neg (by omega)).trans (if_neg (by omega))] at q
        exact q

theorem ok_seated {P : Program} {w : World} {K : PySem.W.Frag} {mg : Str → Option Value} {base : Heap} (T : Txt mg) (U : Up K mg "seated" s_seated ["count", "friends", "seats", "who"]) : Callee P w K mg base 1 "seated" ["count", "friends", "seats", "who"] (spSeated) := by
  have sc := sc_seated
  refine Callee.of (k := 0) U sc (fun vs H Q E h => ?_) (fun f cdv A outer s H vs Q E hr h => ?_)
  · obtain ⟨c, f, n, w, rfl, _⟩ := h; rfl
  · obtain ⟨c, f, n, w, rfl, hf, q⟩ := h
    have hu := hr.units
    refine ⟨_, (pss_cons (ps_if (pt_cmpR (eqK (K := K) rfl hu) (pv 3) pe_str (nomark _)) (pss_one (ps_ret (pe_callB (cl_min2 rfl) rfl T.b_min bt_min (pa_cons (pv 1) (pa_cons (pv 2) pa_nil))))) pss_nil)
      (pss_one (ps_ret (pe_op op_sub (pv 2) (pe_callB (cl_min2 rfl) rfl T.b_min bt_min (pa_cons (pe_op op_sub (pv 0) (pv 1)) (pa_cons (pv 2) pa_nil))))))), ?_⟩
    cases w with
    | true =>
      rw [show L2.start ["count", "friends", "seats", "who"] [V.int c, V.int f, V.int n, V.str (if true then "friends" else "foes")] = [some (V.int c), some (V.int f), some (V.int n), some (V.str (if true then "friends" else "foes"))] from rfl]
      walk_at "rd"
      refine r_iteD (fun _ => ?_) (fun z => absurd rfl z)
      walk_at "rd"
      have e : (if (n : Int) < (f : Int) then (n : Int) else (f : Int)) = ((min f n : Nat) : Int) := by split <;> omega
      rw [e]
      exact q
    | false =>
      rw [show L2.start ["count", "friends", "seats", "who"] [V.int c, V.int f, V.int n, V.str (if false then "friends" else "foes")] = [some (V.int c), some (V.int f), some (V.int n), some (V.str (if false then "friends" else "foes"))] from rfl]
      walk_at "rd"
      refine r_iteD (fun z => absurd z (by decide)) (fun _ => ?_)
      walk_at "rd"
      have e : (n : Int) - (if (n : Int) < (c : Int) - (f : Int) then (n : Int) else (c : Int) - (f : Int)) = ((n - min (c - f) n : Nat) : Int) := by split <;> omega
      rw [e]
      exact q

theorem ok_all_lead_to {P : Program} {w : World} {K : PySem.W.Frag} {mg : Str → Option Value} {base : Heap} (T : Txt mg) (U : Up K mg "all_lead_to" s_all_lead_to ["seats", "on", "many"]) : Callee P w K mg base 1 "all_lead_to" ["seats", "on", "many"] (spLead) := by
  have sc := sc_all_lead_to
  refine Callee.of (k := 0) U sc (fun vs H Q E h => ?_) (fun f cdv A outer s H vs Q E hr h => ?_)
  · obtain ⟨n, k, v, rfl, _⟩ := h; rfl
  · obtain ⟨n, k, v, rfl, hk, hn, q⟩ := h
    have hu := hr.units
    refine ⟨_, (pss_cons (ps_set (i := 3) sc.nd rfl (Or.inl rfl) (pe_op op_mulA (pe_lst (pa_cons pe_int pa_nil)) (pe_op (addK (K := K) rfl) (pv 0) pe_int)))
      (pss_cons (ps_asg (pv 2) (pg_sub (pv 3) (pv 1) set_list))
      (pss_one (ps_ret (pv 3))))), ?_⟩
    rw [show L2.start ["seats", "on", "many", "found"] [V.int n, V.int k, V.int v] = [some (V.int n), some (V.int k), some (V.int v), none] from rfl]
    walk_at "rd"
    intro p hp
    walk_at "rd"
    refine r_repI upd_same (by omega) (by omega) fun p2 hp2 => ?_
    rw [show ((n : Int) + 1).toNat = n + 1 by omega, zs_rep]
    have s1 := ((Same.refl H).new (o := .lst [.int 0]) hp)
    have n0 := s1.free hp2
    have s2 := s1.new (o := .lst ((zs (List.replicate (n + 1) 0)).map V.int)) hp2
    walk_at "rd"
    refine r_setL (xs := (zs (List.replicate (n + 1) 0)).map V.int) upd_same (by rw [len_lstN, List.length_replicate]; exact ixN_nat (by omega)) ?_
    walk_at "rd"
    rw [zs_set, one_set hk]
    refine q p2 _ n0 (fun b o z => ?_) upd_same
    rw [upd_ne (ne_of_none z n0)]
    exact s2 b o z

theorem ok_behind {P : Program} {w : World} {K : PySem.W.Frag} {mg : Str → Option Value} {base : Heap} (T : Txt mg) (U : Up K mg "behind" s_behind ["count", "friends", "bench", "on", "step"]) (C_round_draws : Callee P w K mg base 2 "round_draws" ["count", "sit", "step"] (spRoundDraws)) (C_behind_lot : Callee P w K mg base 2 "behind_lot" ["bench", "on", "few"] (spLot)) (C_side : Callee P w K mg base 1 "side" ["bench", "on", "needed"] (spSide)) (C_seated : Callee P w K mg base 1 "seated" ["count", "friends", "seats", "who"] (spSeated)) (C_all_lead_to : Callee P w K mg base 1 "all_lead_to" ["seats", "on", "many"] (spLead)) : Callee P w K mg base 3 "behind" ["count", "friends", "bench", "on", "step"] (spBehind) := by
  have sc := sc_behind
  refine Callee.of (k := 2) U sc (fun vs H Q E h => ?_) (fun f cdv A outer s H vs Q E hr h => ?_)
  · obtain ⟨c, f, b, on, p, r, rfl, _⟩ := h; rfl
  · obtain ⟨c, f, b, on, p, r, rfl, hp, hf, ho, hc, hb, ft, q⟩ := h
    have hu := hr.units
    refine ⟨_, (pss_cons (ps_set (i := 5) sc.nd rfl (Or.inl rfl) (pe_ix (ixK (K := K) rfl) (pv 4) pe_int (fun _ _ => rfl)))
      (pss_cons (ps_if (pt_cmpR (eqK (K := K) rfl hu) (pe_ix (ixK (K := K) rfl) (pv 4) pe_int (fun _ _ => rfl)) pe_str (nomark _)) (pss_one (ps_ret (pe_c C_behind_lot (hr.mono (by decide)) rfl (pa_cons (pv 2) (pa_cons (pv 3) (pa_cons (pv 5) pa_nil)))))) pss_nil)
      (pss_cons (ps_set (i := 6) sc.nd rfl (Or.inl rfl) (pe_c C_side (hr.mono (by decide)) rfl (pa_cons (pv 2) (pa_cons (pv 3) (pa_cons (pe_ix (ixK (K := K) rfl) (pv 4) pe_int (fun _ _ => rfl)) pa_nil)))))
      (pss_cons (ps_if (pt_cmpR (neK (K := K) rfl hu) (pv 6) pe_str (nomark _)) (pss_one (ps_ret (pe_c C_all_lead_to (hr.mono (by decide)) rfl (pa_cons (pv 5) (pa_cons (pe_c C_seated (hr.mono (by decide)) rfl (pa_cons (pv 0) (pa_cons (pv 1) (pa_cons (pv 5) (pa_cons (pv 6) pa_nil))))) (pa_cons (pe_c C_round_draws (hr.mono (by decide)) rfl (pa_cons (pv 0) (pa_cons (pv 2) (pa_cons (pv 4) pa_nil)))) pa_nil)))))) pss_nil)
      (pss_cons (ps_if (pt_cmpR (eqK (K := K) rfl hu) (pe_ix (ixK (K := K) rfl) (pv 4) pe_int (fun _ _ => rfl)) pe_str (nomark _)) (pss_one (ps_ret (pe_c C_behind_lot (hr.mono (by decide)) rfl (pa_cons (pv 0) (pa_cons (pv 1) (pa_cons (pv 5) pa_nil)))))) pss_nil)
      (pss_cons (ps_if (pt_cmpR (eqK (K := K) rfl hu) (pe_ix (ixK (K := K) rfl) (pv 4) pe_int (fun _ _ => rfl)) pe_str (nomark _)) (pss_one (ps_ret (pe_c C_behind_lot (hr.mono (by decide)) rfl (pa_cons (pv 2) (pa_cons (pv 3) (pa_cons (pv 5) pa_nil)))))) pss_nil)
      (pss_one (ps_ret (pe_c C_all_lead_to (hr.mono (by decide)) rfl (pa_cons (pv 5) (pa_cons (pv 3) (pa_cons pe_int pa_nil)))))))))))), ?_⟩
    rw [show L2.start ["count", "friends", "bench", "on", "step", "seats", "who"] [V.int c, V.int f, V.int b, V.int on, V.ref p] = [some (V.int c), some (V.int f), some (V.int b), some (V.int on), some (V.ref p), none, none] from rfl]
    have fp := ft.pos
    cases r with
    | lot n =>
      have hp' : H p = some (.tup [.str "lot", .int n]) := hp
      have fp' : 1 ≤ n ∧ n ≤ 60 := fp
      walk_at "rd"
      refine r_iteD (fun _ => ?_) (fun z => absurd rfl z)
      walk_at "rd"
      exact spLot_i hb ho (by omega) q
    | vote n q' w =>
      have hp' : H p = some (.tup [.str "vote", .int n, .int q', .str (wdS w)]) := hp
      have fp' : 1 ≤ n ∧ n ≤ 60 := fp
      rw [bh_vote] at q
      walk_at "rd"
      refine r_iteD (fun z => absurd z (by decide)) (fun _ => ?_)
      walk_at "rd"
      refine spSide_i ho ?_
      walk_at "rd"
      by_cases a1 : q' ≤ on
      · rw [show sideS b on q' = (if true then "friends" else "foes" : Str) from if_pos a1]
        rw [if_pos a1] at q
        refine r_iteN (fun _ => ?_) (fun z => absurd z (by decide))
        walk_at "rd"
        refine spSeated_i hf ?_
        walk_at "rd"
        refine spRoundDraws_i (r := .vote n q' w) hp hc hb ?_
        walk_at "rd"
        exact spLead_i (show min f n ≤ n by omega) (by omega) q
      · rw [if_neg a1] at q
        by_cases a2 : q' ≤ b - on
        · rw [show sideS b on q' = (if false then "friends" else "foes" : Str) from (if_neg a1).trans (if_pos a2)]
          rw [if_pos a2] at q
          refine r_iteN (fun _ => ?_) (fun z => absurd z (by decide))
          walk_at "rd"
          refine spSeated_i hf ?_
          walk_at "rd"
          refine spRoundDraws_i (r := .vote n q' w) hp hc hb ?_
          walk_at "rd"
          exact spLead_i (show n - min (c - f) n ≤ n by omega) (by omega) q
        · rw [show sideS b on q' = "hung" from (if_neg a1).trans (if_neg a2)]
          rw [if_neg a2] at q
          refine r_iteN (fun z => absurd rfl z) (fun _ => ?_)
          walk_at "rd"
          cases w with
          | council =>
            refine r_iteD (fun _ => ?_) (fun z => absurd rfl z)
            walk_at "rd"
            exact spLot_i hc hf (by omega) q
          | bench =>
            refine r_iteD (fun z => absurd z (by decide)) (fun _ => ?_)
            walk_at "rd"
            refine r_iteD (fun _ => ?_) (fun z => absurd rfl z)
            walk_at "rd"
            exact spLot_i hb ho (by omega) q
          | stay =>
            refine r_iteD (fun z => absurd z (by decide)) (fun _ => ?_)
            walk_at "rd"
            refine r_iteD (fun z => absurd z (by decide)) (fun _ => ?_)
            walk_at "rd"
            exact spLead_i (v := 1) (by have := ft.2.2.2.2.2.2 rfl; omega) (by omega) q

theorem ok_common_part {P : Program} {w : World} {K : PySem.W.Frag} {mg : Str → Option Value} {base : Heap} (T : Txt mg) (U : Up K mg "common_part" s_common_part ["one", "other"]) : Callee P w K mg base 1 "common_part" ["one", "other"] (spGcd) := by
  have sc := sc_common_part
  refine Callee.of (k := 0) U sc (fun vs H Q E h => ?_) (fun f cdv A outer s H vs Q E hr h => ?_)
  · obtain ⟨a, b, rfl, _⟩ := h; rfl
  · obtain ⟨a, b, rfl, ha, hb, q⟩ := h
    have hu := hr.units
    refine ⟨_, (pss_cons (ps_while PassesOwn.never (truK (K := K) rfl (pv 1)) (pss_one (ps_par (i := 0) (j := 1) rfl sc.nd rfl rfl (by decide) rfl rfl (pa_cons (pv 1) (pa_cons (pe_op op_mod (pv 0) (pv 1)) pa_nil)) rfl)))
      (pss_one (ps_ret (pv 0)))), ?_⟩
    rw [show L2.start ["one", "other"] [V.int a, V.int b] = [some (V.int a), some (V.int b)] from rfl]
    refine r_seq ?_
    refine r_while (fun m σ' H' => ∃ x y : Int, m = y.toNat ∧ 0 ≤ x ∧ 0 ≤ y ∧ gI x y = gI a b ∧ H' = H ∧ σ' = [some (.int x), some (.int y)]) b.toNat ⟨a, b, rfl, ha, hb, rfl, rfl, rfl⟩ ?_
    rintro m σ' H' ⟨x, y, rfl, hx, hy, e, rfl, rfl⟩
    walk_at "rd"
    refine r_iteN (fun h1 => ?_) (fun h1 => ?_)
    · refine ⟨_, fun _ _ z => z, ?_⟩
      walk_at "rd"
      have l1 := Int.emod_lt_of_pos x (show 0 < y by omega)
      have l2 := Int.emod_nonneg x (show y ≠ 0 by omega)
      exact ⟨_, by omega, y, x % y, rfl, hy, l2, (gI_rec hx (by omega)).trans e, rfl, rfl⟩
    · walk_at "rd"
      subst h1
      rw [gI_zero] at e
      rw [← e] at q
      have e2 : (x.natAbs : Int) = x := by omega
      rw [e2] at q
      exact q

theorem ok_lowest {P : Program} {w : World} {K : PySem.W.Frag} {mg : Str → Option Value} {base : Heap} (T : Txt mg) (U : Up K mg "lowest" s_lowest ["top", "bottom"]) (C_common_part : Callee P w K mg base 1 "common_part" ["one", "other"] (spGcd)) : Callee P w K mg base 2 "lowest" ["top", "bottom"] (spLow) := by
  have sc := sc_lowest
  refine Callee.of (k := 1) U sc (fun vs H Q E h => ?_) (fun f cdv A outer s H vs Q E hr h => ?_)
  · obtain ⟨t, b, rfl, _⟩ := h; rfl
  · obtain ⟨t, b, rfl, hb, ⟨n, hn, hn2⟩, q⟩ := h
    have hu := hr.units
    refine ⟨_, (pss_cons (ps_set (i := 2) sc.nd rfl (Or.inl rfl) (pe_c C_common_part (hr.mono (by decide)) rfl (pa_cons (pe_callB cl_abs rfl T.b_abs bt_abs (pa_cons (pv 0) pa_nil)) (pa_cons (pv 1) pa_nil))))
      (pss_one (ps_ret (pe_tup (pa_cons (pe_op op_fdivB (pv 0) (pv 2)) (pa_cons (pe_op op_fdivB (pv 1) (pv 2)) pa_nil)))))), ?_⟩
    rw [show L2.start ["top", "bottom", "part"] [V.int t, V.int b] = [some (V.int t), some (V.int b), none] from rfl]
    walk_at "rd"
    refine spGcd_i (by split <;> omega) (by omega) ?_
    rw [gI_abs]
    have g0 := gI_pos (a := t) hb
    have gd : CDivB 0 (gI t b) := .of n g0 (Nat.lt_of_le_of_lt (gI_le hb) hn) hn2
    walk_at "rd"
    refine r_rI gd ?_
    walk_at "rd"
    refine r_rI gd ?_
    walk_at "rd"
    exact q

theorem ok_roads_on {P : Program} {w : World} {K : PySem.W.Frag} {mg : Str → Option Value} {base : Heap} (T : Txt mg) (U : Up K mg "roads_on" s_roads_on ["count", "friends", "roads_here", "step"]) (C_behind : Callee P w K mg base 3 "behind" ["count", "friends", "bench", "on", "step"] (spBehind)) : Callee P w K mg base 4 "roads_on" ["count", "friends", "roads_here", "step"] (spRoadsOn) := by
  have sc := sc_roads_on
  refine Callee.of (k := 3) U sc (fun vs H Q E h => ?_) (fun f cdv A outer s H vs Q E hr h => ?_)
  · obtain ⟨c, f, b, ha, p, h0, r, rfl, _⟩ := h; rfl
  · obtain ⟨c, f, b, ha, p, h0, r, rfl, hh, hp, hl, hf, hc, hb, ft, hsum, q⟩ := h
    have hu := hr.units
    refine ⟨_, (pss_cons (ps_set (i := 4) sc.nd rfl (Or.inl rfl) (pe_op op_sub (pe_callB (lenK (K := K) rfl) rfl T.b_len bt_len (pa_cons (pv 2) pa_nil)) pe_int))
      (pss_cons (ps_set (i := 5) sc.nd rfl (Or.inl rfl) (pe_op op_mulA (pe_lst (pa_cons pe_int pa_nil)) (pe_op (addK (K := K) rfl) (pe_ix (ixK (K := K) rfl) (pv 3) pe_int (fun _ _ => rfl)) pe_int)))
      (pss_cons (ps_for PassesOwn.never rfl (pi_enum rfl T.b_enumerate (pa_cons (pv 2) pa_nil)) (gtupK (K := K) (n := 2) rfl rfl (pgs_cons (pg_name (i := 6) sc.nd rfl (Or.inl rfl)) (pgs_cons (pg_name (i := 7) sc.nd rfl (Or.inl rfl)) pgs_nil))) (pss_one (ps_if (truK (K := K) rfl (pv 7)) (pss_one (ps_for PassesOwn.never rfl (pi_enum rfl T.b_enumerate (pa_cons (pe_c C_behind (hr.mono (by decide)) rfl (pa_cons (pv 0) (pa_cons (pv 1) (pa_cons (pv 4) (pa_cons (pv 6) (pa_cons (pv 3) pa_nil)))))) pa_nil)) (gtupK (K := K) (n := 2) rfl rfl (pgs_cons (pg_name (i := 8) sc.nd rfl (Or.inl rfl)) (pgs_cons (pg_name (i := 9) sc.nd rfl (Or.inl rfl)) pgs_nil))) (pss_one (ps_augS (pv 5) (pv 8) (getLK (K := K) rfl) (pe_op op_mulA (pv 7) (pv 9)) ip_add set_list)))) pss_nil)))
      (pss_one (ps_ret (pv 5)))))), ?_⟩
    rw [show L2.start ["count", "friends", "roads_here", "step", "sit", "found", "on", "many", "to", "leading"] [V.int c, V.int f, V.ref ha, V.ref p] = [some (V.int c), some (V.int f), some (V.ref ha), some (V.ref p), none, none, none, none, none, none] from rfl]
    have fp := ft.pos
    obtain ⟨xs, e1, e2⟩ := rn_n r
    walk_at "rd"
    refine r_lenL (xs := (zs h0).map V.int) hh ?_
    rw [len_lstN, hl]
    walk_at "rd"
    rw [show ((b + 1 : Nat) : Int) - 1 = (b : Int) by omega]
    intro p0 hp0
    walk_at "rd"
    refine r_ix2T (xs := xs) (by rw [upd_ne (ne_of_none hp hp0), hp, e1]) e2 ?_
    walk_at "rd"
    refine r_repI upd_same (by omega) (by omega) fun f0 hf0 => ?_
    rw [show ((r.n : Int) + 1).toNat = r.n + 1 by omega, zs_rep]
    have s1 := ((Same.refl H).new (o := .lst [.int 0]) hp0)
    have nf0 := s1.free hf0
    have s2 := s1.new (o := .lst ((zs (List.replicate (r.n + 1) 0)).map V.int)) hf0
    have a2 : (upd (upd H p0 (.lst [.int 0])) f0 (.lst ((zs (List.replicate (r.n + 1) 0)).map V.int))) f0 = some (lstN (mr r.n fun t => rT c f b h0 r 0 t)) := by
      rw [upd_same]
      show some (lstN _) = some (lstN _)
      congr 2
      apply List.ext_getElem?
      intro i
      by_cases hi : i ≤ r.n
      · rw [mr_get _ hi, List.getElem?_replicate, if_pos (by omega)]; rfl
      · rw [mr_none _ (by omega), List.getElem?_eq_none (by rw [List.length_replicate]; omega)]
    generalize upd (upd H p0 (.lst [.int 0])) f0 (.lst ((zs (List.replicate (r.n + 1) 0)).map V.int)) = H2 at s2 a2 ⊢
    have hbd : ∀ i x, h0[i]? = some x → x < 2 ^ 60000 := fun i x hx => Nat.lt_of_le_of_lt (mem_le_sum (List.mem_of_getElem? hx)) hsum
    walk_at "rd"
    have nhf : ha ≠ f0 := ne_of_none hh nf0
    have npf : p ≠ f0 := ne_of_none hp nf0
    refine forE (a := ha) (xs := (zs h0).map V.int) (fun i σ' H' => ∃ x y z w : Option V, Fr1 f0 H2 H' ∧ H' f0 = some (lstN (mr r.n fun t => rT c f b h0 r i t)) ∧ σ' = [some (.int c), some (.int f), some (.ref ha), some (.ref p), some (.int b), some (.ref f0), x, y, z, w]) ⟨none, none, none, none, Fr1.refl f0 H2, a2, rfl⟩ (fun i σ' H' _ ⟨_, _, _, _, fr, _⟩ => fr.get (s2 _ _ hh) nhf) ?_ ?_
    · rintro i x σ' H' T hi ⟨x1, y1, z1, w1, fr, hf', rfl⟩ hT
      obtain ⟨m, hm, rfl⟩ := get_lstN hi
      have hil : i < b + 1 := by
        have := (List.getElem?_eq_some_iff.mp hm).1
        omega
      have eT : ∀ t, rT c f b h0 r (i + 1) t = rT c f b h0 r i t + m * (bh c f b i r).getD t 0 := fun t => by
        show rT c f b h0 r i t + h0.getD i 0 * (bh c f b i r).getD t 0 = _
        rw [getD_some hm]
      have hfT : f0 ≠ T := ne_of_none hf' hT
      walk_at "rd"
      refine r_iteN (fun hm0 => ?_) (fun hm0 => ?_)
      · walk_at "rd"
        have hpT : H' p = some (rnO r) := fr.get (s2 _ _ hp) npf
        refine spBehind_i (r := r) (upd_get (ne_of_none hpT hT) hpT) hf (by omega) hc hb ft fun pb Hb hpb sb hb' => ?_
        have nbf : f0 ≠ pb := by
          intro z
          subst z
          rw [upd_ne hfT, hf'] at hpb
          cases hpb
        have frb : Fr1 f0 H2 Hb := fun b' o z n => sb _ _ (by rw [upd_ne (ne_of_none (fr _ _ z n) hT)]; exact fr _ _ z n)
        have hfb : Hb f0 = some (lstN (mr r.n fun t => rT c f b h0 r i t)) := sb _ _ (by rw [upd_ne hfT]; exact hf')
        have bl := bh_len c f b i r
        refine forE (a := pb) (xs := (zs (bh c f b i r)).map V.int) (fun j σ' H' => ∃ z w : Option V, Fr1 f0 Hb H' ∧ H' f0 = some (lstN (mr r.n fun t => if t < j then rT c f b h0 r (i + 1) t else rT c f b h0 r i t)) ∧ σ' = [some (.int c), some (.int f), some (.ref ha), some (.ref p), some (.int b), some (.ref f0), some (.int i), some (.int m), z, w]) ⟨z1, w1, Fr1.refl f0 Hb, by
            rw [hfb]
            congr 2, rfl⟩ (fun j σ' H' _ ⟨_, _, fr2, _⟩ => fr2.get hb' nbf.symm) ?_ ?_
        · rintro j y σ2 Hj T2 hj ⟨z2, w2, fr2, hfj, rfl⟩ hT2
          obtain ⟨v, hv, rfl⟩ := get_lstN hj
          have hjl : j ≤ r.n := by
            have := (List.getElem?_eq_some_iff.mp hv).1
            omega
          have hfT2 : f0 ≠ T2 := ne_of_none hfj hT2
          have hfj' : upd Hj T2 (.tup [.int (j : Int), .int (v : Int)]) f0 = some (.lst ((zs (mr r.n fun t => if t < j then rT c f b h0 r (i + 1) t else rT c f b h0 r i t)).map V.int)) := by rw [upd_ne hfT2]; exact hfj
          walk_at "rd"
          have hat : atI ((zs (mr r.n fun t => if t < j then rT c f b h0 r (i + 1) t else rT c f b h0 r i t)).map V.int) (j : Int) = some (.int (rT c f b h0 r i j : Nat)) := atI_lstN (by rw [mr_get _ hjl, if_neg (by omega)])
          refine r_ixLL hfj' hat ?_
          walk_at "rd"
          have b1 := hbd i m hm
          have b2 := bh_le hf (show i ≤ b by omega) hc hb ft v (List.mem_of_getElem? hv)
          refine r_mulI (.of 60000 512 (by rw [Int.natAbs_natCast]; exact b1) (by rw [Int.natAbs_natCast]; exact b2)) ?_
          walk_at "rd"
          refine r_setL hfj' (by rw [len_lstN, mr_len]; exact ixN_nat (by omega)) ?_
          have ev : ((rT c f b h0 r i j : Nat) : Int) + (m : Int) * (v : Int) = ((rT c f b h0 r (i + 1) j : Nat) : Int) := by
            rw [eT, getD_some hv, Int.natCast_add, Int.natCast_mul]
          rw [ev, zs_set, mr_set hjl]
          refine ⟨some (.int j), some (.int v), (fr2.new hT2).upd, ?_, rfl⟩
          rw [upd_same]
          show some (lstN _) = some (lstN _)
          congr 2
          refine mr_congr fun t ht => ?_
          by_cases z : t = j
          · rw [if_pos z, if_pos (by omega), z]
          · rw [if_neg z]
            by_cases z2 : t < j
            · rw [if_pos z2, if_pos (by omega)]
            · rw [if_neg z2, if_neg (by omega)]
        · rintro σ2 Hj ⟨z2, w2, fr2, hfj, rfl⟩
          refine ⟨_, _, z2, w2, fun b' o z n => fr2 _ _ (frb _ _ z n) n, ?_, rfl⟩
          rw [hfj, len_lstN, bl]
          congr 2
          refine mr_congr fun t ht => ?_
          rw [if_pos (by omega)]
      · walk_at "rd"
        refine ⟨_, _, z1, w1, fr.new hT, ?_, rfl⟩
        rw [upd_ne hfT, hf']
        congr 2
        refine mr_congr fun t ht => ?_
        have hm0' : m = 0 := by omega
        rw [eT, hm0', Nat.zero_mul, Nat.add_zero]
    · rintro σ' H' ⟨x1, y1, z1, w1, fr, hf', rfl⟩
      walk_at "rd"
      rw [len_lstN, hl] at hf'
      exact q f0 H' nf0 (fun b' o z => fr _ _ (s2 _ _ z) (ne_of_none z nf0)) hf'

theorem ok_roads {P : Program} {w : World} {K : PySem.W.Frag} {mg : Str → Option Value} {base : Heap} (T : Txt mg) (U : Up K mg "roads" s_roads ["count", "friends", "row"]) (C_need_friends : Callee P w K mg base 7 "need_friends" ["count", "friends", "row"] (spNeedF)) (C_roads_on : Callee P w K mg base 4 "roads_on" ["count", "friends", "roads_here", "step"] (spRoadsOn)) : Callee P w K mg base 8 "roads" ["count", "friends", "row"] (spRoads) := by
  have sc := sc_roads
  refine Callee.of (k := 7) U sc (fun vs H Q E h => ?_) (fun f cdv A outer s H vs Q E hr h => ?_)
  · obtain ⟨c, f, a, ps, rs, rfl, _⟩ := h; rfl
  · obtain ⟨c, f, a, ps, rs, rfl, ⟨R, hw, hf⟩, q⟩ := h
    have hu := hr.units
    have c2 := R.c2
    refine ⟨_, (pss_cons (ps_expr (pe_c C_need_friends (hr.mono (by decide)) rfl (pa_cons (pv 0) (pa_cons (pv 1) (pa_cons (pv 2) pa_nil)))))
      (pss_cons (ps_set (i := 3) sc.nd rfl (Or.inl rfl) (pe_op op_mulA (pe_lst (pa_cons pe_int pa_nil)) (pe_op (addK (K := K) rfl) (pv 0) pe_int)))
      (pss_cons (ps_asg pe_int (pg_sub (pv 3) (pv 1) set_list))
      (pss_cons (ps_set (i := 4) sc.nd rfl (Or.inl rfl) (pe_lst pa_nil))
      (pss_cons (ps_for PassesOwn.never rfl (piLK (K := K) rfl (pv 2)) (pg_name (i := 5) sc.nd rfl (Or.inl rfl)) (pss_cons (ps_set (i := 3) sc.nd rfl (Or.inl rfl) (pe_c C_roads_on (hr.mono (by decide)) rfl (pa_cons (pv 0) (pa_cons (pv 1) (pa_cons (pv 3) (pa_cons (pv 5) pa_nil))))))
      (pss_one (ps_expr (pe_bm PySem.F.plainAttrs_list PySem.F.slot_list_append PySem.F.type_list_append mt_append (pv 4) (pa_cons (pv 3) pa_nil))))))
      (pss_one (ps_ret (pv 4)))))))), ?_⟩
    rw [show L2.start ["count", "friends", "row", "here", "found", "step"] [V.int c, V.int f, V.ref a] = [some (V.int c), some (V.int f), some (V.ref a), none, none, none] from rfl]
    walk_at "rd"
    refine spNeedF_i R hw hf fun H1 s1 => ?_
    have R1 := R.same s1
    walk_at "rd"
    intro p0 hp0
    walk_at "rd"
    refine r_repI upd_same (by omega) (by omega) fun h0 hh0 => ?_
    rw [show ((c : Int) + 1).toNat = c + 1 by omega, zs_rep]
    have t1 := ((Same.refl H1).new (o := .lst [.int 0]) hp0)
    have nh0 := t1.free hh0
    have t2 := t1.new (o := .lst ((zs (List.replicate (c + 1) 0)).map V.int)) hh0
    walk_at "rd"
    refine r_setL (xs := (zs (List.replicate (c + 1) 0)).map V.int) upd_same (by rw [len_lstN, List.length_replicate]; exact ixN_nat (by omega)) ?_
    rw [show ((zs (List.replicate (c + 1) 0)).map V.int).set f (V.int 1) = (zs (one c f 1)).map V.int from by rw [show (V.int 1) = V.int ((1 : Nat) : Int) from rfl, zs_set, one_set hf]]
    have t3 : Same H1 (upd (upd (upd H1 p0 (.lst [.int 0])) h0 (.lst ((zs (List.replicate (c + 1) 0)).map V.int))) h0 (.lst ((zs (one c f 1)).map V.int))) := fun b' o z => by
      rw [upd_ne (ne_of_none z nh0)]; exact t2 _ _ z
    have a3 : (upd (upd (upd H1 p0 (.lst [.int 0])) h0 (.lst ((zs (List.replicate (c + 1) 0)).map V.int))) h0 (.lst ((zs (one c f 1)).map V.int))) h0 = some (lstN (one c f 1)) := upd_same
    generalize (upd (upd (upd H1 p0 (.lst [.int 0])) h0 (.lst ((zs (List.replicate (c + 1) 0)).map V.int))) h0 (.lst ((zs (one c f 1)).map V.int))) = H3 at t3 a3 ⊢
    have S3 := s1.tr t3
    have R3 := R.same S3
    walk_at "rd"
    intro fa hfa
    walk_at "rd"
    have nfa := S3.free hfa
    have haf : a ≠ fa := ne_of_none R3.rw.ls hfa
    have ln := R.ln
    refine forL (a := a) (xs := ps.map V.ref) (fun i σ' H' => ∃ (x : Option V) (hc : Addr) (qs : List Addr), (∀ b' o, H b' = some o → H' b' = some o) ∧ H' hc = some (lstN (rdl c f c (one c f 1) (rs.take i))) ∧ hc ≠ fa ∧ TsAt lstN H' fa qs (rds c f c (one c f 1) (rs.take i)) ∧ (∀ p ∈ qs, H p = none ∧ p ≠ fa) ∧ σ' = [some (.int c), some (.int f), some (.ref a), some (.ref hc), some (.ref fa), x])
      ⟨none, h0, [], fun b' o z => by rw [upd_ne (ne_of_none z nfa)]; exact S3 _ _ z, by rw [upd_ne (ne_of_none a3 hfa)]; exact a3, ne_of_none a3 hfa, ⟨upd_same, fun i p z => by simp at z, rfl⟩, fun p z => by simp at z, rfl⟩
      (fun i σ' H' _ ⟨_, _, _, S, _⟩ => SqL.of (S _ _ R.rw.ls)) ?_ ?_
    · rintro i x σ' H' hi ⟨x1, hc, qs, S, hhc, hne, F, hq, rfl⟩
      obtain ⟨p, r, rfl, _, hr', ho⟩ := R.rw.get hi
      have hil : i < rs.length := (List.getElem?_eq_some_iff.mp hr').1
      have ft := R.ft.at hr'
      have lb := lastN_le (R.ft.take i) R.c1 (Nat.le_refl _)
      have ql := F.ln
      have rl := rds_len c f (rs.take i) c (one c f 1)
      rw [List.length_take] at rl
      walk_at "rd"
      refine spRoadsOn_i hhc (S _ _ ho) (rdl_len c f (rs.take i) (one_len _ _ _)) hf (by omega) (by omega) ft (road_bd hf (R.ft.take i) (by omega) (by rw [List.length_take]; omega)) fun pn Hn hpn sn hn => ?_
      have F2 := F.same sn
      have npf : pn ≠ fa := by
        intro z
        subst z
        rw [F.ls] at hpn
        cases hpn
      walk_at "rd"
      refine r_tyL (xs := qs.map V.ref) F2.ls ?_
      walk_at "rd"
      refine r_append (xs := qs.map V.ref) F2.ls (by rw [List.length_map, sizeLine_eq]; omega) ?_
      have en := BR.take_next hr'
      refine ⟨some (.ref p), pn, qs ++ [pn], fun b' o z => ?_, ?_, npf, ?_, fun p' hp' => ?_, rfl⟩
      · rw [upd_ne (ne_of_none z nfa)]
        exact sn _ _ (S _ _ z)
      · rw [upd_ne npf, en, rdl_snoc]
        exact hn
      · rw [en, rds_snoc]
        exact F2.pushL (fun p' hp' => (hq p' hp').2) npf hn
      · rcases List.mem_append.mp hp' with hp' | hp'
        · exact hq p' hp'
        · have : p' = pn := by simpa using hp'
          subst this
          exact ⟨(show Same H H' from S).free hpn, npf⟩
    · rintro σ' H' ⟨x1, hc, qs, S, hhc, hne, F, hq, rfl⟩
      walk_at "rd"
      rw [List.length_map, R.rw.ln, List.take_length] at F
      exact q fa H' qs nfa S F hq

theorem ok_friendly_many {P : Program} {w : World} {K : PySem.W.Frag} {mg : Str → Option Value} {base : Heap} (T : Txt mg) (U : Up K mg "friendly_many" s_friendly_many ["count", "friends", "row"]) (C_roads : Callee P w K mg base 8 "roads" ["count", "friends", "row"] (spRoads)) : Callee P w K mg base 9 "friendly_many" ["count", "friends", "row"] (spFrM) := by
  have sc := sc_friendly_many
  refine Callee.of (k := 8) U sc (fun vs H Q E h => ?_) (fun f cdv A outer s H vs Q E hr h => ?_)
  · obtain ⟨c, f, a, ps, rs, rfl, _⟩ := h; rfl
  · obtain ⟨c, f, a, ps, rs, rfl, R, q⟩ := h
    have hu := hr.units
    refine ⟨_, (pss_cons (ps_set (i := 3) sc.nd rfl (Or.inl rfl) (pe_c C_roads (hr.mono (by decide)) rfl (pa_cons (pv 0) (pa_cons (pv 1) (pa_cons (pv 2) pa_nil)))))
      (pss_cons (ps_if (pt_not (truK (K := K) rfl (pv 3))) (pss_one (ps_ret (pv 1))) pss_nil)
      (pss_one (ps_ret (pe_ix (ixK (K := K) rfl) (pe_ix (ixK (K := K) rfl) (pv 3) (pe_un un_neg pe_int) (fun _ _ => rfl)) pe_int (fun _ _ => rfl)))))), ?_⟩
    rw [show L2.start ["count", "friends", "row", "found"] [V.int c, V.int f, V.ref a] = [some (V.int c), some (V.int f), some (V.ref a), none] from rfl]
    walk_at "rd"
    refine spRoads_i R fun ra H1 qs hra s1 F hq => ?_
    walk_at "rd"
    refine r_truL (xs := qs.map V.ref) F.ls ?_
    have ql := F.ln
    have rl := rds_len c f rs c (one c f 1)
    unfold road at ql F
    by_cases z : rs = []
    · subst z
      have e : qs = [] := by
        rw [show rds c f c (one c f 1) [] = [] from rfl] at ql
        exact List.eq_nil_of_length_eq_zero ql
      subst e
      rw [show (!(List.map V.ref ([] : List Addr)).isEmpty) = false from rfl]
      walk_at "rd"
      have hw : c = 1 := R.wh
      have hf := R.fr
      subst hw
      have ef : frM 1 f [] = f := by
        have : f = 0 ∨ f = 1 := by omega
        rcases this with rfl | rfl <;> rfl
      rw [ef] at q
      exact q _ s1
    · obtain ⟨rs', r, rfl⟩ : ∃ rs' r, rs = rs' ++ [r] := snoc_of z
      rw [rds_snoc] at F ql
      obtain ⟨qs', p, rfl⟩ : ∃ qs' p, qs = qs' ++ [p] := by
        have : qs ≠ [] := by
          rintro rfl
          rw [List.length_append] at ql
          simp at ql
        exact snoc_of this
      have e0 : (!(List.map V.ref (qs' ++ [p])).isEmpty) = true := by simp
      rw [e0]
      walk_at "rd"
      refine r_ix2L (xs := (qs' ++ [p]).map V.ref) (v := .ref p) F.ls (by rw [List.map_append]; exact atI_last _ _) ?_
      walk_at "rd"
      have hl' : qs'.length = (rds c f c (one c f 1) rs').length := by
        rw [List.length_append, List.length_append] at ql
        simp at ql
        exact ql
      obtain ⟨l, hl, hp⟩ := F.it qs'.length p (by simp)
      rw [hl', List.getElem?_append_right (Nat.le_refl _), Nat.sub_self] at hl
      have el : ron c f (lastN c rs') (rdl c f c (one c f 1) rs') r = l := by simpa using hl
      have hw := R.wh
      rw [lastN_snoc] at hw
      have e1 : l[1]? = some (frM c f (rs' ++ [r])) := by
        unfold frM
        rw [rdl_snoc, ← el]
        unfold ron
        rw [hw, mr_get _ (by decide), List.getD_eq_getElem?_getD, mr_get _ (by decide)]; rfl
      refine r_ix2L (xs := (zs l).map V.int) hp (atI_lstN (i := 1) e1) ?_
      exact q _ s1

theorem ok_chance {P : Program} {w : World} {K : PySem.W.Frag} {mg : Str → Option Value} {base : Heap} (T : Txt mg) (U : Up K mg "chance" s_chance ["count", "friends", "row"]) (C_draws : Callee P w K mg base 6 "draws" ["count", "row"] (spDraws)) (C_lowest : Callee P w K mg base 2 "lowest" ["top", "bottom"] (spLow)) (C_friendly_many : Callee P w K mg base 9 "friendly_many" ["count", "friends", "row"] (spFrM)) : Callee P w K mg base 10 "chance" ["count", "friends", "row"] (spChn) := by
  have sc := sc_chance
  refine Callee.of (k := 9) U sc (fun vs H Q E h => ?_) (fun f cdv A outer s H vs Q E hr h => ?_)
  · obtain ⟨c, f, a, ps, rs, rfl, _⟩ := h; rfl
  · obtain ⟨c, f, a, ps, rs, rfl, R, hl, q⟩ := h
    have hu := hr.units
    refine ⟨_, (pss_one (ps_ret (pe_c C_lowest (hr.mono (by decide)) rfl (pa_cons (pe_c C_friendly_many (hr.mono (by decide)) rfl (pa_cons (pv 0) (pa_cons (pv 1) (pa_cons (pv 2) pa_nil)))) (pa_cons (pe_c C_draws (hr.mono (by decide)) rfl (pa_cons (pv 0) (pa_cons (pv 2) pa_nil))) pa_nil))))), ?_⟩
    rw [show L2.start ["count", "friends", "row"] [V.int c, V.int f, V.ref a] = [some (V.int c), some (V.int f), some (V.ref a)] from rfl]
    walk_at "rd"
    refine spFrM_i R fun H1 s1 => ?_
    walk_at "rd"
    refine spDraws_i (R.cr.same s1) fun H2 s2 => ?_
    walk_at "rd"
    have ap := allD_pos R.cr.ft
    refine spLow_i 9000 (by omega) (by rw [Int.natAbs_natCast]; exact hl) (by decide) fun p hp => ?_
    exact q p _ ((s1.tr s2).free hp) ((s1.tr s2).new hp) upd_same

theorem ok_l_begin {P : Program} {w : World} {K : PySem.W.Frag} {mg : Str → Option Value} {base : Heap} (T : Txt mg) (U : Up K mg "_law_begin" s_l_begin ["_law_script"]) : Callee P w K mg base 1 "_law_begin" ["_law_script"] (spBegin K) := by
  have sc := sc_l_begin
  refine Callee.of (k := 0) U sc (fun vs H Q E h => ?_) (fun f cdv A outer s H vs Q E hr h => ?_)
  · obtain ⟨a, ns, rfl, _⟩ := h; rfl
  · obtain ⟨a, ns, rfl, hS, k⟩ := h
    have hu := hr.units
    refine ⟨_, (pss_one (ps_ret (pe_lst (pa_cons (pe_callTy (listK (K := K) rfl) rfl T.b_list bt_list (pa_cons (pv 0) pa_nil)) (pa_cons pe_int (pa_cons pe_int (pa_cons pe_int pa_nil))))))), ?_⟩
    rw [show L2.start ["_law_script"] [V.ref a] = [some (V.ref a)] from rfl]
    walk_at "rd"
    refine r_listL (xs := ns.map V.int) hS ?_
    intro l hl
    walk_at "rd"
    intro d hd
    have hld : l ≠ d := ne_of_none upd_same hd
    have s1 : Same H (upd H l (.lst (ns.map V.int))) := (Same.refl H).new hl
    refine k d l _ (s1.free hd) hl ⟨ns, 0, 0, 17, upd_same, by walk_at "hp", hld, by decide⟩ (s1.new hd)

theorem ok_l_take {P : Program} {w : World} {K : PySem.W.Frag} {mg : Str → Option Value} {base : Heap} (T : Txt mg) (U : Up K mg "_law_take" s_l_take ["_law_draw", "_law_many"]) : Callee P w K mg base 1 "_law_take" ["_law_draw", "_law_many"] (spTake) := by
  have sc := sc_l_take
  refine Callee.of (k := 0) U sc (fun vs H Q E h => ?_) (fun f cdv A outer s H vs Q E hr h => ?_)
  · obtain ⟨d, l, m, rfl, _⟩ := h; rfl
  · obtain ⟨d, l, m, rfl, ⟨ns, i, c, r, hd, hl, hne, hi⟩, hm, hb, k⟩ := h
    have hu := hr.units
    refine ⟨_, (pss_consM (ps_if (PW.pt (pw_and (pt_cmpR (ltK (K := K) rfl hu) (pe_ix (ixK (K := K) rfl) (pv 0) pe_int (fun _ _ => rfl)) (pv 1) (nomark _)) (pw_and1 (pt_cmpR (ltK (K := K) rfl hu) (pe_ix (ixK (K := K) rfl) (pv 0) pe_int (fun _ _ => rfl)) (pe_callB (lenK (K := K) rfl) rfl T.b_len bt_len (pa_cons (pe_ix (ixK (K := K) rfl) (pv 0) pe_int (fun _ _ => rfl)) pa_nil)) (nomark _))))) (pss_cons (ps_set (i := 2) sc.nd rfl (Or.inl rfl) (pe_ix (ixK (K := K) rfl) (pe_ix (ixK (K := K) rfl) (pv 0) pe_int (fun _ _ => rfl)) (pe_ix (ixK (K := K) rfl) (pv 0) pe_int (fun _ _ => rfl)) (fun _ _ => rfl)))
      (pss_cons (ps_asg (pe_op (addK (K := K) rfl) (pe_ix (ixK (K := K) rfl) (pv 0) pe_int (fun _ _ => rfl)) pe_int) (pg_sub (pv 0) pe_int set_list))
      (pss_cons (ps_asg pe_int (pg_sub (pv 0) pe_int set_list))
      (pss_one (ps_if (pt_cmpR op_ge (pe_callB cl_abs rfl T.b_abs bt_abs (pa_cons (pv 2) pa_nil)) (pe_op op_pow pe_int pe_int) (nomark _)) (pss_one (ps_asg (pe_callB cl_abs rfl T.b_abs bt_abs (pa_cons (pv 2) pa_nil)) (pg_sub (pv 0) pe_int set_list))) (pss_one (ps_asg (pe_op op_mod (pe_op (addK (K := K) rfl) (pe_op (addK (K := K) rfl) (pe_op op_mulA (pe_ix (ixK (K := K) rfl) (pv 0) pe_int (fun _ _ => rfl)) pe_int) (pe_op op_mulA (pe_op op_mod (pv 2) pe_int) pe_int)) pe_int) pe_int) (pg_sub (pv 0) pe_int set_list)))))))) pss_nil)
      (pss_cons (ps_if (pt_cmpR op_ge (pe_ix (ixK (K := K) rfl) (pv 0) pe_int (fun _ _ => rfl)) (pv 1) (nomark _)) (pss_cons (ps_set (i := 3) sc.nd rfl (Or.inl rfl) (pe_op op_mod (pe_ix (ixK (K := K) rfl) (pv 0) pe_int (fun _ _ => rfl)) (pv 1)))
      (pss_cons (ps_asg (pe_op op_fdivB (pe_ix (ixK (K := K) rfl) (pv 0) pe_int (fun _ _ => rfl)) (pv 1)) (pg_sub (pv 0) pe_int set_list))
      (pss_one (ps_ret (pv 3))))) pss_nil)
      (pss_cons (ps_asg (pe_op op_mod (pe_op (addK (K := K) rfl) (pe_op op_mulA (pe_ix (ixK (K := K) rfl) (pv 0) pe_int (fun _ _ => rfl)) pe_int) pe_int) pe_int) (pg_sub (pv 0) pe_int set_list))
      (pss_one (ps_ret (pe_op op_mod (pe_op op_fdivB (pe_ix (ixK (K := K) rfl) (pv 0) pe_int (fun _ _ => rfl)) pe_int) (pv 1))))))), ?_⟩
    rw [show L2.start ["_law_draw", "_law_many", "_law_number", "_law_got"] [V.ref d, V.int m] = [some (V.ref d), some (V.int m), none, none] from rfl]
    refine r_seqM (fun σ' H' => (∃ x, σ' = [some (.ref d), some (.int m), x, none]) ∧ (∃ i' c' r' : Int, H' d = some (.lst [.ref l, .int i', .int c', .int r']) ∧ 0 ≤ i') ∧ Fr1 d H H') ?_ ?_
    · walk_at "rd"
      refine r_iteD (fun h1 => ?_) (fun h1 => ?_)
      · walk_at "rd"
        refine r_iteD (fun h2 => ?_) (fun h2 => ?_)
        · walk_at "rd"
          rw [List.length_map] at h2
          refine r_ix2L hl (atI_ints hi h2) ?_
          walk_at "rd"
          refine r_iteD (fun h3 => ?_) (fun h3 => ?_)
          · walk_at "rd"
            exact ⟨⟨_, rfl⟩, ⟨_, _, _, upd_same, by omega⟩, (((Fr1.refl d H).upd).upd).upd⟩
          · walk_at "rd"
            exact ⟨⟨_, rfl⟩, ⟨_, _, _, upd_same, by omega⟩, (((Fr1.refl d H).upd).upd).upd⟩
        · walk_at "rd"
          exact ⟨⟨_, rfl⟩, ⟨_, _, _, hd, by omega⟩, Fr1.refl d H⟩
      · walk_at "rd"
        exact ⟨⟨_, rfl⟩, ⟨_, _, _, hd, by omega⟩, Fr1.refl d H⟩
    · rintro σ1 H1 ⟨⟨x, rfl⟩, ⟨i', c', r', hd1, hi1⟩, fr⟩
      obtain ⟨n, hn1, hn2⟩ := hb
      have hl1 : H1 l = some (.lst (ns.map V.int)) := fr.get hl hne
      walk_at "rd"
      refine r_iteD (fun h1 => ?_) (fun h1 => ?_)
      · walk_at "rd"
        refine r_rI ⟨hm, n, hn1, hn2⟩ ?_
        walk_at "rd"
        refine k _ _ (Int.emod_nonneg _ (by omega)) (Int.emod_lt_of_pos _ hm) ⟨ns, i', _, r', upd_same, ?_, hne, hi1⟩ fr.upd
        walk_at "hp"
      · walk_at "rd"
        refine k _ _ (Int.emod_nonneg _ (by omega)) (Int.emod_lt_of_pos _ hm) ⟨ns, i', c', _, upd_same, ?_, hne, hi1⟩ fr.upd
        walk_at "hp"

theorem ok_l_step {P : Program} {w : World} {K : PySem.W.Frag} {mg : Str → Option Value} {base : Heap} (T : Txt mg) (U : Up K mg "_law_step" s_l_step ["_law_draw", "_law_count", "_law_bench", "_law_most"]) (C_l_take : Callee P w K mg base 1 "_law_take" ["_law_draw", "_law_many"] (spTake)) : Callee P w K mg base 2 "_law_step" ["_law_draw", "_law_count", "_law_bench", "_law_most"] (spStep) := by
  have sc := sc_l_step
  refine Callee.of (k := 1) U sc (fun vs H Q E h => ?_) (fun f cdv A outer s H vs Q E hr h => ?_)
  · obtain ⟨d, l, c, s, m, rfl, _⟩ := h; rfl
  · obtain ⟨d, l, c, s, m, rfl, D, s1, s2, s3, m1, m2, q⟩ := h
    have hu := hr.units
    refine ⟨_, (pss_cons (ps_set (i := 4) sc.nd rfl (Or.inl rfl) (pe_ix (ixK (K := K) rfl) (pe_tup (pa_cons pe_str (pa_cons pe_str (pa_cons pe_str pa_nil)))) (pe_c C_l_take (hr.mono (by decide)) rfl (pa_cons (pv 0) (pa_cons pe_int pa_nil))) (fun _ _ => rfl)))
      (pss_cons (ps_set (i := 5) sc.nd rfl (Or.inl rfl) (pe_cmpR (eqK (K := K) rfl hu) (pe_c C_l_take (hr.mono (by decide)) rfl (pa_cons (pv 0) (pa_cons pe_int pa_nil))) pe_int (nomark _)))
      (pss_cons (ps_set (i := 6) sc.nd rfl (Or.inl rfl) (pe_op (addK (K := K) rfl) (pe_op (addK (K := K) rfl) (pe_op op_fdivB (pv 2) pe_int) pe_int) (pe_c C_l_take (hr.mono (by decide)) rfl (pa_cons (pv 0) (pa_cons (pe_op op_sub (pv 2) (pe_op op_fdivB (pv 2) pe_int)) pa_nil)))))
      (pss_cons (ps_set (i := 7) sc.nd rfl (Or.inl rfl) (pe_op (addK (K := K) rfl) pe_int (pe_c C_l_take (hr.mono (by decide)) rfl (pa_cons (pv 0) (pa_cons (pe_callB (cl_min2 rfl) rfl T.b_min bt_min (pa_cons (pv 2) (pa_cons (pv 3) pa_nil))) pa_nil)))))
      (pss_cons (ps_if (truK (K := K) rfl (pv 5)) (pss_one (ps_ret (pe_tup (pa_cons pe_str (pa_cons (pv 7) pa_nil))))) pss_nil)
      (pss_cons (ps_if (pt_cmpR (eqK (K := K) rfl hu) (pv 4) pe_str (nomark _)) (pss_one (ps_set (i := 7) sc.nd rfl (Or.inl rfl) (pe_op (addK (K := K) rfl) pe_int (pe_c C_l_take (hr.mono (by decide)) rfl (pa_cons (pv 0) (pa_cons (pe_callB (cl_min2 rfl) rfl T.b_min bt_min (pa_cons (pv 1) (pa_cons (pv 3) pa_nil))) pa_nil)))))) pss_nil)
      (pss_cons (ps_if (PW.pt (pw_and (pt_cmpR (eqK (K := K) rfl hu) (pv 4) pe_str (nomark _)) (pw_and1 (pt_cmpR (leK (K := K) rfl hu) (pv 2) pe_int (nomark _))))) (pss_one (ps_ret (pe_tup (pa_cons pe_str (pa_cons (pv 2) (pa_cons (pv 6) (pa_cons (pv 4) pa_nil))))))) pss_nil)
      (pss_cons (ps_if (pt_cmpR (eqK (K := K) rfl hu) (pv 4) pe_str (nomark _)) (pss_one (ps_set (i := 4) sc.nd rfl (Or.inl rfl) pe_str)) pss_nil)
      (pss_one (ps_ret (pe_tup (pa_cons pe_str (pa_cons (pv 7) (pa_cons (pv 6) (pa_cons (pv 4) pa_nil))))))))))))))), ?_⟩
    rw [show L2.start ["_law_draw", "_law_count", "_law_bench", "_law_most", "_law_word", "_law_lot", "_law_needed", "_law_n"] [V.ref d, V.int c, V.int s, V.int m] = [some (V.ref d), some (V.int c), some (V.int s), some (V.int m), none, none, none, none] from rfl]
    walk_at "rd"
    intro tp htp
    have D0 := D.new (o := .tup [.str "council", .str "bench", .str "stay"]) htp
    have fr0 : Fr1 d H (upd H tp (.tup [.str "council", .str "bench", .str "stay"])) := (Fr1.refl d H).new htp
    have ntp := (D.ne htp).1
    walk_at "rd"
    refine spTake_l D0 (by omega) (by omega) fun g1 H1 g10 g11 D1 f1 => ?_
    obtain ⟨w, hw⟩ : ∃ w : Wd, atI [V.str "council", V.str "bench", V.str "stay"] g1 = some (.str (wdS w)) := by
      have : g1 = 0 ∨ g1 = 1 ∨ g1 = 2 := by omega
      rcases this with rfl | rfl | rfl
      · exact ⟨.council, rfl⟩
      · exact ⟨.bench, rfl⟩
      · exact ⟨.stay, rfl⟩
    refine r_ix2T (f1.get upd_same ntp) hw ?_
    walk_at "rd"
    refine spTake_l D1 (by omega) (by omega) fun g2 H2 g20 g21 D2 f2 => ?_
    walk_at "rd"
    refine spTake_l D2 (by omega) (by omega) fun g3 H3 g30 g31 D3 f3 => ?_
    obtain ⟨nd, hnd, nd1, nd2⟩ : ∃ nd : Nat, (s : Int) / 2 + 1 + g3 = (nd : Int) ∧ s < 2 * nd ∧ nd ≤ s := ⟨((s : Int) / 2 + 1 + g3).toNat, by omega, by omega, by omega⟩
    walk_at "rd"
    rw [hnd]
    have hmin : ∀ x : Nat, 1 ≤ x → 0 < (if (m : Int) < (x : Int) then (m : Int) else (x : Int)) ∧ (if (m : Int) < (x : Int) then (m : Int) else (x : Int)) ≤ x ∧ (if (m : Int) < (x : Int) then (m : Int) else (x : Int)) ≤ 60 := fun x hx => by split <;> omega
    have hm1 := hmin s s1
    refine spTake_l D3 (by omega) (by omega) fun g4 H4 g40 g41 D4 f4 => ?_
    have fr4 := ((((fr0.trans f1).trans f2).trans f3).trans f4)
    obtain ⟨n0, hn0, n01, n02, n03⟩ : ∃ n0 : Nat, 1 + g4 = (n0 : Int) ∧ 1 ≤ n0 ∧ n0 ≤ s ∧ n0 ≤ 60 := ⟨(1 + g4).toNat, by omega, by omega, by omega, by omega⟩
    walk_at "rd"
    rw [hn0]
    refine r_iteD (fun h1 => ?_) (fun h1 => ?_)
    · walk_at "rd"
      intro p hp
      exact q p _ (.lot n0) ⟨n01, n03, n02⟩ (D4.new hp) (fr4.new hp) upd_same
    · cases w with
      | council =>
        walk_at "rd"
        refine r_iteD (fun _ => ?_) (fun z => absurd rfl z)
        walk_at "rd"
        have hm2 := hmin c (by omega)
        refine spTake_l D4 (by omega) (by omega) fun g5 H5 g50 g51 D5 f5 => ?_
        obtain ⟨n1, hn1, n11, n12, n13⟩ : ∃ n1 : Nat, 1 + g5 = (n1 : Int) ∧ 1 ≤ n1 ∧ n1 ≤ c ∧ n1 ≤ 60 := ⟨(1 + g5).toNat, by omega, by omega, by omega, by omega⟩
        walk_at "rd"
        rw [hn1]
        refine r_iteD (fun z => absurd z (by decide)) (fun _ => ?_)
        walk_at "rd"
        refine r_iteD (fun z => absurd z (by decide)) (fun _ => ?_)
        walk_at "rd"
        intro p hp
        exact q p _ (.vote n1 nd .council) ⟨n11, n13, n12, nd1, nd2, fun z => (by cases z), fun z => (by cases z)⟩ (D5.new hp) ((fr4.trans f5).new hp) upd_same
      | bench =>
        walk_at "rd"
        refine r_iteD (fun z => absurd z (by decide)) (fun _ => ?_)
        walk_at "rd"
        refine r_iteD (fun z => absurd z (by decide)) (fun _ => ?_)
        walk_at "rd"
        refine r_iteD (fun z => absurd z (by decide)) (fun _ => ?_)
        walk_at "rd"
        intro p hp
        exact q p _ (.vote n0 nd .bench) ⟨n01, n03, by omega, nd1, nd2, fun _ => n02, fun z => (by cases z)⟩ (D4.new hp) (fr4.new hp) upd_same
      | stay =>
        walk_at "rd"
        refine r_iteD (fun z => absurd z (by decide)) (fun _ => ?_)
        walk_at "rd"
        refine r_iteD (fun _ => ?_) (fun z => absurd rfl z)
        walk_at "rd"
        refine r_iteD (fun h5 => ?_) (fun h5 => ?_)
        · walk_at "rd"
          intro p hp
          exact q p _ (.vote s nd .stay) ⟨s1, by omega, s2, nd1, nd2, fun z => (by cases z), fun _ => rfl⟩ (D4.new hp) (fr4.new hp) upd_same
        · walk_at "rd"
          refine r_iteD (fun _ => ?_) (fun z => absurd rfl z)
          walk_at "rd"
          intro p hp
          exact q p _ (.vote n0 nd .council) ⟨n01, n03, by omega, nd1, nd2, fun z => (by cases z), fun z => (by cases z)⟩ (D4.new hp) (fr4.new hp) upd_same

theorem ok_l_last {P : Program} {w : World} {K : PySem.W.Frag} {mg : Str → Option Value} {base : Heap} (T : Txt mg) (U : Up K mg "_law_last" s_l_last ["_law_draw", "_law_bench"]) (C_l_take : Callee P w K mg base 1 "_law_take" ["_law_draw", "_law_many"] (spTake)) : Callee P w K mg base 2 "_law_last" ["_law_draw", "_law_bench"] (spLast) := by
  have sc := sc_l_last
  refine Callee.of (k := 1) U sc (fun vs H Q E h => ?_) (fun f cdv A outer s H vs Q E hr h => ?_)
  · obtain ⟨d, l, c, s, rfl, _⟩ := h; rfl
  · obtain ⟨d, l, c, s, rfl, D, s1, s2, s3, q⟩ := h
    have hu := hr.units
    refine ⟨_, (pss_cons (ps_if (pt_cmpR (eqK (K := K) rfl hu) (pv 1) pe_int (nomark _)) (pss_one (ps_ret (pe_lst pa_nil))) pss_nil)
      (pss_cons (ps_set (i := 2) sc.nd rfl (Or.inl rfl) (pe_op (addK (K := K) rfl) (pe_op (addK (K := K) rfl) (pe_op op_fdivB (pv 1) pe_int) pe_int) (pe_c C_l_take (hr.mono (by decide)) rfl (pa_cons (pv 0) (pa_cons (pe_op op_sub (pv 1) (pe_op op_fdivB (pv 1) pe_int)) pa_nil)))))
      (pss_one (ps_ret (pe_ix (ixK (K := K) rfl) (pe_lst (pa_cons (by exact (pe_lst (pa_cons (pe_tup (pa_cons pe_str (pa_cons pe_int pa_nil))) pa_nil))) (pa_cons (by exact (pe_lst (pa_cons (pe_tup (pa_cons pe_str (pa_cons pe_int (pa_cons (pv 2) (pa_cons pe_str pa_nil))))) pa_nil))) (pa_cons (by exact (pe_lst (pa_cons (pe_tup (pa_cons pe_str (pa_cons pe_int (pa_cons (pv 2) (pa_cons pe_str pa_nil))))) pa_nil))) pa_nil)))) (pe_c C_l_take (hr.mono (by decide)) rfl (pa_cons (pv 0) (pa_cons pe_int pa_nil))) (fun _ _ => rfl)))))), ?_⟩
    rw [show L2.start ["_law_draw", "_law_bench", "_law_needed"] [V.ref d, V.int s] = [some (V.ref d), some (V.int s), none] from rfl]
    walk_at "rd"
    refine r_iteD (fun h1 => ?_) (fun h1 => ?_)
    · walk_at "rd"
      intro p hp
      exact q p _ [] [] trivial (show s = 1 by omega) (by decide) (D.new hp) ((Fr1.refl d H).new hp) hp ⟨upd_same, fun i p' z => by simp at z, rfl⟩
    · walk_at "rd"
      refine spTake_l D (by omega) (by omega) fun g3 H3 g30 g31 D3 f3 => ?_
      obtain ⟨nd, hnd, nd1, nd2⟩ : ∃ nd : Nat, (s : Int) / 2 + 1 + g3 = (nd : Int) ∧ s < 2 * nd ∧ nd ≤ s := ⟨((s : Int) / 2 + 1 + g3).toNat, by omega, by omega, by omega⟩
      walk_at "rd"
      rw [hnd]
      intro t1 ht1
      obtain ⟨G1, eG1, a1, S1⟩ : ∃ G, G = upd H3 t1 (.tup [.str "lot", .int 1]) ∧ G t1 = some (rnO (.lot 1)) ∧ Same H3 G := ⟨_, rfl, upd_same, (Same.refl H3).new ht1⟩
      rw [← eG1]
      walk_at "rd"
      intro l1 hl1
      obtain ⟨G2, eG2, a2, S2⟩ : ∃ G, G = upd G1 l1 (.lst [.ref t1]) ∧ G l1 = some (.lst [.ref t1]) ∧ Same G1 G := ⟨_, rfl, upd_same, (Same.refl G1).new hl1⟩
      rw [← eG2]
      walk_at "rd"
      intro t2 ht2
      obtain ⟨G3, eG3, a3, S3⟩ : ∃ G, G = upd G2 t2 (.tup [.str "vote", .int 1, .int nd, .str "council"]) ∧ G t2 = some (rnO (.vote 1 nd .council)) ∧ Same G2 G := ⟨_, rfl, upd_same, (Same.refl G2).new ht2⟩
      rw [← eG3]
      walk_at "rd"
      intro l2 hl2
      obtain ⟨G4, eG4, a4, S4⟩ : ∃ G, G = upd G3 l2 (.lst [.ref t2]) ∧ G l2 = some (.lst [.ref t2]) ∧ Same G3 G := ⟨_, rfl, upd_same, (Same.refl G3).new hl2⟩
      rw [← eG4]
      walk_at "rd"
      intro t3 ht3
      obtain ⟨G5, eG5, a5, S5⟩ : ∃ G, G = upd G4 t3 (.tup [.str "vote", .int 1, .int nd, .str "bench"]) ∧ G t3 = some (rnO (.vote 1 nd .bench)) ∧ Same G4 G := ⟨_, rfl, upd_same, (Same.refl G4).new ht3⟩
      rw [← eG5]
      walk_at "rd"
      intro l3 hl3
      obtain ⟨G6, eG6, a6, S6⟩ : ∃ G, G = upd G5 l3 (.lst [.ref t3]) ∧ G l3 = some (.lst [.ref t3]) ∧ Same G5 G := ⟨_, rfl, upd_same, (Same.refl G5).new hl3⟩
      rw [← eG6]
      walk_at "rd"
      intro l4 hl4
      obtain ⟨G7, eG7, a7, S7⟩ : ∃ G, G = upd G6 l4 (.lst [.ref l1, .ref l2, .ref l3]) ∧ G l4 = some (.lst [.ref l1, .ref l2, .ref l3]) ∧ Same G6 G := ⟨_, rfl, upd_same, (Same.refl G6).new hl4⟩
      rw [← eG7]
      clear eG1 eG2 eG3 eG4 eG5 eG6 eG7
      have T2 := S1.tr S2
      have T3 := T2.tr S3
      have T4 := T3.tr S4
      have T5 := T4.tr S5
      have T6 := T5.tr S6
      have T7 := T6.tr S7
      have D4 := D3.same T7
      walk_at "rd"
      refine spTake_l D4 (by omega) (by omega) fun g5 H5 g50 g51 D5 f5 => ?_
      have nd' : ∀ (p : Addr) (G : Hp), Same H3 G → G p = none → p ≠ d := fun p G S z => ((D3.same S).ne z).1
      have fr : Fr1 d H H5 := (f3.same T7).trans f5
      have fin : ∀ (p t : Addr) (r : Rn), Fit c s r → r.n = 1 → H3 p = none → p ≠ d → H5 p = some (.lst [.ref t]) → H5 t = some (rnO r) → Q (.ref p) H5 := fun p t r h1 h2 h3 h4 h5 h6 =>
        q p H5 [t] [r] ⟨h1, trivial⟩ h2 (by simp) D5 fr (f3.free h3 h4) ⟨h5, fun i p' z => by
          cases i with
          | zero => simp at z; subst z; exact ⟨r, rfl, h6⟩
          | succ i => simp at z, rfl⟩
      have n4 := nd' l4 G6 T6 hl4
      have g := (show g5 = 0 ∨ g5 = 1 ∨ g5 = 2 by omega)
      rcases g with rfl | rfl | rfl
      · refine r_ix2L (f5.get a7 n4) rfl ?_
        refine fin l1 t1 (.lot 1) ⟨by decide, by decide, s1⟩ rfl (S1.free hl1) (nd' l1 G1 S1 hl1) (f5.get (S7 _ _ (S6 _ _ (S5 _ _ (S4 _ _ (S3 _ _ a2))))) (nd' l1 G1 S1 hl1)) (f5.get (S7 _ _ (S6 _ _ (S5 _ _ (S4 _ _ (S3 _ _ (S2 _ _ a1)))))) (nd' t1 H3 (Same.refl H3) ht1))
      · refine r_ix2L (f5.get a7 n4) rfl ?_
        refine fin l2 t2 (.vote 1 nd .council) ⟨by decide, by decide, by omega, nd1, nd2, fun z => (by cases z), fun z => (by cases z)⟩ rfl (T3.free hl2) (nd' l2 G3 T3 hl2) (f5.get (S7 _ _ (S6 _ _ (S5 _ _ a4))) (nd' l2 G3 T3 hl2)) (f5.get (S7 _ _ (S6 _ _ (S5 _ _ (S4 _ _ a3)))) (nd' t2 G2 T2 ht2))
      · refine r_ix2L (f5.get a7 n4) rfl ?_
        refine fin l3 t3 (.vote 1 nd .bench) ⟨by decide, by decide, by omega, nd1, nd2, fun z => (by omega), fun z => (by cases z)⟩ rfl (T5.free hl3) (nd' l3 G5 T5 hl3) (f5.get (S7 _ _ a6) (nd' l3 G5 T5 hl3)) (f5.get (S7 _ _ (S6 _ _ a5)) (nd' t3 G4 T4 ht3))

theorem ok_l_whole_row {P : Program} {w : World} {K : PySem.W.Frag} {mg : Str → Option Value} {base : Heap} (T : Txt mg) (U : Up K mg "_law_whole_row" s_l_whole_row ["_law_draw", "_law_count", "_law_many", "_law_most"]) (C_l_take : Callee P w K mg base 1 "_law_take" ["_law_draw", "_law_many"] (spTake)) (C_l_step : Callee P w K mg base 2 "_law_step" ["_law_draw", "_law_count", "_law_bench", "_law_most"] (spStep)) (C_l_last : Callee P w K mg base 2 "_law_last" ["_law_draw", "_law_bench"] (spLast)) : Callee P w K mg base 3 "_law_whole_row" ["_law_draw", "_law_count", "_law_many", "_law_most"] (spWholeRow) := by
  have sc := sc_l_whole_row
  refine Callee.of (k := 2) U sc (fun vs H Q E h => ?_) (fun f cdv A outer s H vs Q E hr h => ?_)
  · obtain ⟨d, l, c, k, m, rfl, _⟩ := h; rfl
  · obtain ⟨d, l, c, k, m, rfl, D, c1, c2, k1, m1, m2, q⟩ := h
    have hu := hr.units
    refine ⟨_, (pss_cons (ps_set (i := 4) sc.nd rfl (Or.inl rfl) (pv 1))
      (pss_cons (ps_set (i := 5) sc.nd rfl (Or.inl rfl) (pe_lst pa_nil))
      (pss_cons (ps_for PassesOwn.never rfl (pi_range1 rfl T.b_range (pa_cons (pe_c C_l_take (hr.mono (by decide)) rfl (pa_cons (pv 0) (pa_cons (pe_op (addK (K := K) rfl) (pv 2) pe_int) pa_nil))) pa_nil)) (pg_name (i := 6) sc.nd rfl (Or.inl rfl)) (pss_cons (ps_expr (pe_bm PySem.F.plainAttrs_list PySem.F.slot_list_append PySem.F.type_list_append mt_append (pv 5) (pa_cons (pe_c C_l_step (hr.mono (by decide)) rfl (pa_cons (pv 0) (pa_cons (pv 1) (pa_cons (pv 4) (pa_cons (pv 3) pa_nil))))) pa_nil)))
      (pss_one (ps_set (i := 4) sc.nd rfl (Or.inl rfl) (pe_ix (ixK (K := K) rfl) (pe_ix (ixK (K := K) rfl) (pv 5) (pe_un un_neg pe_int) (fun _ _ => rfl)) pe_int (fun _ _ => rfl))))))
      (pss_one (ps_ret (pe_op (addK (K := K) rfl) (pv 5) (pe_c C_l_last (hr.mono (by decide)) rfl (pa_cons (pv 0) (pa_cons (pv 4) pa_nil))))))))), ?_⟩
    rw [show L2.start ["_law_draw", "_law_count", "_law_many", "_law_most", "_law_bench", "_law_row", "_law_k"] [V.ref d, V.int c, V.int k, V.int m] = [some (V.ref d), some (V.int c), some (V.int k), some (V.int m), none, none, none] from rfl]
    walk_at "rd"
    intro a ha
    have D0 := D.new (o := .lst []) ha
    have nad := (D.ne ha).1
    have fr0 : Fr1 d H (upd H a (.lst [])) := (Fr1.refl d H).new ha
    walk_at "rd"
    refine spTake_l D0 (by omega) (by omega) fun g1 H1 g10 g11 D1 f1 => ?_
    refine forR (fun i σ' H' => ∃ (ps : List Addr) (rs : List Rn) (x : Option V), RwAt H' a ps rs ∧ FitR c c rs ∧ rs.length = i ∧ DrL H' d l ∧ (∀ b o, H b = some o → b ≠ d → H' b = some o) ∧ σ' = [some (.ref d), some (.int c), some (.int k), some (.int m), some (.int (lastN c rs : Nat)), some (.ref a), x]) (by omega) (by omega)
      ⟨[], [], none, ⟨f1.get upd_same nad, fun i p z => by simp at z, rfl⟩, trivial, rfl, D1, fr0.trans f1, rfl⟩ ?_ ?_
    · rintro i σ' H' hi ⟨ps, rs, x, F, ft, hl, D', fr, rfl⟩
      have lb := lastN_le ft c1 (Nat.le_refl _)
      have hpl := F.ln
      walk_at "rd"
      refine r_tyL (xs := ps.map V.ref) F.ls ?_
      walk_at "rd"
      refine spStep_i D' lb.1 lb.2 c2 m1 m2 fun p H2 r fit D2 f2 hp => ?_
      have F2 := F.fr1 rnO_tup D' nad f2
      walk_at "rd"
      refine r_append (xs := ps.map V.ref) F2.ls (by rw [List.length_map, sizeLine_eq]; omega) ?_
      walk_at "rd"
      have F3 := F2.push rnO_tup hp
      have npa : a ≠ l := by
        obtain ⟨_, xs, z⟩ := D.some
        exact (ne_of_none z ha).symm
      have e1 : atI (ps.map V.ref ++ [V.ref p]) (-1) = some (.ref p) := atI_last _ _
      refine r_ix2L (xs := ps.map V.ref ++ [.ref p]) upd_same e1 ?_
      walk_at "rd"
      obtain ⟨xs, e2, e3⟩ := rn_n r
      have hpa : p ≠ a := by rw [e2] at hp; exact ne_kind hp F2.ls tup_lst
      refine r_ix2T (xs := xs) (by rw [upd_ne hpa, hp, e2]) e3 ?_
      walk_at "rd"
      refine ⟨_, _, some (.int i), F3, ft.snoc fit, by rw [List.length_append, hl]; rfl, D2.upd nad npa, fun b o z n => ?_, ?_⟩
      · rw [upd_ne (ne_of_none z ha)]
        exact f2 b o (fr b o z n) n
      · rw [lastN_snoc]; rfl
    · rintro σ' H' ⟨ps, rs, x, F, ft, hl, D', fr, rfl⟩
      have lb := lastN_le ft c1 (Nat.le_refl _)
      walk_at "rd"
      refine spLast_i c D' lb.1 lb.2 c2 fun p H2 ps' rs' ft' hl' ln' D2 f2 hpn F' => ?_
      have F2 := F.fr1 rnO_tup D' nad f2
      have l1 := F.ln
      have l2 := F'.ln
      refine r_addBL (xs := ps.map V.ref) (ys := ps'.map V.ref) F2.ls F'.ls (by rw [List.length_map, List.length_map, sizeLine_eq]; omega) fun p2 hp2 => ?_
      have fr2 : Fr1 d H H2 := fun b o z n => f2 b o (fr b o z n) n
      refine q p2 _ _ _ ⟨F2.cat F' hp2, c1, c2, FitR.app.mpr ⟨ft, ft'⟩, by rw [List.length_append]; omega⟩ (by rw [List.length_append]; omega) (by rw [lastN_append]; exact hl') (D2.new hp2) (fr2.new hp2) (fr2.free hp2 (D2.ne hp2).1)

theorem ok_l_council {P : Program} {w : World} {K : PySem.W.Frag} {mg : Str → Option Value} {base : Heap} (T : Txt mg) (U : Up K mg "_law_council" s_l_council ["_law_draw", "_law_most"]) (C_l_take : Callee P w K mg base 1 "_law_take" ["_law_draw", "_law_many"] (spTake)) : Callee P w K mg base 2 "_law_council" ["_law_draw", "_law_most"] (spCouncil) := by
  have sc := sc_l_council
  refine Callee.of (k := 1) U sc (fun vs H Q E h => ?_) (fun f cdv A outer s H vs Q E hr h => ?_)
  · obtain ⟨d, l, m, rfl, _⟩ := h; rfl
  · obtain ⟨d, l, m, rfl, D, m1, m2, q⟩ := h
    have hu := hr.units
    refine ⟨_, (pss_cons (ps_set (i := 2) sc.nd rfl (Or.inl rfl) (pe_op (addK (K := K) rfl) pe_int (pe_c C_l_take (hr.mono (by decide)) rfl (pa_cons (pv 0) (pa_cons (pv 1) pa_nil)))))
      (pss_one (ps_ret (pe_tup (pa_cons (pv 2) (pa_cons (pe_c C_l_take (hr.mono (by decide)) rfl (pa_cons (pv 0) (pa_cons (pe_op (addK (K := K) rfl) (pv 2) pe_int) pa_nil))) pa_nil)))))), ?_⟩
    rw [show L2.start ["_law_draw", "_law_most", "_law_count"] [V.ref d, V.int m] = [some (V.ref d), some (V.int m), none] from rfl]
    walk_at "rd"
    refine spTake_l D (by omega) (by omega) fun g1 H1 g10 g11 D1 f1 => ?_
    obtain ⟨c, hc, c1, c2⟩ : ∃ c : Nat, 1 + g1 = (c : Int) ∧ 1 ≤ c ∧ c ≤ m := ⟨(1 + g1).toNat, by omega, by omega, by omega⟩
    walk_at "rd"
    rw [hc]
    refine spTake_l D1 (by omega) (by omega) fun g2 H2 g20 g21 D2 f2 => ?_
    obtain ⟨f, rfl⟩ : ∃ f : Nat, g2 = f := ⟨g2.toNat, by omega⟩
    walk_at "rd"
    intro p hp
    exact q p _ c f c1 c2 (by omega) (D2.new hp) ((f1.trans f2).new hp) upd_same

theorem ok_l_int {P : Program} {w : World} {K : PySem.W.Frag} {mg : Str → Option Value} {base : Heap} (T : Txt mg) (U : Up K mg "_law_int" s_l_int ["_law_thing"]) : Callee P w K mg base 1 "_law_int" ["_law_thing"] (spInt) := by
  have sc := sc_l_int
  refine Callee.of (k := 0) U sc (fun vs H Q E h => ?_) (fun f cdv A outer s H vs Q E hr h => ?_)
  · obtain ⟨n, rfl, _⟩ := h; rfl
  · obtain ⟨n, rfl, k⟩ := h
    have hu := hr.units
    refine ⟨_, (pss_one (ps_ret (pe_and (pe_callB (isiK (K := K) rfl) rfl T.b_isinstance bt_isinstance (pa_cons (pv 0) (pa_cons (pe_bltn rfl T.b_int bt_int (v := .ty "int") rfl) pa_nil))) (pe_one (pe_not (pe_callB (isiK (K := K) rfl) rfl T.b_isinstance bt_isinstance (pa_cons (pv 0) (pa_cons (pe_bltn rfl T.b_bool bt_bool (v := .ty "bool") rfl) pa_nil)))))))), ?_⟩
    rw [show L2.start ["_law_thing"] [V.int n] = [some (V.int n)] from rfl]
    walk_at "rd"
    exact k

theorem ok_l_is_part {P : Program} {w : World} {K : PySem.W.Frag} {mg : Str → Option Value} {base : Heap} (T : Txt mg) (U : Up K mg "_law_is_part" s_l_is_part ["_law_found", "_law_due"]) (C_l_int : Callee P w K mg base 1 "_law_int" ["_law_thing"] (spInt)) : Callee P w K mg base 2 "_law_is_part" ["_law_found", "_law_due"] (spPart) := by
  have sc := sc_l_is_part
  refine Callee.of (k := 1) U sc (fun vs H Q E h => ?_) (fun f cdv A outer s H vs Q E hr h => ?_)
  · obtain ⟨p, r, a, b, c, e, rfl, _⟩ := h; rfl
  · obtain ⟨p, r, a, b, c, e, rfl, h1, h2, q⟩ := h
    have hu := hr.units
    refine ⟨_, (pss_cons (ps_if (PW.pt (pw_or (pt_not (truK (K := K) rfl (pe_callB (isiK (K := K) rfl) rfl T.b_isinstance bt_isinstance (pa_cons (pv 0) (pa_cons (pe_bltn rfl T.b_tuple bt_tuple (v := .ty "tuple") rfl) pa_nil))))) (pw_or (pt_cmpR (neK (K := K) rfl hu) (pe_callB (lenK (K := K) rfl) rfl T.b_len bt_len (pa_cons (pv 0) pa_nil)) pe_int (nomark _)) (pw_or (pt_not (truK (K := K) rfl (pe_c C_l_int (hr.mono (by decide)) rfl (pa_cons (pe_ix (ixK (K := K) rfl) (pv 0) pe_int (fun _ _ => rfl)) pa_nil)))) (pw_or1 (pt_not (truK (K := K) rfl (pe_c C_l_int (hr.mono (by decide)) rfl (pa_cons (pe_ix (ixK (K := K) rfl) (pv 0) pe_int (fun _ _ => rfl)) pa_nil))))))))) (pss_one (ps_ret pe_bl)) pss_nil)
      (pss_one (ps_ret (pe_cmpR (eqK (K := K) rfl hu) (pv 0) (pv 1) (nomark _))))), ?_⟩
    rw [show L2.start ["_law_found", "_law_due"] [V.ref p, V.ref r] = [some (V.ref p), some (V.ref r)] from rfl]
    walk_at "rd"
    refine r_iteN (fun z => absurd rfl z) (fun _ => ?_)
    walk_at "rd"
    refine spInt_i ?_
    walk_at "rd"
    refine spInt_i ?_
    walk_at "rd"
    exact r_eqTI (ns := [a, b]) (ms := [c, e]) h1 h2 q

theorem ok_l_lowest {P : Program} {w : World} {K : PySem.W.Frag} {mg : Str → Option Value} {base : Heap} (T : Txt mg) (U : Up K mg "_law_lowest" s_l_lowest ["_law_top", "_law_bottom"]) : Callee P w K mg base 1 "_law_lowest" ["_law_top", "_law_bottom"] (spLow) := by
  have sc := sc_l_lowest
  refine Callee.of (k := 0) U sc (fun vs H Q E h => ?_) (fun f cdv A outer s H vs Q E hr h => ?_)
  · obtain ⟨t, b, rfl, _⟩ := h; rfl
  · obtain ⟨t, b, rfl, hb, ⟨n, hn, hn2⟩, q⟩ := h
    have hu := hr.units
    refine ⟨_, (pss_cons (ps_set (i := 2) sc.nd rfl (Or.inl rfl) (pe_callB cl_abs rfl T.b_abs bt_abs (pa_cons (pv 0) pa_nil)))
      (pss_cons (ps_set (i := 3) sc.nd rfl (Or.inl rfl) (pv 1))
      (pss_cons (ps_while PassesOwn.never (pt_cmpR op_gt (pv 3) pe_int (nomark _)) (pss_one (ps_par (i := 2) (j := 3) rfl sc.nd rfl rfl (by decide) rfl rfl (pa_cons (pv 3) (pa_cons (pe_op op_mod (pv 2) (pv 3)) pa_nil)) rfl)))
      (pss_one (ps_ret (pe_tup (pa_cons (pe_op op_fdivB (pv 0) (pv 2)) (pa_cons (pe_op op_fdivB (pv 1) (pv 2)) pa_nil)))))))), ?_⟩
    rw [show L2.start ["_law_top", "_law_bottom", "_law_one", "_law_other"] [V.int t, V.int b] = [some (V.int t), some (V.int b), none, none] from rfl]
    walk_at "rd"
    have g0 := gI_pos (a := t) hb
    have gd : CDivB 0 (gI t b) := .of n g0 (Nat.lt_of_le_of_lt (gI_le hb) hn) hn2
    refine r_while (fun m σ' H' => ∃ x y : Int, m = y.toNat ∧ 0 ≤ x ∧ 0 ≤ y ∧ gI x y = gI t b ∧ H' = H ∧ σ' = [some (.int t), some (.int b), some (.int x), some (.int y)]) b.toNat ⟨_, b, rfl, by split <;> omega, by omega, gI_abs t b, rfl, rfl⟩ ?_
    rintro m σ' H' ⟨x, y, rfl, hx, hy, e, rfl, rfl⟩
    walk_at "rd"
    refine r_iteD (fun h1 => ?_) (fun h1 => ?_)
    · refine ⟨_, fun _ _ z => z, ?_⟩
      walk_at "rd"
      have l1 := Int.emod_lt_of_pos x (show 0 < y by omega)
      have l2 := Int.emod_nonneg x (show y ≠ 0 by omega)
      exact ⟨_, by omega, y, x % y, rfl, hy, l2, (gI_rec hx (by omega)).trans e, rfl, rfl⟩
    · have h2 : y = 0 := by omega
      subst h2
      rw [gI_zero] at e
      have e2 : x = gI t b := by omega
      subst e2
      walk_at "rd"
      refine r_rI gd ?_
      walk_at "rd"
      refine r_rI gd ?_
      walk_at "rd"
      exact q

theorem ok_law {P : Program} {w : World} {K : PySem.W.Frag} {mg : Str → Option Value} {base : Heap} (T : Txt mg) {f : Addr} {fd : FuncData} (U : Fun K "law" "law" s_law f fd) (C_chance : Callee P w K mg base 10 "chance" ["count", "friends", "row"] (spChn)) (C_l_begin : Callee P w K mg base 1 "_law_begin" ["_law_script"] (spBegin K)) (C_l_take : Callee P w K mg base 1 "_law_take" ["_law_draw", "_law_many"] (spTake)) (C_l_whole_row : Callee P w K mg base 3 "_law_whole_row" ["_law_draw", "_law_count", "_law_many", "_law_most"] (spWholeRow)) (C_l_council : Callee P w K mg base 2 "_law_council" ["_law_draw", "_law_most"] (spCouncil)) (C_l_int : Callee P w K mg base 1 "_law_int" ["_law_thing"] (spInt)) (C_l_is_part : Callee P w K mg base 2 "_law_is_part" ["_law_found", "_law_due"] (spPart)) (C_l_lowest : Callee P w K mg base 1 "_law_lowest" ["_law_top", "_law_bottom"] (spLow)) : FnOk P w K mg base CX0 11 f fd ["_law_script"] (spLaw K) := by
  have sc := sc_law
  refine U.ok (k := 10) sc (fun vs H Q E h => ?_) (fun cdv A outer s H vs Q E hr h => ?_)
  · exact spLaw_len h
  · obtain ⟨a, ns, rfl, hS, hn, q⟩ := h
    have hu := hr.units
    refine ⟨_, (pss_cons (ps_set (i := 1) sc.nd rfl (Or.inl rfl) (pe_c C_l_begin (hr.mono (by decide)) rfl (pa_cons (pv 0) pa_nil)))
      (pss_cons (ps_asg (pe_c C_l_council (hr.mono (by decide)) rfl (pa_cons (pv 1) (pa_cons (pe_ix (ixK (K := K) rfl) (pe_tup (pa_cons pe_int (pa_cons pe_int (pa_cons pe_int pa_nil)))) (pe_c C_l_take (hr.mono (by decide)) rfl (pa_cons (pv 1) (pa_cons pe_int pa_nil))) (fun _ _ => rfl)) pa_nil))) (gtupK (K := K) (n := 2) rfl rfl (pgs_cons (pg_name (i := 2) sc.nd rfl (Or.inl rfl)) (pgs_cons (pg_name (i := 3) sc.nd rfl (Or.inl rfl)) pgs_nil))))
      (pss_cons (ps_set (i := 4) sc.nd rfl (Or.inl rfl) (pe_c C_l_whole_row (hr.mono (by decide)) rfl (pa_cons (pv 1) (pa_cons (pv 2) (pa_cons pe_int (pa_cons (pe_ix (ixK (K := K) rfl) (pe_tup (pa_cons pe_int (pa_cons pe_int (pa_cons pe_int pa_nil)))) (pe_c C_l_take (hr.mono (by decide)) rfl (pa_cons (pv 1) (pa_cons pe_int pa_nil))) (fun _ _ => rfl)) pa_nil))))))
      (pss_cons (ps_set (i := 5) sc.nd rfl (Or.inl rfl) (pe_c C_chance (hr.mono (by decide)) rfl (pa_cons (pv 2) (pa_cons (pv 3) (pa_cons (pv 4) pa_nil)))))
      (pss_cons (ps_set (i := 6) sc.nd rfl (Or.inl rfl) (pe_c C_chance (hr.mono (by decide)) rfl (pa_cons (pv 2) (pa_cons (pe_op op_sub (pv 2) (pv 3)) (pa_cons (pv 4) pa_nil)))))
      (pss_cons (ps_for PassesOwn.never rfl (piTK (K := K) rfl (pe_tup (pa_cons (pv 5) (pa_cons (pv 6) pa_nil)))) (pg_name (i := 7) sc.nd rfl (Or.inl rfl)) (pss_cons (ps_if (PW.pt (pw_or (pt_not (truK (K := K) rfl (pe_callB (isiK (K := K) rfl) rfl T.b_isinstance bt_isinstance (pa_cons (pv 7) (pa_cons (pe_bltn rfl T.b_tuple bt_tuple (v := .ty "tuple") rfl) pa_nil))))) (pw_or (pt_cmpR (neK (K := K) rfl hu) (pe_callB (lenK (K := K) rfl) rfl T.b_len bt_len (pa_cons (pv 7) pa_nil)) pe_int (nomark _)) (pw_or (pt_not (truK (K := K) rfl (pe_c C_l_int (hr.mono (by decide)) rfl (pa_cons (pe_ix (ixK (K := K) rfl) (pv 7) pe_int (fun _ _ => rfl)) pa_nil)))) (pw_or1 (pt_not (truK (K := K) rfl (pe_c C_l_int (hr.mono (by decide)) rfl (pa_cons (pe_ix (ixK (K := K) rfl) (pv 7) pe_int (fun _ _ => rfl)) pa_nil))))))))) (pss_one (ps_ret pe_bl)) pss_nil)
      (pss_one (ps_if (PW.pt (pw_or (pt_cmpR (ltK (K := K) rfl hu) (pe_ix (ixK (K := K) rfl) (pv 7) pe_int (fun _ _ => rfl)) pe_int (nomark _)) (pw_or (pt_not (pt_chain (leK (K := K) rfl hu) (leK (K := K) rfl hu) pe_int (pe_ix (ixK (K := K) rfl) (pv 7) pe_int (fun _ _ => rfl)) (pe_ix (ixK (K := K) rfl) (pv 7) pe_int (fun _ _ => rfl)))) (pw_or1 (pt_cmpR (neK (K := K) rfl hu) (pe_c C_l_lowest (hr.mono (by decide)) rfl (pa_cons (pe_ix (ixK (K := K) rfl) (pv 7) pe_int (fun _ _ => rfl)) (pa_cons (pe_ix (ixK (K := K) rfl) (pv 7) pe_int (fun _ _ => rfl)) pa_nil))) (pv 7) (nomark _)))))) (pss_one (ps_ret pe_bl)) pss_nil))))
      (pss_cons (ps_if (pt_cmpR (neK (K := K) rfl hu) (pe_op (addK (K := K) rfl) (pe_op op_mulA (pe_ix (ixK (K := K) rfl) (pv 5) pe_int (fun _ _ => rfl)) (pe_ix (ixK (K := K) rfl) (pv 6) pe_int (fun _ _ => rfl))) (pe_op op_mulA (pe_ix (ixK (K := K) rfl) (pv 6) pe_int (fun _ _ => rfl)) (pe_ix (ixK (K := K) rfl) (pv 5) pe_int (fun _ _ => rfl)))) (pe_op op_mulA (pe_ix (ixK (K := K) rfl) (pv 5) pe_int (fun _ _ => rfl)) (pe_ix (ixK (K := K) rfl) (pv 6) pe_int (fun _ _ => rfl))) (nomark _)) (pss_one (ps_ret pe_bl)) pss_nil)
      (pss_one (ps_ret (pe_and (pe_c C_l_is_part (hr.mono (by decide)) rfl (pa_cons (pe_c C_chance (hr.mono (by decide)) rfl (pa_cons (pv 2) (pa_cons pe_int (pa_cons (pv 4) pa_nil)))) (pa_cons (pe_tup (pa_cons pe_int (pa_cons pe_int pa_nil))) pa_nil))) (pe_one (pe_c C_l_is_part (hr.mono (by decide)) rfl (pa_cons (pe_c C_chance (hr.mono (by decide)) rfl (pa_cons (pv 2) (pa_cons (pv 2) (pa_cons (pv 4) pa_nil)))) (pa_cons (pe_tup (pa_cons pe_int (pa_cons pe_int pa_nil))) pa_nil)))))))))))))), ?_⟩
    rw [show L2.start ["_law_script", "_law_draw", "_law_count", "_law_friends", "_law_row", "_law_mine", "_law_theirs", "_law_one"] [V.ref a] = [some (V.ref a), none, none, none, none, none, none, none] from rfl]
    walk_at "rd"
    refine spBegin_l hS fun d l H1 hd hl D1 s1 => ?_
    walk_at "rd"
    intro tp htp
    have D1' := D1.new (o := .tup [.int 12, .int 12, .int 300]) htp
    have ntp := (D1.ne htp).1
    walk_at "rd"
    refine spTake_l D1' (by omega) (by omega) fun g1 H2 g10 g11 D2 f2 => ?_
    obtain ⟨v, hv, hv2⟩ := atI3 (a := 12) (b := 12) (c := 300) g10 g11
    refine r_ix2T (f2.get upd_same ntp) hv ?_
    walk_at "rd"
    obtain ⟨m, rfl⟩ : ∃ m : Nat, v = m := ⟨v.toNat, by omega⟩
    refine spCouncil_i D2 (by omega) (by omega) fun pc H3 c f c1 c2 hf D3 f3 hpc => ?_
    walk_at "rd"
    intro tq htq
    have D3' := D3.new (o := .tup [.int 9, .int 9, .int 60]) htq
    have ntq := (D3.ne htq).1
    walk_at "rd"
    refine spTake_l D3' (by omega) (by omega) fun g3 H4 g30 g31 D4 f4 => ?_
    obtain ⟨v2, hv2', hv3⟩ := atI3 (a := 9) (b := 9) (c := 60) g30 g31
    refine r_ix2T (f4.get upd_same ntq) hv2' ?_
    walk_at "rd"
    obtain ⟨mo, rfl⟩ : ∃ m : Nat, v2 = m := ⟨v2.toNat, by omega⟩
    refine spWholeRow_i (k := 7) D4 c1 (by omega) (by decide) (by omega) (by omega) fun b H5 ps rs R5 hlen hw D5 f5 hb => ?_
    have hbd := allD_bd R5.ft (by omega) (by omega)
    have ap := allD_pos R5.ft
    have api : (0 : Int) < (allD c rs : Nat) := by omega
    walk_at "rd"
    refine spChn_i ⟨R5, hw, hf⟩ hbd fun pm H6 hpm s6 h6 => ?_
    walk_at "rd"
    rw [show (c : Int) - (f : Int) = ((c - f : Nat) : Int) by omega]
    have hf' : c - f ≤ c := by omega
    refine spChn_i ⟨R5.same s6, hw, hf'⟩ hbd fun pt H7 hpt s7 h7 => ?_
    have h67 := s7 _ _ h6
    have R7 := R5.same (s6.tr s7)
    obtain ⟨z1, z2⟩ := chF_sz hf R5.ft hw hbd
    obtain ⟨z3, z4⟩ := chF_sz hf' R5.ft hw hbd
    have both := lo_both (s := (frM c f rs : Nat)) (t := (frM c (c - f) rs : Nat)) api (by have := frM_both hf R5.ft hw; omega)
    have good : ∀ f', f' ≤ c → 0 < (chF c f' rs).2 ∧ 0 ≤ (chF c f' rs).1 ∧ (chF c f' rs).1 ≤ (chF c f' rs).2 ∧ loT (chF c f' rs).1 (chF c f' rs).2 = (chF c f' rs).1 ∧ loB (chF c f' rs).1 (chF c f' rs).2 = (chF c f' rs).2 := fun f' hf' => by
      have h3 := frM_le hf' R5.ft hw
      have h4 := lo_le (t := (frM c f' rs : Nat)) api (by omega) (by omega)
      exact ⟨loB_pos api, h4.1, h4.2, (lo_low api).1, (lo_low api).2⟩
    have g1' := good f hf
    have g2' := good (c - f) hf'
    have t0 := lo_zero api
    have t1 := lo_one api
    have e0 : chF c 0 rs = (0, 1) := by unfold chF; rw [frM_none R5.ft]; exact Prod.ext t0.1 t0.2
    have e1 : chF c c rs = (1, 1) := by unfold chF; rw [frM_all R5.ft hw]; exact Prod.ext t1.1 t1.2
    have both' : (chF c f rs).1 * (chF c (c - f) rs).2 + (chF c (c - f) rs).1 * (chF c f rs).2 = (chF c f rs).2 * (chF c (c - f) rs).2 := both
    generalize chF c f rs = x at *
    generalize chF c (c - f) rs = y at *
    have h67' : H7 pm = some (.tup [.int x.1, .int x.2]) := h67
    have h7' : H7 pt = some (.tup [.int y.1, .int y.2]) := h7
    walk_at "rd"
    intro tt htt
    walk_at "rd"
    have s8 := (Same.refl H7).new (o := .tup [.ref pm, .ref pt]) htt
    have h8 : upd H7 tt (.tup [.ref pm, .ref pt]) tt = some (.tup [.ref pm, .ref pt]) := upd_same
    generalize upd H7 tt (.tup [.ref pm, .ref pt]) = H8 at s8 h8 ⊢
    refine forT (a := tt) (xs := [.ref pm, .ref pt]) (fun i σ' H' => ∃ o : Option V, Same H8 H' ∧ σ' = [some (.ref a), some (.ref d), some (.int c), some (.int f), some (.ref b), some (.ref pm), some (.ref pt), o]) ⟨none, Same.refl H8, rfl⟩ (fun i σ' H' _ ⟨_, s, _⟩ => SqT.of (s _ _ h8)) ?_ ?_
    · rintro i w σ' H' hi ⟨o, s, rfl⟩
      obtain ⟨pw, u, rfl, hpw, gu, zu1, zu2⟩ : ∃ (pw : Addr) (u : Int × Int), w = .ref pw ∧ H' pw = some (.tup [.int u.1, .int u.2]) ∧ (0 < u.2 ∧ 0 ≤ u.1 ∧ u.1 ≤ u.2 ∧ loT u.1 u.2 = u.1 ∧ loB u.1 u.2 = u.2) ∧ u.1.natAbs < 2 ^ 9000 ∧ u.2.natAbs < 2 ^ 9000 := by
        match i, hi with
        | 0, hi => exact ⟨pm, x, by simpa using hi.symm, s _ _ (s8 _ _ h67'), g1', z1, z2⟩
        | 1, hi => exact ⟨pt, y, by simpa using hi.symm, s _ _ (s8 _ _ h7'), g2', z3, z4⟩
        | i + 2, hi => simp at hi
      obtain ⟨u1, u2, u3, u4, u5⟩ := gu
      walk_at "rd"
      refine r_iteN (fun z => absurd rfl z) (fun _ => ?_)
      walk_at "rd"
      refine spInt_i ?_
      walk_at "rd"
      refine spInt_i ?_
      walk_at "rd"
      refine r_iteD (fun z => by omega) (fun _ => ?_)
      walk_at "rd"
      refine r_iteD (fun _ => ?_) (fun z => absurd u2 z)
      walk_at "rd"
      rw [decide_eq_true u3]
      walk_at "rd"
      refine spLow_i 9000 u1 zu2 (by decide) fun pl hpl => ?_
      rw [u4, u5]
      walk_at "rd"
      have hpw2 : upd H' pl (.tup [.int u.1, .int u.2]) pw = some (.tup [.int u.1, .int u.2]) := upd_get (ne_of_none hpw hpl) hpw
      refine r_neTI (ns := [u.1, u.2]) (ms := [u.1, u.2]) upd_same hpw2 ?_
      rw [decide_eq_true rfl]
      walk_at "rd"
      exact ⟨some (.ref pw), s.new hpl, rfl⟩
    · rintro σ' H9 ⟨o, s, rfl⟩
      have h69 : H9 pm = some (.tup [.int x.1, .int x.2]) := s _ _ (s8 _ _ h67')
      have h79 : H9 pt = some (.tup [.int y.1, .int y.2]) := s _ _ (s8 _ _ h7')
      have R9 := R7.same (s8.tr s)
      walk_at "rd"
      refine r_mulI (.of 9000 9000 z1 z4) ?_
      walk_at "rd"
      refine r_mulI (.of 9000 9000 z3 z2) ?_
      walk_at "rd"
      refine r_mulI (.of 9000 9000 z2 z4) ?_
      walk_at "rd"
      refine r_iteN (fun z => absurd both' z) (fun _ => ?_)
      walk_at "rd"
      refine spChn_i (f := 0) ⟨R9, hw, Nat.zero_le _⟩ hbd fun p0 H10 hp0 s10 h10 => ?_
      walk_at "rd"
      intro q0 hq0
      rw [e0] at h10
      walk_at "rd"
      refine spPart_i (a := 0) (b := 1) (c := 0) (e := 1) (upd_get (ne_of_none h10 hq0) h10) upd_same ?_
      rw [decide_eq_true rfl]
      walk_at "rd"
      have s11 := s10.new (o := .tup [.int 0, .int 1]) hq0
      refine spChn_i (f := c) ⟨R9.same s11, hw, Nat.le_refl _⟩ hbd fun p1 H11 hp1 s12 h12 => ?_
      walk_at "rd"
      intro q1 hq1
      rw [e1] at h12
      walk_at "rd"
      refine spPart_i (a := 1) (b := 1) (c := 1) (e := 1) (upd_get (ne_of_none h12 hq1) h12) upd_same ?_
      rw [decide_eq_true rfl]
      exact q _

theorem all_mk {l : PySem.W.OpenLaw} {w : World} {K : PySem.W.Frag} {h : Heap} {mg : Str → Option Value} {fa : Addr} (X : K.In h) (G : h.Ns mainGlobals mg) (hfa : mg "law" = some (.ref fa))
    {f0 f1 f2 f3 f4 f5 f6 f7 f8 f9 f10 f11 f12 f13 f14 f15 f16 f17 f18 f19 f20 f21 f22 f23 f24 f25 f26 f27 f28 f29 f30 f31 f32 : Addr} {od0 an0 od1 an1 od2 an2 od3 an3 od4 an4 od5 an5 od6 an6 od7 an7 od8 an8 od9 an9 od10 an10 od11 an11 od12 an12 od13 an13 od14 an14 od15 an15 od16 an16 od17 an17 od18 an18 od19 an19 od20 an20 od21 an21 od22 an22 od23 an23 od24 an24 od25 an25 od26 an26 od27 an27 od28 an28 od29 an29 od30 an30 od31 an31 od32 an32 : Option Addr} {sl0 sl1 sl2 sl3 sl4 sl5 sl6 sl7 sl8 sl9 sl10 sl11 sl12 sl13 sl14 sl15 sl16 sl17 sl18 sl19 sl20 sl21 sl22 sl23 sl24 sl25 sl26 sl27 sl28 sl29 sl30 sl31 sl32 : Array (Option Value)} {oc0 kV0 dc0 pm0 cd0 ct0 oc1 kV1 dc1 pm1 cd1 ct1 oc2 kV2 dc2 pm2 cd2 ct2 oc3 kV3 dc3 pm3 cd3 ct3 oc4 kV4 dc4 pm4 cd4 ct4 oc5 kV5 dc5 pm5 cd5 ct5 oc6 kV6 dc6 pm6 cd6 ct6 oc7 kV7 dc7 pm7 cd7 ct7 oc8 kV8 dc8 pm8 cd8 ct8 oc9 kV9 dc9 pm9 cd9 ct9 oc10 kV10 dc10 pm10 cd10 ct10 oc11 kV11 dc11 pm11 cd11 ct11 oc12 kV12 dc12 pm12 cd12 ct12 oc13 kV13 dc13 pm13 cd13 ct13 oc14 kV14 dc14 pm14 cd14 ct14 oc15 kV15 dc15 pm15 cd15 ct15 oc16 kV16 dc16 pm16 cd16 ct16 oc17 kV17 dc17 pm17 cd17 ct17 oc18 kV18 dc18 pm18 cd18 ct18 oc19 kV19 dc19 pm19 cd19 ct19 oc20 kV20 dc20 pm20 cd20 ct20 oc21 kV21 dc21 pm21 cd21 ct21 oc22 kV22 dc22 pm22 cd22 ct22 oc23 kV23 dc23 pm23 cd23 ct23 oc24 kV24 dc24 pm24 cd24 ct24 oc25 kV25 dc25 pm25 cd25 ct25 oc26 kV26 dc26 pm26 cd26 ct26 oc27 kV27 dc27 pm27 cd27 ct27 oc28 kV28 dc28 pm28 cd28 ct28 oc29 kV29 dc29 pm29 cd29 ct29 oc30 kV30 dc30 pm30 cd30 ct30 oc31 kV31 dc31 pm31 cd31 ct31 oc32 kV32 dc32 pm32 cd32 ct32 : Value}
    (a0 : PySem.W.nsIn K mainGlobals "ways" = some (some (.ref f0))) (l0 : K.lookup f0 = some ⟨oc0, od0, .func (PySem.W.fnOf "ways" "ways" (defArgs s_ways) (defBody s_ways) (defScope s_ways) .none kV0 dc0 pm0 an0 cd0 ct0), sl0⟩) (c0 : PySem.W.codeIn K cd0 "ways" = true) (k0 : PySem.W.keepIn K (.ref f0) = true)
    (a1 : PySem.W.nsIn K mainGlobals "fits_vote" = some (some (.ref f1))) (l1 : K.lookup f1 = some ⟨oc1, od1, .func (PySem.W.fnOf "fits_vote" "fits_vote" (defArgs s_fits_vote) (defBody s_fits_vote) (defScope s_fits_vote) .none kV1 dc1 pm1 an1 cd1 ct1), sl1⟩) (c1 : PySem.W.codeIn K cd1 "fits_vote" = true) (k1 : PySem.W.keepIn K (.ref f1) = true)
    (a2 : PySem.W.nsIn K mainGlobals "fits" = some (some (.ref f2))) (l2 : K.lookup f2 = some ⟨oc2, od2, .func (PySem.W.fnOf "fits" "fits" (defArgs s_fits) (defBody s_fits) (defScope s_fits) .none kV2 dc2 pm2 an2 cd2 ct2), sl2⟩) (c2 : PySem.W.codeIn K cd2 "fits" = true) (k2 : PySem.W.keepIn K (.ref f2) = true)
    (a3 : PySem.W.nsIn K mainGlobals "sizes" = some (some (.ref f3))) (l3 : K.lookup f3 = some ⟨oc3, od3, .func (PySem.W.fnOf "sizes" "sizes" (defArgs s_sizes) (defBody s_sizes) (defScope s_sizes) .none kV3 dc3 pm3 an3 cd3 ct3), sl3⟩) (c3 : PySem.W.codeIn K cd3 "sizes" = true) (k3 : PySem.W.keepIn K (.ref f3) = true)
    (a4 : PySem.W.nsIn K mainGlobals "sizes_ahead" = some (some (.ref f4))) (l4 : K.lookup f4 = some ⟨oc4, od4, .func (PySem.W.fnOf "sizes_ahead" "sizes_ahead" (defArgs s_sizes_ahead) (defBody s_sizes_ahead) (defScope s_sizes_ahead) .none kV4 dc4 pm4 an4 cd4 ct4), sl4⟩) (c4 : PySem.W.codeIn K cd4 "sizes_ahead" = true) (k4 : PySem.W.keepIn K (.ref f4) = true)
    (a5 : PySem.W.nsIn K mainGlobals "whole" = some (some (.ref f5))) (l5 : K.lookup f5 = some ⟨oc5, od5, .func (PySem.W.fnOf "whole" "whole" (defArgs s_whole) (defBody s_whole) (defScope s_whole) .none kV5 dc5 pm5 an5 cd5 ct5), sl5⟩) (c5 : PySem.W.codeIn K cd5 "whole" = true) (k5 : PySem.W.keepIn K (.ref f5) = true)
    (a6 : PySem.W.nsIn K mainGlobals "need_whole" = some (some (.ref f6))) (l6 : K.lookup f6 = some ⟨oc6, od6, .func (PySem.W.fnOf "need_whole" "need_whole" (defArgs s_need_whole) (defBody s_need_whole) (defScope s_need_whole) .none kV6 dc6 pm6 an6 cd6 ct6), sl6⟩) (c6 : PySem.W.codeIn K cd6 "need_whole" = true) (k6 : PySem.W.keepIn K (.ref f6) = true)
    (a7 : PySem.W.nsIn K mainGlobals "need_friends" = some (some (.ref f7))) (l7 : K.lookup f7 = some ⟨oc7, od7, .func (PySem.W.fnOf "need_friends" "need_friends" (defArgs s_need_friends) (defBody s_need_friends) (defScope s_need_friends) .none kV7 dc7 pm7 an7 cd7 ct7), sl7⟩) (c7 : PySem.W.codeIn K cd7 "need_friends" = true) (k7 : PySem.W.keepIn K (.ref f7) = true)
    (a8 : PySem.W.nsIn K mainGlobals "round_draws" = some (some (.ref f8))) (l8 : K.lookup f8 = some ⟨oc8, od8, .func (PySem.W.fnOf "round_draws" "round_draws" (defArgs s_round_draws) (defBody s_round_draws) (defScope s_round_draws) .none kV8 dc8 pm8 an8 cd8 ct8), sl8⟩) (c8 : PySem.W.codeIn K cd8 "round_draws" = true) (k8 : PySem.W.keepIn K (.ref f8) = true)
    (a9 : PySem.W.nsIn K mainGlobals "draws_row" = some (some (.ref f9))) (l9 : K.lookup f9 = some ⟨oc9, od9, .func (PySem.W.fnOf "draws_row" "draws_row" (defArgs s_draws_row) (defBody s_draws_row) (defScope s_draws_row) .none kV9 dc9 pm9 an9 cd9 ct9), sl9⟩) (c9 : PySem.W.codeIn K cd9 "draws_row" = true) (k9 : PySem.W.keepIn K (.ref f9) = true)
    (a10 : PySem.W.nsIn K mainGlobals "draws" = some (some (.ref f10))) (l10 : K.lookup f10 = some ⟨oc10, od10, .func (PySem.W.fnOf "draws" "draws" (defArgs s_draws) (defBody s_draws) (defScope s_draws) .none kV10 dc10 pm10 an10 cd10 ct10), sl10⟩) (c10 : PySem.W.codeIn K cd10 "draws" = true) (k10 : PySem.W.keepIn K (.ref f10) = true)
    (a11 : PySem.W.nsIn K mainGlobals "ways_up_to" = some (some (.ref f11))) (l11 : K.lookup f11 = some ⟨oc11, od11, .func (PySem.W.fnOf "ways_up_to" "ways_up_to" (defArgs s_ways_up_to) (defBody s_ways_up_to) (defScope s_ways_up_to) .none kV11 dc11 pm11 an11 cd11 ct11), sl11⟩) (c11 : PySem.W.codeIn K cd11 "ways_up_to" = true) (k11 : PySem.W.keepIn K (.ref f11) = true)
    (a12 : PySem.W.nsIn K mainGlobals "behind_lot" = some (some (.ref f12))) (l12 : K.lookup f12 = some ⟨oc12, od12, .func (PySem.W.fnOf "behind_lot" "behind_lot" (defArgs s_behind_lot) (defBody s_behind_lot) (defScope s_behind_lot) .none kV12 dc12 pm12 an12 cd12 ct12), sl12⟩) (c12 : PySem.W.codeIn K cd12 "behind_lot" = true) (k12 : PySem.W.keepIn K (.ref f12) = true)
    (a13 : PySem.W.nsIn K mainGlobals "side" = some (some (.ref f13))) (l13 : K.lookup f13 = some ⟨oc13, od13, .func (PySem.W.fnOf "side" "side" (defArgs s_side) (defBody s_side) (defScope s_side) .none kV13 dc13 pm13 an13 cd13 ct13), sl13⟩) (c13 : PySem.W.codeIn K cd13 "side" = true) (k13 : PySem.W.keepIn K (.ref f13) = true)
    (a14 : PySem.W.nsIn K mainGlobals "seated" = some (some (.ref f14))) (l14 : K.lookup f14 = some ⟨oc14, od14, .func (PySem.W.fnOf "seated" "seated" (defArgs s_seated) (defBody s_seated) (defScope s_seated) .none kV14 dc14 pm14 an14 cd14 ct14), sl14⟩) (c14 : PySem.W.codeIn K cd14 "seated" = true) (k14 : PySem.W.keepIn K (.ref f14) = true)
    (a15 : PySem.W.nsIn K mainGlobals "all_lead_to" = some (some (.ref f15))) (l15 : K.lookup f15 = some ⟨oc15, od15, .func (PySem.W.fnOf "all_lead_to" "all_lead_to" (defArgs s_all_lead_to) (defBody s_all_lead_to) (defScope s_all_lead_to) .none kV15 dc15 pm15 an15 cd15 ct15), sl15⟩) (c15 : PySem.W.codeIn K cd15 "all_lead_to" = true) (k15 : PySem.W.keepIn K (.ref f15) = true)
    (a16 : PySem.W.nsIn K mainGlobals "behind" = some (some (.ref f16))) (l16 : K.lookup f16 = some ⟨oc16, od16, .func (PySem.W.fnOf "behind" "behind" (defArgs s_behind) (defBody s_behind) (defScope s_behind) .none kV16 dc16 pm16 an16 cd16 ct16), sl16⟩) (c16 : PySem.W.codeIn K cd16 "behind" = true) (k16 : PySem.W.keepIn K (.ref f16) = true)
    (a17 : PySem.W.nsIn K mainGlobals "common_part" = some (some (.ref f17))) (l17 : K.lookup f17 = some ⟨oc17, od17, .func (PySem.W.fnOf "common_part" "common_part" (defArgs s_common_part) (defBody s_common_part) (defScope s_common_part) .none kV17 dc17 pm17 an17 cd17 ct17), sl17⟩) (c17 : PySem.W.codeIn K cd17 "common_part" = true) (k17 : PySem.W.keepIn K (.ref f17) = true)
    (a18 : PySem.W.nsIn K mainGlobals "lowest" = some (some (.ref f18))) (l18 : K.lookup f18 = some ⟨oc18, od18, .func (PySem.W.fnOf "lowest" "lowest" (defArgs s_lowest) (defBody s_lowest) (defScope s_lowest) .none kV18 dc18 pm18 an18 cd18 ct18), sl18⟩) (c18 : PySem.W.codeIn K cd18 "lowest" = true) (k18 : PySem.W.keepIn K (.ref f18) = true)
    (a19 : PySem.W.nsIn K mainGlobals "roads_on" = some (some (.ref f19))) (l19 : K.lookup f19 = some ⟨oc19, od19, .func (PySem.W.fnOf "roads_on" "roads_on" (defArgs s_roads_on) (defBody s_roads_on) (defScope s_roads_on) .none kV19 dc19 pm19 an19 cd19 ct19), sl19⟩) (c19 : PySem.W.codeIn K cd19 "roads_on" = true) (k19 : PySem.W.keepIn K (.ref f19) = true)
    (a20 : PySem.W.nsIn K mainGlobals "roads" = some (some (.ref f20))) (l20 : K.lookup f20 = some ⟨oc20, od20, .func (PySem.W.fnOf "roads" "roads" (defArgs s_roads) (defBody s_roads) (defScope s_roads) .none kV20 dc20 pm20 an20 cd20 ct20), sl20⟩) (c20 : PySem.W.codeIn K cd20 "roads" = true) (k20 : PySem.W.keepIn K (.ref f20) = true)
    (a21 : PySem.W.nsIn K mainGlobals "friendly_many" = some (some (.ref f21))) (l21 : K.lookup f21 = some ⟨oc21, od21, .func (PySem.W.fnOf "friendly_many" "friendly_many" (defArgs s_friendly_many) (defBody s_friendly_many) (defScope s_friendly_many) .none kV21 dc21 pm21 an21 cd21 ct21), sl21⟩) (c21 : PySem.W.codeIn K cd21 "friendly_many" = true) (k21 : PySem.W.keepIn K (.ref f21) = true)
    (a22 : PySem.W.nsIn K mainGlobals "chance" = some (some (.ref f22))) (l22 : K.lookup f22 = some ⟨oc22, od22, .func (PySem.W.fnOf "chance" "chance" (defArgs s_chance) (defBody s_chance) (defScope s_chance) .none kV22 dc22 pm22 an22 cd22 ct22), sl22⟩) (c22 : PySem.W.codeIn K cd22 "chance" = true) (k22 : PySem.W.keepIn K (.ref f22) = true)
    (a23 : PySem.W.nsIn K mainGlobals "_law_begin" = some (some (.ref f23))) (l23 : K.lookup f23 = some ⟨oc23, od23, .func (PySem.W.fnOf "_law_begin" "_law_begin" (defArgs s_l_begin) (defBody s_l_begin) (defScope s_l_begin) .none kV23 dc23 pm23 an23 cd23 ct23), sl23⟩) (c23 : PySem.W.codeIn K cd23 "_law_begin" = true) (k23 : PySem.W.keepIn K (.ref f23) = true)
    (a24 : PySem.W.nsIn K mainGlobals "_law_take" = some (some (.ref f24))) (l24 : K.lookup f24 = some ⟨oc24, od24, .func (PySem.W.fnOf "_law_take" "_law_take" (defArgs s_l_take) (defBody s_l_take) (defScope s_l_take) .none kV24 dc24 pm24 an24 cd24 ct24), sl24⟩) (c24 : PySem.W.codeIn K cd24 "_law_take" = true) (k24 : PySem.W.keepIn K (.ref f24) = true)
    (a25 : PySem.W.nsIn K mainGlobals "_law_step" = some (some (.ref f25))) (l25 : K.lookup f25 = some ⟨oc25, od25, .func (PySem.W.fnOf "_law_step" "_law_step" (defArgs s_l_step) (defBody s_l_step) (defScope s_l_step) .none kV25 dc25 pm25 an25 cd25 ct25), sl25⟩) (c25 : PySem.W.codeIn K cd25 "_law_step" = true) (k25 : PySem.W.keepIn K (.ref f25) = true)
    (a26 : PySem.W.nsIn K mainGlobals "_law_last" = some (some (.ref f26))) (l26 : K.lookup f26 = some ⟨oc26, od26, .func (PySem.W.fnOf "_law_last" "_law_last" (defArgs s_l_last) (defBody s_l_last) (defScope s_l_last) .none kV26 dc26 pm26 an26 cd26 ct26), sl26⟩) (c26 : PySem.W.codeIn K cd26 "_law_last" = true) (k26 : PySem.W.keepIn K (.ref f26) = true)
    (a27 : PySem.W.nsIn K mainGlobals "_law_whole_row" = some (some (.ref f27))) (l27 : K.lookup f27 = some ⟨oc27, od27, .func (PySem.W.fnOf "_law_whole_row" "_law_whole_row" (defArgs s_l_whole_row) (defBody s_l_whole_row) (defScope s_l_whole_row) .none kV27 dc27 pm27 an27 cd27 ct27), sl27⟩) (c27 : PySem.W.codeIn K cd27 "_law_whole_row" = true) (k27 : PySem.W.keepIn K (.ref f27) = true)
    (a28 : PySem.W.nsIn K mainGlobals "_law_council" = some (some (.ref f28))) (l28 : K.lookup f28 = some ⟨oc28, od28, .func (PySem.W.fnOf "_law_council" "_law_council" (defArgs s_l_council) (defBody s_l_council) (defScope s_l_council) .none kV28 dc28 pm28 an28 cd28 ct28), sl28⟩) (c28 : PySem.W.codeIn K cd28 "_law_council" = true) (k28 : PySem.W.keepIn K (.ref f28) = true)
    (a29 : PySem.W.nsIn K mainGlobals "_law_int" = some (some (.ref f29))) (l29 : K.lookup f29 = some ⟨oc29, od29, .func (PySem.W.fnOf "_law_int" "_law_int" (defArgs s_l_int) (defBody s_l_int) (defScope s_l_int) .none kV29 dc29 pm29 an29 cd29 ct29), sl29⟩) (c29 : PySem.W.codeIn K cd29 "_law_int" = true) (k29 : PySem.W.keepIn K (.ref f29) = true)
    (a30 : PySem.W.nsIn K mainGlobals "_law_is_part" = some (some (.ref f30))) (l30 : K.lookup f30 = some ⟨oc30, od30, .func (PySem.W.fnOf "_law_is_part" "_law_is_part" (defArgs s_l_is_part) (defBody s_l_is_part) (defScope s_l_is_part) .none kV30 dc30 pm30 an30 cd30 ct30), sl30⟩) (c30 : PySem.W.codeIn K cd30 "_law_is_part" = true) (k30 : PySem.W.keepIn K (.ref f30) = true)
    (a31 : PySem.W.nsIn K mainGlobals "_law_lowest" = some (some (.ref f31))) (l31 : K.lookup f31 = some ⟨oc31, od31, .func (PySem.W.fnOf "_law_lowest" "_law_lowest" (defArgs s_l_lowest) (defBody s_l_lowest) (defScope s_l_lowest) .none kV31 dc31 pm31 an31 cd31 ct31), sl31⟩) (c31 : PySem.W.codeIn K cd31 "_law_lowest" = true) (k31 : PySem.W.keepIn K (.ref f31) = true)
    (a32 : PySem.W.nsIn K mainGlobals "law" = some (some (.ref f32))) (l32 : K.lookup f32 = some ⟨oc32, od32, .func (PySem.W.fnOf "law" "law" (defArgs s_law) (defBody s_law) (defScope s_law) .none kV32 dc32 pm32 an32 cd32 ct32), sl32⟩) (c32 : PySem.W.codeIn K cd32 "law" = true) (k32 : PySem.W.keepIn K (.ref f32) = true)
    (z_abs : PySem.W.nsIn K mainGlobals "abs" = some none)
    (z_bool : PySem.W.nsIn K mainGlobals "bool" = some none)
    (z_enumerate : PySem.W.nsIn K mainGlobals "enumerate" = some none)
    (z_int : PySem.W.nsIn K mainGlobals "int" = some none)
    (z_isinstance : PySem.W.nsIn K mainGlobals "isinstance" = some none)
    (z_len : PySem.W.nsIn K mainGlobals "len" = some none)
    (z_list : PySem.W.nsIn K mainGlobals "list" = some none)
    (z_min : PySem.W.nsIn K mainGlobals "min" = some none)
    (z_range : PySem.W.nsIn K mainGlobals "range" = some none)
    (z_tuple : PySem.W.nsIn K mainGlobals "tuple" = some none)
    (z_zip : PySem.W.nsIn K mainGlobals "zip" = some none)
    {t_MOST_PEOPLE : Tok} (m_MOST_PEOPLE : PySem.W.nsIn K mainGlobals "MOST_PEOPLE" = some (some (.int 500 t_MOST_PEOPLE)))
    {t_MOST_SEATS : Tok} (m_MOST_SEATS : PySem.W.nsIn K mainGlobals "MOST_SEATS" = some (some (.int 60 t_MOST_SEATS)))
    : ∃ fd : FuncData, (∀ (s : Shared) (v : Value), BindsTo s fd ⟨[v], []⟩ [("_law_script", v)]) ∧ ∀ base : Heap, K.In base → base.Ns mainGlobals mg → FnOk l.prog w K mg base CX0 11 fa fd ["_law_script"] (spLaw K) := by
  have T : Txt mg := ⟨PySem.W.mg_none_of X G z_abs, PySem.W.mg_none_of X G z_bool, PySem.W.mg_none_of X G z_enumerate, PySem.W.mg_none_of X G z_int, PySem.W.mg_none_of X G z_isinstance, PySem.W.mg_none_of X G z_len, PySem.W.mg_none_of X G z_list, PySem.W.mg_none_of X G z_min, PySem.W.mg_none_of X G z_range, PySem.W.mg_none_of X G z_tuple, PySem.W.mg_none_of X G z_zip, ⟨_, PySem.W.mg_of X G m_MOST_PEOPLE⟩, ⟨_, PySem.W.mg_of X G m_MOST_SEATS⟩⟩
  have U_ways : Up K mg "ways" s_ways ["many", "few"] := up_mk X G a0 l0 c0 k0 fun _ _ _ _ _ _ us hl => match us, hl with | [_, _], _ => rfl
  have U_fits_vote : Up K mg "fits_vote" s_fits_vote ["count", "sit", "seats", "needed", "word"] := up_mk X G a1 l1 c1 k1 fun _ _ _ _ _ _ us hl => match us, hl with | [_, _, _, _, _], _ => rfl
  have U_fits : Up K mg "fits" s_fits ["count", "sit", "step"] := up_mk X G a2 l2 c2 k2 fun _ _ _ _ _ _ us hl => match us, hl with | [_, _, _], _ => rfl
  have U_sizes : Up K mg "sizes" s_sizes ["count", "row"] := up_mk X G a3 l3 c3 k3 fun _ _ _ _ _ _ us hl => match us, hl with | [_, _], _ => rfl
  have U_sizes_ahead : Up K mg "sizes_ahead" s_sizes_ahead ["count", "row"] := up_mk X G a4 l4 c4 k4 fun _ _ _ _ _ _ us hl => match us, hl with | [_, _], _ => rfl
  have U_whole : Up K mg "whole" s_whole ["count", "row"] := up_mk X G a5 l5 c5 k5 fun _ _ _ _ _ _ us hl => match us, hl with | [_, _], _ => rfl
  have U_need_whole : Up K mg "need_whole" s_need_whole ["count", "row"] := up_mk X G a6 l6 c6 k6 fun _ _ _ _ _ _ us hl => match us, hl with | [_, _], _ => rfl
  have U_need_friends : Up K mg "need_friends" s_need_friends ["count", "friends", "row"] := up_mk X G a7 l7 c7 k7 fun _ _ _ _ _ _ us hl => match us, hl with | [_, _, _], _ => rfl
  have U_round_draws : Up K mg "round_draws" s_round_draws ["count", "sit", "step"] := up_mk X G a8 l8 c8 k8 fun _ _ _ _ _ _ us hl => match us, hl with | [_, _, _], _ => rfl
  have U_draws_row : Up K mg "draws_row" s_draws_row ["count", "row"] := up_mk X G a9 l9 c9 k9 fun _ _ _ _ _ _ us hl => match us, hl with | [_, _], _ => rfl
  have U_draws : Up K mg "draws" s_draws ["count", "row"] := up_mk X G a10 l10 c10 k10 fun _ _ _ _ _ _ us hl => match us, hl with | [_, _], _ => rfl
  have U_ways_up_to : Up K mg "ways_up_to" s_ways_up_to ["many", "few"] := up_mk X G a11 l11 c11 k11 fun _ _ _ _ _ _ us hl => match us, hl with | [_, _], _ => rfl
  have U_behind_lot : Up K mg "behind_lot" s_behind_lot ["bench", "on", "few"] := up_mk X G a12 l12 c12 k12 fun _ _ _ _ _ _ us hl => match us, hl with | [_, _, _], _ => rfl
  have U_side : Up K mg "side" s_side ["bench", "on", "needed"] := up_mk X G a13 l13 c13 k13 fun _ _ _ _ _ _ us hl => match us, hl with | [_, _, _], _ => rfl
  have U_seated : Up K mg "seated" s_seated ["count", "friends", "seats", "who"] := up_mk X G a14 l14 c14 k14 fun _ _ _ _ _ _ us hl => match us, hl with | [_, _, _, _], _ => rfl
  have U_all_lead_to : Up K mg "all_lead_to" s_all_lead_to ["seats", "on", "many"] := up_mk X G a15 l15 c15 k15 fun _ _ _ _ _ _ us hl => match us, hl with | [_, _, _], _ => rfl
  have U_behind : Up K mg "behind" s_behind ["count", "friends", "bench", "on", "step"] := up_mk X G a16 l16 c16 k16 fun _ _ _ _ _ _ us hl => match us, hl with | [_, _, _, _, _], _ => rfl
  have U_common_part : Up K mg "common_part" s_common_part ["one", "other"] := up_mk X G a17 l17 c17 k17 fun _ _ _ _ _ _ us hl => match us, hl with | [_, _], _ => rfl
  have U_lowest : Up K mg "lowest" s_lowest ["top", "bottom"] := up_mk X G a18 l18 c18 k18 fun _ _ _ _ _ _ us hl => match us, hl with | [_, _], _ => rfl
  have U_roads_on : Up K mg "roads_on" s_roads_on ["count", "friends", "roads_here", "step"] := up_mk X G a19 l19 c19 k19 fun _ _ _ _ _ _ us hl => match us, hl with | [_, _, _, _], _ => rfl
  have U_roads : Up K mg "roads" s_roads ["count", "friends", "row"] := up_mk X G a20 l20 c20 k20 fun _ _ _ _ _ _ us hl => match us, hl with | [_, _, _], _ => rfl
  have U_friendly_many : Up K mg "friendly_many" s_friendly_many ["count", "friends", "row"] := up_mk X G a21 l21 c21 k21 fun _ _ _ _ _ _ us hl => match us, hl with | [_, _, _], _ => rfl
  have U_chance : Up K mg "chance" s_chance ["count", "friends", "row"] := up_mk X G a22 l22 c22 k22 fun _ _ _ _ _ _ us hl => match us, hl with | [_, _, _], _ => rfl
  have U_l_begin : Up K mg "_law_begin" s_l_begin ["_law_script"] := up_mk X G a23 l23 c23 k23 fun _ _ _ _ _ _ us hl => match us, hl with | [_], _ => rfl
  have U_l_take : Up K mg "_law_take" s_l_take ["_law_draw", "_law_many"] := up_mk X G a24 l24 c24 k24 fun _ _ _ _ _ _ us hl => match us, hl with | [_, _], _ => rfl
  have U_l_step : Up K mg "_law_step" s_l_step ["_law_draw", "_law_count", "_law_bench", "_law_most"] := up_mk X G a25 l25 c25 k25 fun _ _ _ _ _ _ us hl => match us, hl with | [_, _, _, _], _ => rfl
  have U_l_last : Up K mg "_law_last" s_l_last ["_law_draw", "_law_bench"] := up_mk X G a26 l26 c26 k26 fun _ _ _ _ _ _ us hl => match us, hl with | [_, _], _ => rfl
  have U_l_whole_row : Up K mg "_law_whole_row" s_l_whole_row ["_law_draw", "_law_count", "_law_many", "_law_most"] := up_mk X G a27 l27 c27 k27 fun _ _ _ _ _ _ us hl => match us, hl with | [_, _, _, _], _ => rfl
  have U_l_council : Up K mg "_law_council" s_l_council ["_law_draw", "_law_most"] := up_mk X G a28 l28 c28 k28 fun _ _ _ _ _ _ us hl => match us, hl with | [_, _], _ => rfl
  have U_l_int : Up K mg "_law_int" s_l_int ["_law_thing"] := up_mk X G a29 l29 c29 k29 fun _ _ _ _ _ _ us hl => match us, hl with | [_], _ => rfl
  have U_l_is_part : Up K mg "_law_is_part" s_l_is_part ["_law_found", "_law_due"] := up_mk X G a30 l30 c30 k30 fun _ _ _ _ _ _ us hl => match us, hl with | [_, _], _ => rfl
  have U_l_lowest : Up K mg "_law_lowest" s_l_lowest ["_law_top", "_law_bottom"] := up_mk X G a31 l31 c31 k31 fun _ _ _ _ _ _ us hl => match us, hl with | [_, _], _ => rfl
  have U_law : Up K mg "law" s_law ["_law_script"] := up_mk X G a32 l32 c32 k32 fun _ _ _ _ _ _ us hl => match us, hl with | [_], _ => rfl
  refine law_fn U_law hfa (fun base kb nb f fd F => ?_) (fun _ _ _ _ _ _ s u => .of_eq rfl)
  have C_ways : Callee l.prog w K mg base 1 "ways" ["many", "few"] (spWays) := ok_ways T U_ways
  have C_fits_vote : Callee l.prog w K mg base 1 "fits_vote" ["count", "sit", "seats", "needed", "word"] (spFitsVote) := ok_fits_vote T U_fits_vote
  have C_fits : Callee l.prog w K mg base 2 "fits" ["count", "sit", "step"] (spFits) := ok_fits T U_fits C_fits_vote
  have C_sizes : Callee l.prog w K mg base 3 "sizes" ["count", "row"] (spSizes) := ok_sizes T U_sizes C_fits
  have C_sizes_ahead : Callee l.prog w K mg base 4 "sizes_ahead" ["count", "row"] (spAhead) := ok_sizes_ahead T U_sizes_ahead C_sizes
  have C_whole : Callee l.prog w K mg base 5 "whole" ["count", "row"] (spWhole) := ok_whole T U_whole C_sizes_ahead
  have C_need_whole : Callee l.prog w K mg base 6 "need_whole" ["count", "row"] (spNeedW) := ok_need_whole T U_need_whole C_whole
  have C_need_friends : Callee l.prog w K mg base 7 "need_friends" ["count", "friends", "row"] (spNeedF) := ok_need_friends T U_need_friends C_need_whole
  have C_round_draws : Callee l.prog w K mg base 2 "round_draws" ["count", "sit", "step"] (spRoundDraws) := ok_round_draws T U_round_draws C_ways
  have C_draws_row : Callee l.prog w K mg base 5 "draws_row" ["count", "row"] (spDrawsRow) := ok_draws_row T U_draws_row C_sizes_ahead C_round_draws
  have C_draws : Callee l.prog w K mg base 6 "draws" ["count", "row"] (spDraws) := ok_draws T U_draws C_draws_row
  have C_ways_up_to : Callee l.prog w K mg base 1 "ways_up_to" ["many", "few"] (spUpTo) := ok_ways_up_to T U_ways_up_to
  have C_behind_lot : Callee l.prog w K mg base 2 "behind_lot" ["bench", "on", "few"] (spLot) := ok_behind_lot T U_behind_lot C_ways_up_to
  have C_side : Callee l.prog w K mg base 1 "side" ["bench", "on", "needed"] (spSide) := ok_side T U_side
  have C_seated : Callee l.prog w K mg base 1 "seated" ["count", "friends", "seats", "who"] (spSeated) := ok_seated T U_seated
  have C_all_lead_to : Callee l.prog w K mg base 1 "all_lead_to" ["seats", "on", "many"] (spLead) := ok_all_lead_to T U_all_lead_to
  have C_behind : Callee l.prog w K mg base 3 "behind" ["count", "friends", "bench", "on", "step"] (spBehind) := ok_behind T U_behind C_round_draws C_behind_lot C_side C_seated C_all_lead_to
  have C_common_part : Callee l.prog w K mg base 1 "common_part" ["one", "other"] (spGcd) := ok_common_part T U_common_part
  have C_lowest : Callee l.prog w K mg base 2 "lowest" ["top", "bottom"] (spLow) := ok_lowest T U_lowest C_common_part
  have C_roads_on : Callee l.prog w K mg base 4 "roads_on" ["count", "friends", "roads_here", "step"] (spRoadsOn) := ok_roads_on T U_roads_on C_behind
  have C_roads : Callee l.prog w K mg base 8 "roads" ["count", "friends", "row"] (spRoads) := ok_roads T U_roads C_need_friends C_roads_on
  have C_friendly_many : Callee l.prog w K mg base 9 "friendly_many" ["count", "friends", "row"] (spFrM) := ok_friendly_many T U_friendly_many C_roads
  have C_chance : Callee l.prog w K mg base 10 "chance" ["count", "friends", "row"] (spChn) := ok_chance T U_chance C_draws C_lowest C_friendly_many
  have C_l_begin : Callee l.prog w K mg base 1 "_law_begin" ["_law_script"] (spBegin K) := ok_l_begin T U_l_begin
  have C_l_take : Callee l.prog w K mg base 1 "_law_take" ["_law_draw", "_law_many"] (spTake) := ok_l_take T U_l_take
  have C_l_step : Callee l.prog w K mg base 2 "_law_step" ["_law_draw", "_law_count", "_law_bench", "_law_most"] (spStep) := ok_l_step T U_l_step C_l_take
  have C_l_last : Callee l.prog w K mg base 2 "_law_last" ["_law_draw", "_law_bench"] (spLast) := ok_l_last T U_l_last C_l_take
  have C_l_whole_row : Callee l.prog w K mg base 3 "_law_whole_row" ["_law_draw", "_law_count", "_law_many", "_law_most"] (spWholeRow) := ok_l_whole_row T U_l_whole_row C_l_take C_l_step C_l_last
  have C_l_council : Callee l.prog w K mg base 2 "_law_council" ["_law_draw", "_law_most"] (spCouncil) := ok_l_council T U_l_council C_l_take
  have C_l_int : Callee l.prog w K mg base 1 "_law_int" ["_law_thing"] (spInt) := ok_l_int T U_l_int
  have C_l_is_part : Callee l.prog w K mg base 2 "_law_is_part" ["_law_found", "_law_due"] (spPart) := ok_l_is_part T U_l_is_part C_l_int
  have C_l_lowest : Callee l.prog w K mg base 1 "_law_lowest" ["_law_top", "_law_bottom"] (spLow) := ok_l_lowest T U_l_lowest
  exact ok_law T F C_chance C_l_begin C_l_take C_l_whole_row C_l_council C_l_int C_l_is_part C_l_lowest
end K18
open PySem PySem.W PyProof.Rows
set_option maxRecDepth 100000 in
set_option maxHeartbeats 0 in
theorem PySem.Challenge.cw_ballotin_k18_whole_friends_and_foes_holds : PySem.Challenge.rw_ballotin_k18_whole_friends_and_foes.Holds := by
  w_on; o_law; k_head; (case hw => w_witness2)
  k_fill
  refine L2.walkC (l := PySem.Challenge.rw_ballotin_k18_whole_friends_and_foes) (k := 11) (x := "_law_script") rfl rfl ⟨rfl, by decide, by decide⟩ (fun w h Y => PySem.W.kIn_of Y) ?F
  case F =>
    intro w mg fa h KX G hmg
    refine' K18.all_mk KX G hmg ?a0 ?l0 ?c0 ?k0 ?a1 ?l1 ?c1 ?k1 ?a2 ?l2 ?c2 ?k2 ?a3 ?l3 ?c3 ?k3 ?a4 ?l4 ?c4 ?k4 ?a5 ?l5 ?c5 ?k5 ?a6 ?l6 ?c6 ?k6 ?a7 ?l7 ?c7 ?k7 ?a8 ?l8 ?c8 ?k8 ?a9 ?l9 ?c9 ?k9 ?a10 ?l10 ?c10 ?k10 ?a11 ?l11 ?c11 ?k11 ?a12 ?l12 ?c12 ?k12 ?a13 ?l13 ?c13 ?k13 ?a14 ?l14 ?c14 ?k14 ?a15 ?l15 ?c15 ?k15 ?a16 ?l16 ?c16 ?k16 ?a17 ?l17 ?c17 ?k17 ?a18 ?l18 ?c18 ?k18 ?a19 ?l19 ?c19 ?k19 ?a20 ?l20 ?c20 ?k20 ?a21 ?l21 ?c21 ?k21 ?a22 ?l22 ?c22 ?k22 ?a23 ?l23 ?c23 ?k23 ?a24 ?l24 ?c24 ?k24 ?a25 ?l25 ?c25 ?k25 ?a26 ?l26 ?c26 ?k26 ?a27 ?l27 ?c27 ?k27 ?a28 ?l28 ?c28 ?k28 ?a29 ?l29 ?c29 ?k29 ?a30 ?l30 ?c30 ?k30 ?a31 ?l31 ?c31 ?k31 ?a32 ?l32 ?c32 ?k32 ?z_abs ?z_bool ?z_enumerate ?z_int ?z_isinstance ?z_len ?z_list ?z_min ?z_range ?z_tuple ?z_zip ?m_MOST_PEOPLE ?m_MOST_SEATS  
    (case a0 => k_is); (case l0 => k_is); (case c0 => k_is); (case k0 => k_is)
    (case a1 => k_is); (case l1 => k_is); (case c1 => k_is); (case k1 => k_is)
    (case a2 => k_is); (case l2 => k_is); (case c2 => k_is); (case k2 => k_is)
    (case a3 => k_is); (case l3 => k_is); (case c3 => k_is); (case k3 => k_is)
    (case a4 => k_is); (case l4 => k_is); (case c4 => k_is); (case k4 => k_is)
    (case a5 => k_is); (case l5 => k_is); (case c5 => k_is); (case k5 => k_is)
    (case a6 => k_is); (case l6 => k_is); (case c6 => k_is); (case k6 => k_is)
    (case a7 => k_is); (case l7 => k_is); (case c7 => k_is); (case k7 => k_is)
    (case a8 => k_is); (case l8 => k_is); (case c8 => k_is); (case k8 => k_is)
    (case a9 => k_is); (case l9 => k_is); (case c9 => k_is); (case k9 => k_is)
    (case a10 => k_is); (case l10 => k_is); (case c10 => k_is); (case k10 => k_is)
    (case a11 => k_is); (case l11 => k_is); (case c11 => k_is); (case k11 => k_is)
    (case a12 => k_is); (case l12 => k_is); (case c12 => k_is); (case k12 => k_is)
    (case a13 => k_is); (case l13 => k_is); (case c13 => k_is); (case k13 => k_is)
    (case a14 => k_is); (case l14 => k_is); (case c14 => k_is); (case k14 => k_is)
    (case a15 => k_is); (case l15 => k_is); (case c15 => k_is); (case k15 => k_is)
    (case a16 => k_is); (case l16 => k_is); (case c16 => k_is); (case k16 => k_is)
    (case a17 => k_is); (case l17 => k_is); (case c17 => k_is); (case k17 => k_is)
    (case a18 => k_is); (case l18 => k_is); (case c18 => k_is); (case k18 => k_is)
    (case a19 => k_is); (case l19 => k_is); (case c19 => k_is); (case k19 => k_is)
    (case a20 => k_is); (case l20 => k_is); (case c20 => k_is); (case k20 => k_is)
    (case a21 => k_is); (case l21 => k_is); (case c21 => k_is); (case k21 => k_is)
    (case a22 => k_is); (case l22 => k_is); (case c22 => k_is); (case k22 => k_is)
    (case a23 => k_is); (case l23 => k_is); (case c23 => k_is); (case k23 => k_is)
    (case a24 => k_is); (case l24 => k_is); (case c24 => k_is); (case k24 => k_is)
    (case a25 => k_is); (case l25 => k_is); (case c25 => k_is); (case k25 => k_is)
    (case a26 => k_is); (case l26 => k_is); (case c26 => k_is); (case k26 => k_is)
    (case a27 => k_is); (case l27 => k_is); (case c27 => k_is); (case k27 => k_is)
    (case a28 => k_is); (case l28 => k_is); (case c28 => k_is); (case k28 => k_is)
    (case a29 => k_is); (case l29 => k_is); (case c29 => k_is); (case k29 => k_is)
    (case a30 => k_is); (case l30 => k_is); (case c30 => k_is); (case k30 => k_is)
    (case a31 => k_is); (case l31 => k_is); (case c31 => k_is); (case k31 => k_is)
    (case a32 => k_is); (case l32 => k_is); (case c32 => k_is); (case k32 => k_is)
    (case z_abs => k_is)
    (case z_bool => k_is)
    (case z_enumerate => k_is)
    (case z_int => k_is)
    (case z_isinstance => k_is)
    (case z_len => k_is)
    (case z_list => k_is)
    (case z_min => k_is)
    (case z_range => k_is)
    (case z_tuple => k_is)
    (case z_zip => k_is)
    (case m_MOST_PEOPLE => k_is)
    (case m_MOST_SEATS => k_is)