import PyProof.Rows.All
import Wide.All
import OpenK.AllK
import Wide.FinOn
import Lean
import PyProof.EqAt
import PyProof.EqKinds
import PyProof.TupleCall
import PyProof.InstStoreFacts
import PySem.Challenge.RW_ballotin_k07_sizes_of_benches
local macro_rules | `(tactic| walk_at "w") => `(tactic| with_unfolding_all exact rfl)
local macro_rules | `(tactic| walk_at "v") => `(tactic| with_unfolding_all exact (Or.inl rfl))
set_option Elab.async false
set_option linter.all false
set_option maxRecDepth 100000
set_option maxHeartbeats 4000000
namespace L2
open PySem PySem.Spec PyProof.Rows
abbrev Key := Sum Int Str
def keyIs : Key -> Value -> Bool
 | .inl k, v => Value.isInt k v
 | .inr x, v => Value.isStrOf x v
def keyH (w : World) : Key -> Int
 | .inl k => hashInt k
 | .inr x => hashStr w x
theorem Pa : ∀ {k : Key} {v : Value}, keyIs k v = true -> (∃ i t, k = Sum.inl i /\ v = Value.int i t) \/ (∃ x t, k = Sum.inr x /\ v = Value.str x t)
 | .inl i, v, h => by
  obtain ⟨t, e⟩ := Value.isInt_shape (k := i) (v := v) h
  exact .inl ⟨i, t, rfl, e⟩
 | .inr x, v, h => by
  obtain ⟨t, e⟩ := Value.isStrOf_shape (x := x) (v := v) h
  exact .inr ⟨x, t, rfl, e⟩
theorem key_ll (a b : Int) : decide ((Sum.inl a : Key) = Sum.inl b) = (a == b) := by
 by_cases e : a = b
 . subst e; simp
 . have h : ¬ (Sum.inl a : Key) = Sum.inl b := fun q => e (Sum.inl.inj q)
   rw [decide_eq_false h]
   exact (beq_eq_false_iff_ne.mpr e).symm
theorem key_rr (a b : Str) : decide ((Sum.inr a : Key) = Sum.inr b) = decide (a = b) := by
 by_cases e : a = b
 . subst e; simp
 . have h : ¬ (Sum.inr a : Key) = Sum.inr b := fun q => e (Sum.inr.inj q)
   rw [decide_eq_false h, decide_eq_false e]
theorem key_lr (a : Int) (b : Str) : decide ((Sum.inl a : Key) = Sum.inr b) = false := decide_eq_false (fun q => nomatch q)
theorem key_rl (a : Str) (b : Int) : decide ((Sum.inr a : Key) = Sum.inl b) = false := decide_eq_false (fun q => nomatch q)
def Ng (prog : Program) (w : World) : PySem.KeyKind prog w Key where
 is := keyIs
 hash := keyH w
 inj := fun v a b ha hb => by
  rcases Pa ha with ⟨i, t, rfl, rfl⟩ | ⟨x, t, rfl, rfl⟩
  . rcases Pa hb with ⟨j, u, rfl, e⟩ | ⟨y, u, rfl, e⟩
    . injection e with e1 _; rw [e1]
    . exact nomatch e
  . rcases Pa hb with ⟨j, u, rfl, e⟩ | ⟨y, u, rfl, e⟩
    . exact nomatch e
    . injection e with e1 _; rw [e1]
 byValue := fun k v h => by
  rcases Pa h with ⟨i, t, rfl, rfl⟩ | ⟨x, t, rfl, rfl⟩ <;> rfl
 pyHash := fun hv h => by
  rcases Pa hv with ⟨i, t, rfl, rfl⟩ | ⟨x, t, rfl, rfl⟩
  . exact wpAny_pyHash_int h
  . exact wpAny_pyHash_str h
 eqBool := fun hu hv h => by
  rcases Pa hu with ⟨i, t, rfl, rfl⟩ | ⟨x, t, rfl, rfl⟩
  . rcases Pa hv with ⟨j, u, rfl, rfl⟩ | ⟨y, u, rfl, rfl⟩
    . rw [key_ll] at h; exact wpAny_eqBool_int h
    . rw [key_lr] at h; exact SeqAt.EqAt.int_str i t y u _ _ _ _ h
  . rcases Pa hv with ⟨j, u, rfl, rfl⟩ | ⟨y, u, rfl, rfl⟩
    . rw [key_rl] at h; exact SeqAt.EqAt.str_int x t j u _ _ _ _ h
    . rw [key_rr] at h; exact wpAny_eqBool_str h
 «strs» := fun k x t v h => by
  rcases Pa h with ⟨i, u, rfl, e⟩ | ⟨y, u, rfl, e⟩
  . exact nomatch e
  . injection e with e1 _
    subst e1
    cases v <;> rfl
end L2
namespace L2
open PySem PySem.Spec PyProof.Rows
inductive V where
 | non | bl (b : Bool) | int (i : Int) | str (x : Str) | byt (b : Array UInt8) | flt (b : UInt64) | ref (a : Addr) | ty (n : String)
 deriving DecidableEq
def RelV : V -> Value -> Prop
 | .non, u => u = Value.none
 | .bl b, u => u = Value.bool b
 | .int i, u => ∃ t, u = Value.int i t
 | .str x, u => ∃ t, u = Value.str x t
 | .byt b, u => ∃ t, u = Value.bytes b t
 | .flt b, u => ∃ t, u = Value.float b t
 | .ref a, u => u = Value.ref a
 | .ty n, u => u = Value.type n
abbrev Vals : List V -> List Value -> Prop := Paired RelV
theorem Vals.length {xs : List V} {us : List Value} (r : Vals xs us) : xs.length = us.length := Paired.length r
theorem Vals.get : ∀ {xs : List V} {us : List Value} {i : Nat} {x : V}, Vals xs us -> xs[i]? = some x -> ∃ u, us[i]? = some u /\ RelV x u
 | _, _, _, _, .nil, e => by simp at e
 | _, _, 0, _, .cons r _, e => by simp at e; subst e; exact ⟨_, rfl, r⟩
 | _, _, i + 1, x, .cons _ t, e => by
  obtain ⟨u, h1, h2⟩ := Vals.get (i := i) (x := x) t (by simpa using e)
  exact ⟨u, by simpa using h1, h2⟩
theorem Vals.set {x : V} {u : Value} (r : RelV x u) : ∀ {xs : List V} {us : List Value} (i : Nat), Vals xs us -> Vals (xs.set i x) (us.set i u)
 | _, _, _, .nil => .nil
 | _, _, 0, .cons _ t => .cons r t
 | _, _, i + 1, .cons q t => .cons q (Vals.set r i t)
theorem Vals.append : ∀ {xs ys : List V} {us ws : List Value}, Vals xs us -> Vals ys ws -> Vals (xs ++ ys) (us ++ ws)
 | _, _, _, _, .nil, s => s
 | _, _, _, _, .cons r t, s => .cons r (Vals.append t s)
theorem Vals.take : ∀ {xs : List V} {us : List Value} (n : Nat), Vals xs us -> Vals (xs.take n) (us.take n)
 | _, _, 0, _ => .nil
 | _, _, _ + 1, .nil => .nil
 | _, _, n + 1, .cons r t => .cons r (Vals.take n t)
theorem Vals.drop : ∀ {xs : List V} {us : List Value} (n : Nat), Vals xs us -> Vals (xs.drop n) (us.drop n)
 | _, _, 0, r => r
 | _, _, _ + 1, .nil => .nil
 | _, _, n + 1, .cons _ t => Vals.drop n t
def RelO : Option V -> Option Value -> Prop
 | some v, some u => RelV v u
 | none, none => True
 | _, _ => False
def KV {κ : Type} : List (κ × V) -> List (κ × Value) -> Prop := Paired fun (p : κ × V) (q : κ × Value) => p.1 = q.1 /\ RelV p.2 q.2
def kV : Key -> V
 | .inl i => .int i
 | .inr x => .str x
inductive HO where
 | lst (xs : List V)
 | tup (xs : List V)
 | dK (kvs : List (Key × V)) | dT (kvs : List (List Key × V))
 | set (S : Int -> Bool) (n : Nat)
 | ins (C dx : Addr) (fs : List (Str × V))
 | own (x : Addr)
 | xd (fs : List (Str × V))
 | met (f x : Addr)
 | rng (lo hi : Int)
 | frz (o : Obj) (u : HO)
 | tbl (ps : Array Value)
 | ext (φ : Heap -> Prop)
abbrev Hp := Addr -> Option HO
def upd (H : Hp) (a : Addr) (o : HO) : Hp := fun b => if b = a then some o else H b
theorem la {H : Hp} {a : Addr} {o : HO} : upd H a o a = some o := by unfold upd; rw [if_pos rfl]
theorem wa {H : Hp} {a b : Addr} {o : HO} (h : b ≠ a) : upd H a o b = H b := by unfold upd; rw [if_neg h]
theorem ne_of {H : Hp} {a b : Addr} {o u : HO} (h : H a = some o) (h' : H b = some u) (d : o ≠ u) : a ≠ b := by
 intro e; subst e; rw [h] at h'; exact d (Option.some.inj h')
theorem ka {H : Hp} {a b : Addr} {o : HO} (h : H a = some o) (h' : H b = none) : a ≠ b := by
 intro e; subst e; rw [h] at h'; cases h'
section
variable (P : Program) (w : World)
def fb (H : Hp) (h : Heap) (a : Addr) : HO -> Prop
 | .lst xs => xs.length <= sizeLine /\ ∃ (its : List Value) (n : Nat), Vals xs its /\ h.get? a = some { cls := .type "list", data := .seq its.toArray n }
 | .tup xs => xs.length <= sizeLine /\ ∃ its : List Value, Vals xs its /\ IsTup h a its.toArray
 | .dK kvs => kvs.length <= sizeLine /\ (a == sysModules) = false /\ ∃ vs, KV kvs vs /\ h.DictOf (Ng P w) a vs
 | .dT kvs => kvs.length <= sizeLine /\ (a == sysModules) = false /\ ∃ xs : List (List Key × Addr × Value),
  Paired (fun (p : List Key × V) (q : List Key × Addr × Value) => p.1 = q.1 /\ H q.2.1 = some (.tup (p.1.map kV)) /\ RelV p.2 q.2.2) kvs xs /\
  ∃ o es ep, h.get? a = some o /\ o.ExactDict /\ o.data = .dict es ep /\ es.toList = xs.map (entryOfKey (tupleKind (Ng P w))) /\ (xs.map (·.1)).Nodup
 | .set S n => h.SetOf (intKind P w) a S n
 | .ins C dx fs => H dx = some (.own a) /\ fs.length <= 1000 /\ dx ≠ a /\ h.get? a = some (PySem.W.instObj C dx) /\
  ∃ mA, h.Ns1 dx mA /\ (∀ f, RelO (fs.lookup f) (mA f)) /\ PySem.Within mA (fs.map (·.1))
 | .own _ => ∃ o, h.get? a = some o
 | .xd fs => ∃ mA, h.Ns1 a mA /\ ∀ f, RelO (fs.lookup f) (mA f)
 | .rng lo hi => ∃ t u v, h.get? a = some { cls := .type "range", data := .fields #[.int lo t, .int hi u, .int 1 v] }
 | .frz o u => h.get? a = some o /\ fb H h a u
 | .tbl ps => h.get? a = some { cls := .none, data := .fields ps }
 | .met f x => h.get? a = some (PySem.W.methodObj (.ref f) (.ref x))
 | .ext φ => φ h /\ (∃ o, h.get? a = some o) /\ ∀ h1 h2 : Heap, φ h1 -> (∀ o, h1.get? a = some o -> h2.get? a = some o) -> φ h2
def HOk (H : Hp) (h : Heap) : Prop := ∀ a o, H a = some o -> fb P w H h a o
end
section
variable {P : Program} {w : World} {H H' : Hp} {h h' : Heap} {a : Addr} {o : HO}
theorem fb.lt (x : fb P w H h a o) : a < h.objs.size := by
 cases o with
 | lst xs => obtain ⟨_, _, _, _, e⟩ := x; exact Heap.lt_size e
 | tup xs => obtain ⟨_, _, _, p⟩ := x; exact p.lt
 | dK kvs => obtain ⟨_, _, _, _, o, _, _, e, _⟩ := x; exact Heap.lt_size e
 | dT kvs => obtain ⟨_, _, _, _, o, _, _, e, _⟩ := x; exact Heap.lt_size e
 | set S n => obtain ⟨o, _, _, _, e, _⟩ := x; exact Heap.lt_size e
 | ins C dx fs => obtain ⟨_, _, _, e, _⟩ := x; exact Heap.lt_size e
 | own y => obtain ⟨_, e⟩ := x; exact Heap.lt_size e
 | xd fs => obtain ⟨_, ⟨_, _, _, e, _⟩, _⟩ := x; exact Heap.lt_size e
 | rng lo hi => obtain ⟨_, _, _, e⟩ := x; exact Heap.lt_size e
 | frz ob u => obtain ⟨e, _⟩ := x; exact Heap.lt_size e
 | tbl ps => exact Heap.lt_size (show h.get? a = some _ from x)
 | met f y => exact Heap.lt_size (show h.get? a = some _ from x)
 | ext φ => obtain ⟨_, ⟨_, e⟩, _⟩ := x; exact Heap.lt_size e
theorem Paired.mapP {α β : Type} {F G : α -> β -> Prop} : ∀ {l₁ : List α} {l₂ : List β}, Paired F l₁ l₂ -> (∀ a b, F a b -> G a b) -> Paired G l₁ l₂
 | _, _, .nil, _ => .nil
 | _, _, .cons r t, f => .cons (f _ _ r) (Paired.mapP t f)
theorem fb.stay (x : fb P w H h a o) (k : ∀ b u, (b = a \/ H b = some (.own a)) -> h.get? b = some u -> h'.get? b = some u)
 (ho : ∀ b, H b = some (.own a) -> H' b = some (.own a)) (ht : ∀ b xs, H b = some (.tup xs) -> H' b = some (.tup xs)) : fb P w H' h' a o := by
 induction o with
 | lst xs => obtain ⟨z, its, n, r, e⟩ := x; exact ⟨z, its, n, r, k _ _ (.inl rfl) e⟩
 | tup xs => obtain ⟨z, its, r, ob, e, c⟩ := x; exact ⟨z, its, r, ob, k _ _ (.inl rfl) e, c⟩
 | dK kvs => obtain ⟨z, y, vs, r, ob, es, ep, e, c⟩ := x; exact ⟨z, y, vs, r, ob, es, ep, k _ _ (.inl rfl) e, c⟩
 | dT kvs =>
  obtain ⟨z, y, xs, r, ob, es, ep, e, c⟩ := x
  exact ⟨z, y, xs, Paired.mapP r fun p q z => ⟨z.1, ht _ _ z.2.1, z.2.2⟩, ob, es, ep, k _ _ (.inl rfl) e, c⟩
 | set S n => obtain ⟨ob, es, ep, t, e, c⟩ := x; exact ⟨ob, es, ep, t, k _ _ (.inl rfl) e, c⟩
 | ins C dx fs =>
  obtain ⟨d, z, ne, e, mA, ⟨od, es, ep, e2, c⟩, r⟩ := x
  exact ⟨ho _ d, z, ne, k _ _ (.inl rfl) e, mA, ⟨od, es, ep, k _ _ (.inr d) e2, c⟩, r⟩
 | own y => obtain ⟨ob, e⟩ := x; exact ⟨ob, k _ _ (.inl rfl) e⟩
 | xd fs => obtain ⟨mA, ⟨od, es, ep, e, c⟩, r⟩ := x; exact ⟨mA, ⟨od, es, ep, k _ _ (.inl rfl) e, c⟩, r⟩
 | rng lo hi => obtain ⟨t, u, v, e⟩ := x; exact ⟨t, u, v, k _ _ (.inl rfl) e⟩
 | frz ob u ih => obtain ⟨e, q⟩ := x; exact ⟨k _ _ (.inl rfl) e, ih q⟩
 | tbl ps =>
  have e : h.get? a = some { cls := .none, data := .fields ps } := x
  show h'.get? a = some { cls := .none, data := .fields ps }
  exact k a _ (.inl rfl) e
 | met f y =>
  have e : h.get? a = some (PySem.W.methodObj (.ref f) (.ref y)) := x
  show h'.get? a = some (PySem.W.methodObj (.ref f) (.ref y))
  exact k a _ (.inl rfl) e
 | ext φ => obtain ⟨p, ⟨o, e⟩, st⟩ := x; exact ⟨st _ _ p fun o q => k _ _ (.inl rfl) q, ⟨o, k _ _ (.inl rfl) e⟩, st⟩
theorem HOk.lt (x : HOk P w H h) (e : H a = some o) : a < h.objs.size := (x a o e).lt
theorem HOk.fresh (x : HOk P w H h) (e : h.objs.size <= a) : H a = none := by
 cases q : H a with
 | none => rfl
 | some u => exact absurd (Nat.lt_of_lt_of_le (x.lt q) e) (Nat.lt_irrefl _)
theorem HOk.kept (x : HOk P w H h) (k : ∀ b u, h.get? b = some u -> h'.get? b = some u) : HOk P w H h' := fun a o e =>
 (x a o e).stay (fun b u _ q => k b u q) (fun _ q => q) fun _ _ q => q
theorem HOk.laid (x : HOk P w H h) (k : ∀ b u, h.get? b = some u -> h'.get? b = some u) (hp : h.objs.size <= a) (new : fb P w (upd H a o) h' a o) : HOk P w (upd H a o) h' := fun b u e => by
 have hn := x.fresh hp
 by_cases hb : b = a
 . subst hb; rw [la] at e; cases e; exact new
 . rw [wa hb] at e
   exact (x b u e).stay (fun c v _ q => k c v q) (fun c q => by rw [wa (ka q hn)]; exact q) fun c xs q => by rw [wa (ka q hn)]; exact q
end
def Rd (H : Hp) (a : Addr) (u : HO) : Prop := H a = some u \/ ∃ o, H a = some (.frz o u)
theorem Rd.of {H : Hp} {a : Addr} {u : HO} (h : H a = some u) : Rd H a u := .inl h
theorem Rd.ok {P : Program} {w : World} {H : Hp} {h : Heap} {a : Addr} {u : HO} (r : Rd H a u) (x : HOk P w H h) : fb P w H h a u := by
 rcases r with r | ⟨o, r⟩
 . exact x a u r
 . obtain ⟨_, q⟩ := x a _ r
   exact q
def Mut : Option HO -> Prop
 | some (.lst _) => True
 | some (.dK _) => True
 | some (.dT _) => True
 | some (.set _ _) => True
 | some (.ins _ _ _) => True
 | some (.ext _) => True
 | _ => False
section
variable {P : Program} {w : World} {H : Hp} {h h' : Heap} {x e : Addr} {o' : HO}
theorem HOk.write (ok : HOk P w H h) (mu : Mut (H x)) (he : e = x \/ H e = some (.own x)) (k : ∀ b u, b ≠ e -> h.get? b = some u -> h'.get? b = some u) (heo : ∃ u, h'.get? e = some u)
 (new : fb P w (upd H x o') h' x o') : HOk P w (upd H x o') h' := fun b u q => by
 have nown : ∀ c y, H c = some (.own y) -> c ≠ x := fun c y r z => by subst z; rw [r] at mu; exact mu
 have ntup : ∀ c xs, H c = some (.tup xs) -> c ≠ x := fun c xs r z => by subst z; rw [r] at mu; exact mu
 by_cases hb : b = x
 . subst hb; rw [la] at q; cases q; exact new
 . rw [wa hb] at q
   by_cases hbe : b = e
   . have q' : H b = some (.own x) := by
      rcases he with z | z
      . exact absurd (hbe.trans z) hb
      . rw [hbe]; exact z
     rw [q] at q'; cases q'
     obtain ⟨v, hv⟩ := heo
     exact ⟨v, by rw [hbe]; exact hv⟩
   . refine (ok b u q).stay (fun c v hc r => k c v ?_ r) (fun c r => by rw [wa (nown c b r)]; exact r) fun c xs r => by rw [wa (ntup c xs r)]; exact r
     rcases hc with rfl | hc
     . exact hbe
     . rintro rfl
       rcases he with z | z
       . exact nown c b hc z
       . rw [hc] at z; cases z; exact hb rfl
end
structure Un (fs ex : List Addr) (H H' : Hp) (h h' : Heap) : Prop where
 keep : ∀ b o, h.get? b = some o -> H b = none -> b ∉ fs -> b ∉ ex -> h'.get? b = some o
 slot : ∀ b o, h.get? b = some o -> H b = none -> b ∈ fs -> b ∉ ex -> ∃ sl, h'.get? b = some { o with slots := sl }
 free : ∀ b o, h.get? b = some o -> H b = none -> b ∉ ex -> H' b = none
 there : ∀ b o, h.get? b = some o -> b ∉ ex -> ∃ o', h'.get? b = some o'
 tups : ∀ b xs, H b = some (.tup xs) -> H' b = some (.tup xs)
 frzs : ∀ b o u, H b = some (.frz o u) -> H' b = some (.frz o u)
 tbls : ∀ b ps, H b = some (.tbl ps) -> ∃ more, H' b = some (.tbl (ps ++ more))
section
variable {fs fs' ex ex' : List Addr} {H H1 H2 : Hp} {h h1 h2 h' : Heap} {a x e : Addr} {o : HO}
theorem Un.any (u : Un fs ex H H1 h h1) {b : Addr} {ob : Obj} (q : h.get? b = some ob) (n : H b = none) (hx : b ∉ ex) : ∃ sl, h1.get? b = some { ob with slots := sl } := by
 by_cases hb : b ∈ fs
 . exact u.slot b ob q n hb hx
 . exact ⟨ob.slots, u.keep b ob q n hb hx⟩
theorem Un.kept (k : ∀ b u, h.get? b = some u -> h'.get? b = some u) : Un fs ex H H h h' :=
 ⟨fun b ob q _ _ _ => k b ob q, fun b ob q _ _ _ => ⟨ob.slots, k b ob q⟩, fun _ _ _ n _ => n, fun b ob q _ => ⟨ob, k b ob q⟩, fun _ _ q => q, fun _ _ _ q => q, fun _ ps q => ⟨#[], by rw [q]; simp⟩⟩
theorem Un.refl : Un fs ex H H h h := Un.kept fun _ _ q => q
theorem Un.laid (k : ∀ b u, h.get? b = some u -> h'.get? b = some u) (hp : h.objs.size <= a) (hn : H a = none) : Un fs ex H (upd H a o) h h' where
 keep := fun b u q _ _ _ => k b u q
 slot := fun b u q _ _ _ => ⟨u.slots, k b u q⟩
 free := fun b u q n _ => by rw [wa (Nat.ne_of_lt (Nat.lt_of_lt_of_le (Heap.lt_size q) hp))]; exact n
 there := fun b u q _ => ⟨u, k b u q⟩
 tups := fun b xs q => by rw [wa (ka q hn)]; exact q
 frzs := fun b u xs q => by rw [wa (ka q hn)]; exact q
 tbls := fun b ps q => ⟨#[], by rw [wa (ka q hn), q]; simp⟩
theorem Un.write (mu : Mut (H x)) (he : e = x \/ H e = some (.own x)) (k : ∀ b u, b ≠ e -> h.get? b = some u -> h'.get? b = some u) (heo : ∃ u, h'.get? e = some u) : Un fs ex H (upd H x o) h h' := by
 have hx : ∀ b, H b = none -> b ≠ x := fun b n z => by subst z; rw [n] at mu; exact mu
 have hb : ∀ b, H b = none -> b ≠ e := fun b n z => by
  subst z
  rcases he with r | r
  . exact hx b n r
  . rw [n] at r; cases r
 have hm : ∀ b u, H b = some u -> ¬ Mut (some u) -> b ≠ x := fun b u q nm z => by subst z; rw [q] at mu; exact nm mu
 refine ⟨fun b u q n _ _ => k b u (hb b n) q, fun b u q n _ _ => ⟨u.slots, k b u (hb b n) q⟩, fun b u q n _ => by rw [wa (hx b n)]; exact n, fun b u q _ => ?_,
  fun b xs q => by rw [wa (hm b _ q fun z => z)]; exact q, fun b u xs q => by rw [wa (hm b _ q fun z => z)]; exact q, fun b ps q => ⟨#[], by rw [wa (hm b _ q fun z => z), q]; simp⟩⟩
 by_cases hbe : b = e
 . subst hbe; exact heo
 . exact ⟨u, k b u hbe q⟩
end
def trk (h : Heap) (H : Hp) : List Addr := (List.range h.objs.size).filter fun a => (H a).isSome
def hidT (h : Heap) (H : Hp) : Heap := PySem.W.hideAll h (trk h H)
theorem pj (h : Heap) (H : Hp) : (hidT h H).objs.size = h.objs.size := PySem.W.hideAll_size _ _
theorem Pk {h : Heap} {H : Hp} {b : Addr} {o : Obj} (e : h.get? b = some o) (n : H b = none) : (hidT h H).get? b = some o :=
 PySem.W.hideAll_get _ e fun hm => by
  have q : (H b).isSome = true := (List.mem_filter.mp hm).2
  rw [n] at q; simp at q
theorem Pm {h : Heap} {H : Hp} {b : Addr} {o : Obj} (e : (hidT h H).get? b = some o) : h.get? b = some o /\ H b = none := by
 have e' : h.get? b = some o := PySem.W.of_hideAll (trk h H) e
 refine ⟨e', ?_⟩
 cases q : H b with
 | none => rfl
 | some x =>
  have hm : b ∈ trk h H := List.mem_filter.mpr ⟨List.mem_range.mpr (Heap.lt_size e'), by simp [q]⟩
  have z : (hidT h H).get? b = none := PySem.W.hideAll_none (trk h H) hm
  rw [z] at e; cases e
def An (g h : Heap) (L : Addr) : List (Addr × Obj) := (List.range h.objs.size).filterMap fun a => if a = L \/ (g.get? a).isSome = true then none else (h.get? a).map fun o => (a, o)
def rest (g h : Heap) (L d : Addr) : List (Addr × Obj) := (An g h L).filter fun p => decide (p.1 ≠ d)
end L2
namespace L2
open PySem PySem.Spec PyProof.Rows
structure Mod (K : PySem.W.Frag) (mg : Str -> Option Value) (base : Heap) : Prop where
 kin : K.In base
 glob : base.Ns mainGlobals mg
 blt : ∃ mb, base.Ns builtinsNs mb /\ ∀ x : Str, x ≠ "__name__" -> mb x = bootBuiltins x
 nolimit : base.NoLimit
structure Cx where
 prog : Program
 w : World
 K : PySem.W.Frag
 mg : Str -> Option Value
 base : Heap
 A : Around
 N : List Str
 s₀ : Shared
 H₀ : Hp
 env : Env
 outer : List Env
 stack : List Env
 ex : List Addr
 fn : Str -> Bool
 calm : Bool
 pn : List (Addr × Obj)
 xe : Value -> Shared -> Prop
def frs (l : List Env) : List Addr := l.filterMap (·.frame)
abbrev Cx.fs (X : Cx) : List Addr := frs X.outer
def Vis (sc : Scope) (x : Str) : Prop := sc.names.lookup x = some .local \/ sc.names.lookup x = some .cell \/ sc.names.lookup x = some .free
def Loc (sc : Scope) (x : Str) : Prop := sc.names.lookup x = some .local \/ sc.names.lookup x = some .cell
def Look (env : Env) (h : Heap) (m : Str -> Option Value) (x : Str) (u : Value) : Prop :=
 (env.kindOf x = some .local /\ m x = some u) \/ ((env.kindOf x = some .cell \/ env.kindOf x = some .free) /\ ∃ c, env.cells.lookup x = some c /\ h.IsCell c (some u))
structure Cx.Ok (X : Cx) : Prop where
 mod : Mod X.K X.mg X.base
 kind : X.env.scope.kind = .function
 glob : X.env.globals = mainGlobals
 blt : X.env.builtins = builtinsNs
 above : X.s₀.heap.objs.size <= X.env.locals
 inj : ∀ x y c, X.env.cells.lookup x = some c -> X.env.cells.lookup y = some c -> x = y
 has : ∀ x, (X.env.kindOf x = some .cell \/ X.env.kindOf x = some .free) -> ∃ c, X.env.cells.lookup x = some c
 cab : ∀ x c, X.fn x = true -> X.env.cells.lookup x = some c -> X.s₀.heap.objs.size <= c
 hd : X.calm = true -> X.A.handled = none
 frames : X.A.frames = some X.stack
 stk : X.stack = X.outer \/ (X.stack = X.env :: X.outer /\ X.env.frame = some X.env.locals)
 exf : ∀ b ∈ X.ex, b ≠ X.env.locals /\ ∀ x c, X.env.cells.lookup x = some c -> c ≠ b
 bs : ∀ b o, X.base.get? b = some o -> X.s₀.heap.get? b = some o /\ X.H₀ b = none
 bsz : X.base.objs.size <= X.s₀.heap.objs.size
 noex : ∀ b o, X.base.get? b = some o -> b ∉ X.ex
 exfs : ∀ b ∈ X.ex, b ∉ X.fs
 funs : X.s₀.heap.FunFrames X.base X.outer
 frf : ∀ b ∈ X.fs, X.H₀ b = none
structure Inv (X : Cx) (pins : List (Addr × Obj)) (σ : List (Option V)) (H : Hp) (s : Shared) : Prop where
 ok : X.Ok
 os : s.os = X.s₀.os
 bare : AllBare s.gens
 base : Un X.fs X.ex X.H₀ H X.s₀.heap s.heap
 loc : ∃ m, s.heap.Ns X.env.locals m /\ ∀ (i : Nat) (x : Str) (v : V), X.N[i]? = some x -> σ[i]? = some (some v) -> Vis X.env.scope x -> ∃ u, RelV v u /\ Look X.env s.heap m x u
 cell : ∀ x c, X.env.cells.lookup x = some c -> ∃ v, s.heap.IsCell c v
 free : H X.env.locals = none
 freeC : ∀ x c, X.env.cells.lookup x = some c -> H c = none
 pin : ∀ p ∈ X.pn ++ pins, s.heap.get? p.1 = some p.2 /\ H p.1 = none /\ p.1 ≠ X.env.locals /\ p.1 ∉ X.fs /\ ∀ v, p.2.data ≠ .cell v
 hok : HOk X.prog X.w H s.heap
 len : σ.length = X.N.length
section
variable {X : Cx} {pins : List (Addr × Obj)} {σ : List (Option V)} {H H' : Hp} {s : Shared} {h' : Heap}
theorem Cx.Ok.nofr (ok : X.Ok) {b : Addr} {o : Obj} (e : X.base.get? b = some o) : b ∉ X.fs := fun hb => by
 have := (ok.funs.mem hb).1
 rw [e] at this; cases this
theorem Inv.bs (I : Inv X pins σ H s) : ∀ b o, X.base.get? b = some o -> s.heap.get? b = some o /\ H b = none := fun b o e =>
 ⟨I.base.keep b o (I.ok.bs b o e).1 (I.ok.bs b o e).2 (I.ok.nofr e) (I.ok.noex b o e), I.base.free b o (I.ok.bs b o e).1 (I.ok.bs b o e).2 (I.ok.noex b o e)⟩
theorem Inv.bk (I : Inv X pins σ H s) : ∀ b o, X.base.get? b = some o -> s.heap.get? b = some o := fun b o e => (I.bs b o e).1
theorem Inv.mod (I : Inv X pins σ H s) : Mod X.K X.mg X.base := I.ok.mod
theorem Inv.kIn (I : Inv X pins σ H s) : X.K.In s.heap := I.ok.mod.kin.keeps I.bk
theorem Inv.fr (I : Inv X pins σ H s) : ∃ m, Fr X.base X.env.locals s.heap m :=
 let ⟨m, hn, _⟩ := I.loc
 ⟨m, hn, I.bk, Nat.le_trans I.ok.bsz I.ok.above⟩
theorem Inv.lt (I : Inv X pins σ H s) : X.env.locals < s.heap.objs.size := let ⟨_, hn, _⟩ := I.loc; hn.lt
theorem Inv.sz (I : Inv X pins σ H s) : X.s₀.heap.objs.size <= s.heap.objs.size := Nat.le_trans I.ok.above (Nat.le_of_lt I.lt)
theorem Inv.nofs (I : Inv X pins σ H s) {a : Addr} (h : s.heap.objs.size <= a) : a ∉ X.fs := fun hb => by
 obtain ⟨_, o, ho, _⟩ := I.ok.funs.mem hb
 exact absurd (Nat.lt_of_lt_of_le (Heap.lt_size ho) (Nat.le_trans I.sz h)) (Nat.lt_irrefl _)
theorem Inv.cne (I : Inv X pins σ H s) : ∀ x c, X.env.cells.lookup x = some c -> c ≠ X.env.locals := fun x c e z => by
 obtain ⟨v, o, ho, hd⟩ := I.cell x c e
 obtain ⟨m, ⟨o', es, ep, ho', hd', _⟩, _⟩ := I.loc
 rw [z, ho'] at ho; cases ho; rw [hd'] at hd; cases hd
theorem Inv.funs (I : Inv X pins σ H s) : s.heap.FunFrames X.base X.outer := by
 have all : ∀ (l : List Env), (∀ b ∈ frs l, b ∈ X.fs) -> X.s₀.heap.FunFrames X.base l -> s.heap.FunFrames X.base l := by
  intro l
  induction l with
  | nil => intro _ _; trivial
  | cons env r ih =>
   intro hs hl
   obtain ⟨hk, ⟨L, o, hf, hn, ho, hd⟩, hr⟩ := hl
   have hL : L ∈ X.fs := hs L (by unfold frs; rw [List.filterMap_cons, hf]; exact List.mem_cons_self)
   obtain ⟨sl, e⟩ := I.base.slot L o ho (I.ok.frf L hL) hL fun z => I.ok.exfs L z hL
   exact ⟨hk, ⟨L, _, hf, hn, e, hd⟩, ih (fun b hb => hs b (by unfold frs; rw [List.filterMap_cons, hf]; exact List.mem_cons_of_mem _ hb)) hr⟩
 exact all X.outer (fun _ hb => hb) I.ok.funs
theorem Inv.stack (I : Inv X pins σ H s) : s.heap.FunFrames X.base X.stack := by
 rcases I.ok.stk with e | ⟨e, hf⟩
 . rw [e]; exact I.funs
 . rw [e]
   obtain ⟨m, hn, _⟩ := I.loc
   refine .cons (by rw [I.ok.kind]; decide) hf hn ?_ I.funs
   exact Heap.get?_none_of_le (Nat.le_trans I.ok.bsz I.ok.above)
theorem Inv.bh (I : Inv X pins σ H s) : ∀ b ∈ frs X.stack, b ∈ X.env.locals :: X.fs := fun b hb => by
 rcases I.ok.stk with e | ⟨e, hf⟩
 . rw [e] at hb; exact List.mem_cons_of_mem _ hb
 . rw [e] at hb
   unfold frs at hb
   rw [List.filterMap_cons, hf] at hb
   exact hb
theorem Inv.Kc (I : Inv X pins σ H s) : ∀ b ∈ frs X.stack, H b = none := fun b hb => by
 rcases List.mem_cons.mp (I.bh b hb) with e | hb
 . rw [e]; exact I.free
 . obtain ⟨_, o, ho, _⟩ := I.ok.funs.mem hb
   exact I.base.free b o ho (I.ok.frf b hb) fun z => I.ok.exfs b z hb
theorem Inv.step {g' : Array GenState} {t' : Nat} {d' : Drawn} {ch : List Addr} (I : Inv X pins σ H s)
 (hch : ∀ b ∈ ch, (b ∈ X.ex \/ X.s₀.heap.objs.size <= b) /\ b ≠ X.env.locals /\ (∀ x c, X.env.cells.lookup x = some c -> c ≠ b) /\ ∀ p ∈ X.pn ++ pins, p.1 ≠ b)
 (keep : ∀ b o, b ≠ X.env.locals -> b ∉ X.fs -> b ∉ ch -> s.heap.get? b = some o -> H b = none -> h'.get? b = some o)
 (slot : ∀ b o, b ≠ X.env.locals -> b ∈ X.fs -> b ∉ ch -> s.heap.get? b = some o -> H b = none -> ∃ sl, h'.get? b = some { o with slots := sl }) (free : ∀ b o, b ∉ ch -> s.heap.get? b = some o -> H b = none -> H' b = none)
 (there : ∀ b o, b ∉ ch -> s.heap.get? b = some o -> ∃ o', h'.get? b = some o')
 (tups : ∀ b xs, H b = some (.tup xs) -> H' b = some (.tup xs)) (frzs : ∀ b o u, H b = some (.frz o u) -> H' b = some (.frz o u)) (tbls : ∀ b ps, H b = some (.tbl ps) -> ∃ more, H' b = some (.tbl (ps ++ more)))
 (ns : ∀ m, s.heap.Ns X.env.locals m -> h'.Ns X.env.locals m) (hok : HOk X.prog X.w H' h') (hg : AllBare g') :
 Inv X pins σ H' { s with heap := h', gens := g', drawn := d', toks := t' } := by
 have neL : ∀ b o, X.s₀.heap.get? b = some o -> b ≠ X.env.locals := fun b o e => Nat.ne_of_lt (Nat.lt_of_lt_of_le (Heap.lt_size e) I.ok.above)
 have neC : ∀ b o, X.s₀.heap.get? b = some o -> b ∉ X.ex -> b ∉ ch := fun b o e hx hb => by
  rcases (hch b hb).1 with z | z
  . exact hx z
  . exact absurd (Nat.lt_of_lt_of_le (Heap.lt_size e) z) (Nat.lt_irrefl _)
 have cellK : ∀ x c, X.env.cells.lookup x = some c -> ∀ v, s.heap.IsCell c v -> h'.IsCell c v := fun x c e v ⟨o, ho, hd⟩ => by
  have nch : c ∉ ch := fun z => (hch c z).2.2.1 x c e rfl
  by_cases hc : c ∈ X.fs
  . obtain ⟨sl, q⟩ := slot c o (I.cne x c e) hc nch ho (I.freeC x c e)
    exact ⟨_, q, hd⟩
  . exact ⟨o, keep c o (I.cne x c e) hc nch ho (I.freeC x c e), hd⟩
 refine ⟨I.ok, I.os, hg, ⟨fun b o e n hb hx => ?_, fun b o e n hb hx => ?_, fun b o e n hx => ?_, fun b o e hx => ?_, fun b xs e => tups b xs (I.base.tups b xs e), fun b o xs e => frzs b o xs (I.base.frzs b o xs e), fun b ps e => ?_⟩, ?_, fun x c e => ?_, ?_, fun x c e => ?_, fun p hp => ?_, hok, I.len⟩
 . exact keep b o (neL b o e) hb (neC b o e hx) (I.base.keep b o e n hb hx) (I.base.free b o e n hx)
 . obtain ⟨sl, e1⟩ := I.base.slot b o e n hb hx
   obtain ⟨sl', e2⟩ := slot b _ (neL b o e) hb (neC b o e hx) e1 (I.base.free b o e n hx)
   exact ⟨sl', e2⟩
 . obtain ⟨o', e1⟩ := I.base.there b o e hx
   exact free b o' (neC b o e hx) e1 (I.base.free b o e n hx)
 . obtain ⟨o', e1⟩ := I.base.there b o e hx
   exact there b o' (neC b o e hx) e1
 . obtain ⟨m1, e1⟩ := I.base.tbls b ps e
   obtain ⟨m2, e2⟩ := tbls b _ e1
   exact ⟨m1 ++ m2, by rw [e2, Array.append_assoc]⟩
 . obtain ⟨m, hn, hl⟩ := I.loc
   refine ⟨m, ns m hn, fun i x v e1 e2 e3 => ?_⟩
   obtain ⟨u, r, l⟩ := hl i x v e1 e2 e3
   refine ⟨u, r, ?_⟩
   rcases l with l | ⟨k, c, e, z⟩
   . exact .inl l
   . exact .inr ⟨k, c, e, cellK x c e _ z⟩
 . obtain ⟨v, z⟩ := I.cell x c e
   exact ⟨v, cellK x c e v z⟩
 . obtain ⟨m, ⟨o, _, _, ho, _⟩, _⟩ := I.loc
   exact free _ o (fun z => (hch _ z).2.1 rfl) ho I.free
 . obtain ⟨v, o, ho, hd⟩ := I.cell x c e
   exact free c o (fun z => (hch c z).2.2.1 x c e rfl) ho (I.freeC x c e)
 . obtain ⟨e, n, ne, nf, d⟩ := I.pin p hp
   have nch : p.1 ∉ ch := fun z => (hch p.1 z).2.2.2 p hp rfl
   exact ⟨keep p.1 p.2 ne nf nch e n, free p.1 p.2 nch e n, ne, nf, d⟩
theorem Inv.un {t' : Nat} (I : Inv X pins σ H s) (u : Un X.fs [] H H' s.heap h') (hok : HOk X.prog X.w H' h') : Inv X pins σ H' { s with heap := h', toks := t' } := by
 obtain ⟨m, ⟨o, es, ep, ho, r⟩, _⟩ := id I.loc
 obtain ⟨sl, hL⟩ := u.any ho I.free (by simp)
 exact I.step (g' := s.gens) (d' := s.drawn) (ch := []) (fun _ z => nomatch z) (fun b o _ hb _ e n => u.keep b o e n hb (by simp)) (fun b o _ hb _ e n => u.slot b o e n hb (by simp)) (fun b o _ e n => u.free b o e n (by simp)) (fun b o _ e => u.there b o e (by simp)) u.tups u.frzs u.tbls (fun m' hm => by
  obtain ⟨o', es', ep', ho', r'⟩ := hm
  rw [ho] at ho'; cases ho'
  exact ⟨_, es', ep', hL, r'⟩) hok I.bare
theorem Inv.call {g' : Array GenState} {t' : Nat} {d' : Drawn} {ch : List Addr} (I : Inv X pins σ H s) (u : Un (frs X.stack) ch H H' s.heap h') (hok : HOk X.prog X.w H' h') (hg : AllBare g')
 (hch : ∀ b ∈ ch, (b ∈ X.ex \/ X.s₀.heap.objs.size <= b) /\ b ≠ X.env.locals /\ (∀ x c, X.env.cells.lookup x = some c -> c ≠ b) /\ ∀ p ∈ X.pn ++ pins, p.1 ≠ b) :
 Inv X pins σ H' { s with heap := h', gens := g', drawn := d', toks := t' } := by
 obtain ⟨m, ⟨o, es, ep, ho, r⟩, _⟩ := id I.loc
 obtain ⟨sl, hL⟩ := u.any ho I.free fun z => (hch _ z).2.1 rfl
 exact I.step (ch := ch) hch (fun b o hL hb hc e n => u.keep b o e n (fun z => (List.mem_cons.mp (I.bh b z)).elim hL hb) hc) (fun b o _ _ hc e n => u.any e n hc) (fun b o hc e n => u.free b o e n hc) (fun b o hc e => u.there b o e hc) u.tups u.frzs u.tbls (fun m' hm => by
  obtain ⟨o', es', ep', ho', r'⟩ := hm
  rw [ho] at ho'; cases ho'
  exact ⟨_, es', ep', hL, r'⟩) hok hg
theorem Inv.turned {t' : Nat} {it : Addr} (I : Inv X pins σ H s) (k : ∀ b o, b ≠ it -> s.heap.get? b = some o -> h'.get? b = some o) (hn : H it = none) (hL : it ≠ X.env.locals)
 (h1 : it ∈ X.ex \/ X.s₀.heap.objs.size <= it) (h2 : ∀ x c, X.env.cells.lookup x = some c -> c ≠ it) (h3 : ∀ p ∈ X.pn ++ pins, p.1 ≠ it) : Inv X pins σ H { s with heap := h', toks := t' } := by
 have nit : ∀ b u, H b = some u -> b ≠ it := fun b u e z => by rw [z, hn] at e; cases e
 refine I.step (g' := s.gens) (d' := s.drawn) (ch := [it]) (fun b hb => ?_) (fun b o _ _ hc e _ => k b o (fun z => hc (by simp [z])) e) (fun b o _ _ hc e _ => ⟨o.slots, k b o (fun z => hc (by simp [z])) e⟩) (fun _ _ _ _ n => n)
  (fun b o hc e => ⟨o, k b o (fun z => hc (by simp [z])) e⟩) (fun _ _ e => e) (fun _ _ _ e => e) (fun b ps e => ⟨#[], by rw [e]; simp⟩) (fun m hm => ?_) (fun b u e => ?_) I.bare
 . have e : b = it := by simpa using hb
   subst e
   exact ⟨h1, hL, h2, h3⟩
 . obtain ⟨o, es, ep, ho, r⟩ := hm
   exact ⟨o, es, ep, k _ o (Ne.symm hL) ho, r⟩
 . refine (I.hok b u e).stay (fun c v hc q => k c v ?_ q) (fun _ q => q) fun _ _ q => q
   rcases hc with z | z
   . rw [z]; exact nit b u e
   . exact nit c _ z
theorem Inv.tok (I : Inv X pins σ H s) (t : Nat) : Inv X pins σ H { s with toks := t } := I.un (h' := s.heap) (t' := t) Un.refl I.hok
theorem Inv.kept {t' : Nat} (I : Inv X pins σ H s) (k : ∀ b u, s.heap.get? b = some u -> h'.get? b = some u) : Inv X pins σ H { s with heap := h', toks := t' } := I.un (Un.kept k) (I.hok.kept k)
theorem Inv.laid {a : Addr} {o : HO} {t' : Nat} (I : Inv X pins σ H s) (k : ∀ b u, s.heap.get? b = some u -> h'.get? b = some u) (hp : s.heap.objs.size <= a) (new : fb X.prog X.w (upd H a o) h' a o) :
 Inv X pins σ (upd H a o) { s with heap := h', toks := t' } := I.un (Un.laid k hp (I.hok.fresh hp)) (I.hok.laid k hp new)
theorem Inv.write {x e : Addr} {o : HO} {t' : Nat} (I : Inv X pins σ H s) (mu : Mut (H x)) (he : e = x \/ H e = some (.own x)) (k : ∀ b u, b ≠ e -> s.heap.get? b = some u -> h'.get? b = some u) (heo : ∃ u, h'.get? e = some u)
 (new : fb X.prog X.w (upd H x o) h' x o) : Inv X pins σ (upd H x o) { s with heap := h', toks := t' } := I.un (Un.write mu he k heo) (I.hok.write mu he k heo new)
theorem Inv.Jd {pins' : List (Addr × Obj)} (I : Inv X pins σ H s) (h : ∀ p ∈ pins', s.heap.get? p.1 = some p.2 /\ H p.1 = none /\ p.1 ≠ X.env.locals /\ p.1 ∉ X.fs /\ ∀ v, p.2.data ≠ .cell v) : Inv X pins' σ H s :=
 ⟨I.ok, I.os, I.bare, I.base, I.loc, I.cell, I.free, I.freeC, fun p hp => (List.mem_append.mp hp).elim (fun z => I.pin p (List.mem_append_left _ z)) (h p), I.hok, I.len⟩
theorem ff {N : List Str} (hN : N.Nodup) {i j : Nat} {x : Str} (a : N[i]? = some x) (b : N[j]? = some x) : i = j := by
 obtain ⟨h1, e1⟩ := List.getElem?_eq_some_iff.mp a
 obtain ⟨h2, e2⟩ := List.getElem?_eq_some_iff.mp b
 exact (List.getElem_inj hN).mp (e1.trans e2.symm)
theorem ni {M : Model} {A : Around} {E : Value -> Shared -> Prop} {i : Nat} {x : Str} {v : V} {u : Value} {Q : Unit -> Shared -> Prop} (I : Inv X pins σ H s) (hN : X.N.Nodup) (hi : X.N[i]? = some x) (hx : Loc X.env.scope x) (r : RelV v u)
 (h : ∀ s', Inv X pins (σ.set i (some v)) H s' -> (∃ a, Heap.SameBut a s.heap s'.heap /\ (a = X.env.locals \/ X.env.cells.lookup x = some a)) -> Q () s') (hf : X.fn x = true \/ X.env.scope.names.lookup x = some .local := by first | exact .inl rfl | exact .inr rfl | assumption | with_unfolding_all exact .inl rfl | with_unfolding_all exact .inr rfl) : wpAny M A (storeName X.env x u) Q E s := by
 obtain ⟨m, hn, hl⟩ := id I.loc
 have hcls : (X.env.scope.kind == .class || (X.env.scope.kind == .module && X.env.locals != X.env.globals)) = false := by rw [I.ok.kind]; rfl
 have hiσ : i < σ.length := by rw [I.len]; exact (List.getElem?_eq_some_iff.mp hi).1
 have cne := I.cne
 have tracked : ∀ {a : Addr} {h' : Heap}, (∃ o, s.heap.get? a = some o /\ H a = none) -> Heap.SameBut a s.heap h' -> HOk X.prog X.w H h' := fun {a h'} ha hs b ob e => by
  obtain ⟨_, _, hfree⟩ := ha
  refine (I.hok b ob e).stay (fun c w' hc q => (hs.2 c ?_).trans q) (fun _ q => q) fun _ _ q => q
  rintro rfl
  rcases hc with rfl | hc
  . rw [hfree] at e; cases e
  . rw [hfree] at hc; cases hc
 rcases hx with hk | hk
 . refine wpAny_storeName_local hk hn (fun h' hn' hs => ?_) hcls
   obtain ⟨oL, _, _, hoL, _⟩ := id hn
   refine h _ ⟨I.ok, I.os, I.bare, ⟨fun b o e n hb hx => ?_, fun b o e n hb hx => ?_, I.base.free, fun b o e hx => ?_, I.base.tups, I.base.frzs, I.base.tbls⟩, ⟨_, hn', fun j y v' e1 e2 e3 => ?_⟩, fun y c e => ?_, I.free, I.freeC, fun p hp => ?_, tracked ⟨oL, hoL, I.free⟩ hs, by simpa using I.len⟩ ⟨_, hs, .inl rfl⟩
   . exact (hs.2 b (Nat.ne_of_lt (Nat.lt_of_lt_of_le (Heap.lt_size e) I.ok.above))).trans (I.base.keep b o e n hb hx)
   . obtain ⟨sl, e1⟩ := I.base.slot b o e n hb hx
     exact ⟨sl, (hs.2 b (Nat.ne_of_lt (Nat.lt_of_lt_of_le (Heap.lt_size e) I.ok.above))).trans e1⟩
   . obtain ⟨o', e1⟩ := I.base.there b o e hx
     exact ⟨o', (hs.2 b (Nat.ne_of_lt (Nat.lt_of_lt_of_le (Heap.lt_size e) I.ok.above))).trans e1⟩
   . by_cases hj : j = i
     . subst hj
       rw [hi] at e1; cases e1
       rw [List.getElem?_set_self hiσ] at e2
       cases e2
       exact ⟨u, r, .inl ⟨hk, by simp⟩⟩
     . rw [List.getElem?_set_ne (Ne.symm hj)] at e2
       obtain ⟨u', r', q⟩ := hl j y v' e1 e2 e3
       refine ⟨u', r', ?_⟩
       rcases q with ⟨k, e⟩ | ⟨k, c, e, z⟩
       . refine .inl ⟨k, ?_⟩
         have : y ≠ x := fun e => hj (ff hN e1 (e ▸ hi))
         simp [this, e]
       . exact .inr ⟨k, c, e, z.sameBut hs (cne y c e)⟩
   . obtain ⟨w', z⟩ := I.cell y c e
     exact ⟨w', z.sameBut hs (cne y c e)⟩
   . obtain ⟨e, n, ne, nf, d⟩ := I.pin p hp
     exact ⟨(hs.2 p.1 ne).trans e, n, ne, nf, d⟩
 . have hfn : X.fn x = true := by
    rcases hf with z | z
    . exact z
    . rw [z] at hk; cases hk
   obtain ⟨c, hc⟩ := I.ok.has x (.inl hk)
   obtain ⟨w', z⟩ := I.cell x c hc
   refine wpAny_storeName_cell I.ok.kind hk hc z (fun h' hc' hs => ?_)
   obtain ⟨oc, hoc, hocd⟩ := id z
   refine h { s with heap := h' } ⟨I.ok, I.os, I.bare, ⟨fun b o e n hb hx => ?_, fun b o e n hb hx => ?_, I.base.free, fun b o e hx => ?_, I.base.tups, I.base.frzs, I.base.tbls⟩, ⟨m, hn.sameBut hs (Ne.symm (cne x c hc)), fun j y v' e1 e2 e3 => ?_⟩, fun y c' e => ?_, I.free, I.freeC, fun p hp => ?_, tracked ⟨oc, hoc, I.freeC x c hc⟩ hs, by simpa using I.len⟩ ⟨c, hs, .inr hc⟩
   . exact (hs.2 b (Nat.ne_of_lt (Nat.lt_of_lt_of_le (Heap.lt_size e) (I.ok.cab x c hfn hc)))).trans (I.base.keep b o e n hb hx)
   . obtain ⟨sl, e1⟩ := I.base.slot b o e n hb hx
     exact ⟨sl, (hs.2 b (Nat.ne_of_lt (Nat.lt_of_lt_of_le (Heap.lt_size e) (I.ok.cab x c hfn hc)))).trans e1⟩
   . obtain ⟨o', e1⟩ := I.base.there b o e hx
     exact ⟨o', (hs.2 b (Nat.ne_of_lt (Nat.lt_of_lt_of_le (Heap.lt_size e) (I.ok.cab x c hfn hc)))).trans e1⟩
   . by_cases hj : j = i
     . subst hj
       rw [hi] at e1; cases e1
       rw [List.getElem?_set_self hiσ] at e2
       cases e2
       exact ⟨u, r, .inr ⟨.inl hk, c, hc, hc'⟩⟩
     . rw [List.getElem?_set_ne (Ne.symm hj)] at e2
       obtain ⟨u', r', q⟩ := hl j y v' e1 e2 e3
       refine ⟨u', r', ?_⟩
       rcases q with q | ⟨k, c', e, z'⟩
       . exact .inl q
       . refine .inr ⟨k, c', e, z'.sameBut hs ?_⟩
         rintro rfl
         exact hj (ff hN e1 (I.ok.inj _ _ _ e hc ▸ hi))
   . by_cases hcc : c' = c
     . subst hcc; exact ⟨_, hc'⟩
     . obtain ⟨w2, z2⟩ := I.cell y c' e
       exact ⟨w2, z2.sameBut hs hcc⟩
   . obtain ⟨e, n, ne, nf, d⟩ := I.pin p hp
     refine ⟨(hs.2 p.1 ?_).trans e, n, ne, nf, d⟩
     intro q
     rw [q, hoc] at e
     have q' : oc = p.2 := Option.some.inj e
     exact d w' (by rw [<- q']; exact hocd)
theorem qd {M : Model} {A : Around} {E : Value -> Shared -> Prop} {i : Nat} {x : Str} {v : V} {u : Value} {Q : Unit -> Shared -> Prop} (I : Inv X pins σ H s) (hN : X.N.Nodup) (hi : X.N[i]? = some x) (hx : Loc X.env.scope x) (r : RelV v u)
 (h : ∀ s', Inv X pins (σ.set i (some v)) H s' -> Q () s') (hf : X.fn x = true \/ X.env.scope.names.lookup x = some .local := by first | exact .inl rfl | exact .inr rfl | assumption | with_unfolding_all exact .inl rfl | with_unfolding_all exact .inr rfl) : wpAny M A (storeName X.env x u) Q E s :=
 ni I hN hi hx r (fun s' I' _ => h s' I') hf
theorem Inv.call' {s' : Shared} {ch : List Addr} (I : Inv X pins σ H s) (ho : s'.os = s.os) (u : Un (frs X.stack) ch H H' s.heap s'.heap) (hok : HOk X.prog X.w H' s'.heap) (hg : AllBare s'.gens)
 (hch : ∀ b ∈ ch, (b ∈ X.ex \/ X.s₀.heap.objs.size <= b) /\ b ≠ X.env.locals /\ (∀ x c, X.env.cells.lookup x = some c -> c ≠ b) /\ ∀ p ∈ X.pn ++ pins, p.1 ≠ b) : Inv X pins σ H' s' := by
 obtain ⟨h', g', d', t', o'⟩ := s'
 have e : o' = s.os := ho
 subst e
 exact I.call (g' := g') (t' := t') (d' := d') u hok hg hch
end
abbrev XK := Value -> Option Addr -> Hp -> Prop
abbrev St := List (Option V)
abbrev VK := V -> Hp -> Prop
abbrev TE := St -> Hp -> VK -> Prop
abbrev TT := St -> Hp -> (Bool -> Hp -> Prop) -> Prop
abbrev TA := St -> Hp -> (List V -> Hp -> Prop) -> Prop
structure Ends where
 nx : St -> Hp -> Prop
 rt : VK
 bk : St -> Hp -> Prop := fun _ _ => False
 ct : St -> Hp -> Prop := fun _ _ => False
abbrev TS := Ends -> St -> Hp -> Prop
def EP (X : Cx) (pins : List (Addr × Obj)) (σ : St) (Q : VK) (u : Value) (s' : Shared) : Prop := ∃ v H', Inv X pins σ H' s' /\ RelV v u /\ Q v H'
def TP (X : Cx) (pins : List (Addr × Obj)) (σ : St) (Q : Bool -> Hp -> Prop) (b : Bool) (s' : Shared) : Prop := ∃ H', Inv X pins σ H' s' /\ Q b H'
def AP (X : Cx) (pins : List (Addr × Obj)) (σ : St) (Q : List V -> Hp -> Prop) (us : List Value) (s' : Shared) : Prop := ∃ vs H', Inv X pins σ H' s' /\ Vals vs us /\ Q vs H'
def SP (X : Cx) (pins : List (Addr × Obj)) (D : Ends) (f : Flow) (s' : Shared) : Prop :=
 match f with
 | .next => ∃ σ' H', Inv X pins σ' H' s' /\ D.nx σ' H'
 | .brk => ∃ σ' H', Inv X pins σ' H' s' /\ D.bk σ' H'
 | .cont => ∃ σ' H', Inv X pins σ' H' s' /\ D.ct σ' H'
 | .ret u => ∃ v σ' H', Inv X pins σ' H' s' /\ RelV v u /\ D.rt v H'
def PE (X : Cx) (e : Expr) (t : TE) : Prop :=
 ∀ (pins : List (Addr × Obj)) (s : Shared) (σ : St) (H : Hp) (Q : VK), Inv X pins σ H s -> t σ H Q -> wpAny (model X.prog X.w) X.A (eval e X.env) (EP X pins σ Q) X.xe s
def PT (X : Cx) (e : Expr) (t : TT) : Prop :=
 ∀ (pins : List (Addr × Obj)) (s : Shared) (σ : St) (H : Hp) (Q : Bool -> Hp -> Prop), Inv X pins σ H s -> t σ H Q -> wpAny (model X.prog X.w) X.A (isTrue e X.env (eval e X.env)) (TP X pins σ Q) X.xe s
def PW (X : Cx) (e : Expr) (t : TT) : Prop :=
 ∀ (whole : Sem Value) (pins : List (Addr × Obj)) (s : Shared) (σ : St) (H : Hp) (Q : Bool -> Hp -> Prop), Inv X pins σ H s -> t σ H Q -> wpAny (model X.prog X.w) X.A (isTrue e X.env whole) (TP X pins σ Q) X.xe s
theorem PW.pt {X : Cx} {e : Expr} {t : TT} (h : PW X e t) : PT X e t := h _
def PA (X : Cx) (es : List Expr) (t : TA) : Prop :=
 ∀ (pos : Pos) (pins : List (Addr × Obj)) (s : Shared) (σ : St) (H : Hp) (Q : List V -> Hp -> Prop), Inv X pins σ H s -> t σ H Q -> wpAny (model X.prog X.w) X.A (spliced (backTo pos (starEach es X.env))) (AP X pins σ Q) X.xe s
def PS (X : Cx) (st : Stmt) (t : TS) : Prop :=
 ∀ (pins : List (Addr × Obj)) (s : Shared) (σ : St) (H : Hp) (D : Ends), Inv X pins σ H s -> t D σ H -> wpAny (model X.prog X.w) X.A (exec st X.env) (SP X pins D) X.xe s
def PSs (X : Cx) (st : List Stmt) (t : TS) : Prop :=
 ∀ (pins : List (Addr × Obj)) (s : Shared) (σ : St) (H : Hp) (D : Ends), Inv X pins σ H s -> t D σ H -> wpAny (model X.prog X.w) X.A (execs st X.env) (SP X pins D) X.xe s
theorem thn {α : Type} {t : Sem α} {Q Q' : α -> Shared -> Prop} {M : Model} {A : Around} {E : Value -> Shared -> Prop} {s : Shared} (h : wpAny M A t Q E s) (hQ : ∀ a s, Q a s -> Q' a s) : wpAny M A t Q' E s := wpAny_mono h hQ fun _ _ x => x
end L2
namespace L2
open PySem PySem.Spec PyProof.Rows
section
variable {X : Cx}
def tVar (i : Nat) : TE := fun σ H Q => ∃ v, σ[i]? = some (some v) /\ Q v H
def tC (v : V) : TE := fun _ H Q => Q v H
theorem pe_var {i : Nat} {x : Str} {pos : Pos} (hN : X.N[i]? = some x) (hv : Vis X.env.scope x) (hd : (x == ("__debug__" : Str)) = false := by decide) (hcd : (x == ("__classdict__" : Str)) = false := by decide) : PE X (.Name x pos) (tVar i) := by
 intro pins s σ H Q I h
 obtain ⟨v, e, h⟩ := h
 obtain ⟨m, hn, hl⟩ := I.loc
 obtain ⟨u, r, l⟩ := hl i x v hN e hv
 have fin : EP X pins σ Q u s := ⟨v, H, I, r, h⟩
 rcases l with ⟨hk, hm⟩ | ⟨hk, c, hc, hcell⟩
 . exact wpAny_Name (wpAny_loadName_local I.ok.kind hk hn hm fin) hd
 . rcases hk with hk | hk
   . exact wpAny_Name (wpAny_loadName_cell I.ok.kind hk hc hcell fin) hd
   . exact wpAny_Name (wpAny_loadName_free I.ok.kind hk hc hcell fin hcd) hd
theorem ba {i j pos} : PE X (.Constant (.int i) j pos) (tC (.int i)) := fun _ _ _ H _ I h => wpAny_Constant_int ⟨.int i, H, I.tok _, ⟨_, rfl⟩, h⟩
theorem Kg {b j pos} : PE X (.Constant (.bool b) j pos) (tC (.bl b)) := fun _ _ _ H _ I h => Constant_bool ⟨.bl b, H, I, rfl, h⟩
theorem Ge {j pos} : PE X (.Constant .none j pos) (tC .non) := fun _ _ _ H _ I h => Constant_none ⟨.non, H, I, rfl, h⟩
theorem Aa {x j pos} : PE X (.Constant (.str x) j pos) (tC (.str x)) := fun _ _ _ H _ I h => Calls.Constant_str ⟨.str x, H, I.tok _, ⟨_, rfl⟩, h⟩
def Gl (X : Cx) (x : Str) : Prop := X.env.kindOf x = some .globalImplicit
theorem Pc {E : Value -> Shared -> Prop} {pins : List (Addr × Obj)} {s : Shared} {σ : St} {H : Hp} {x : Str} {u : Value} {pos : Pos} {Q : Value -> Shared -> Prop} (I : Inv X pins σ H s) (hg : Gl X x) (hm : X.mg x = some u) (h : Q u s)
 (hd : (x == ("__debug__" : Str)) = false := by decide) : wpAny (model X.prog X.w) X.A (eval (.Name x pos) X.env) Q E s :=
 Calls.Name_function_global I.ok.kind hg (Calls.loadGlobal_global (by rw [I.ok.glob]; exact I.mod.glob.keeps I.bk) hm h) hd
theorem Je {E : Value -> Shared -> Prop} {pins : List (Addr × Obj)} {s : Shared} {σ : St} {H : Hp} {x : Str} {u : Value} {pos : Pos} {Q : Value -> Shared -> Prop} (I : Inv X pins σ H s) (hg : Gl X x) (hm : X.mg x = none) (hv : bootBuiltins x = some u) (h : Q u s)
 (hn : x ≠ "__name__" := by decide) (hd : (x == ("__debug__" : Str)) = false := by decide) : wpAny (model X.prog X.w) X.A (eval (.Name x pos) X.env) Q E s := by
 obtain ⟨mb, h1, h2⟩ := I.mod.blt
 exact Calls.Name_function_global I.ok.kind hg (Calls.loadGlobal_builtin (by rw [I.ok.glob]; exact I.mod.glob.keeps I.bk) hm (by rw [I.ok.blt]; exact h1.keeps I.bk) ((h2 x hn).trans hv) h) hd
theorem Gm {x : Str} {v : V} {u : Value} {pos : Pos} (hg : Gl X x) (hm : X.mg x = some u) (r : RelV v u) (hd : (x == ("__debug__" : Str)) = false := by decide) : PE X (.Name x pos) (tC v) :=
 fun _ _ _ H _ I h => Pc I hg hm ⟨v, H, I, r, h⟩ hd
theorem Oc {x : Str} {v : V} {u : Value} {pos : Pos} (hg : Gl X x) (hm : X.mg x = none) (hv : bootBuiltins x = some u) (r : RelV v u) (hn : x ≠ "__name__" := by decide) (hd : (x == ("__debug__" : Str)) = false := by decide) : PE X (.Name x pos) (tC v) :=
 fun _ _ _ H _ I h => Je I hg hm hv ⟨v, H, I, r, h⟩ hn hd
variable {a b : Expr} {ta tb : TE} {pos : Pos}
variable {tA tB' : TT} {rest : List Expr}
def tAnd (t u : TT) : TT := fun σ H Q => t σ H fun c H1 => if c = true then u σ H1 Q else Q false H1
def tOr (t u : TT) : TT := fun σ H Q => t σ H fun c H1 => if c = true then Q true H1 else u σ H1 Q
def tNot (t : TT) : TT := fun σ H Q => t σ H fun c H1 => Q (!c) H1
theorem nc (ha : PT X a tA) : PW X (.BoolOp .And [a] pos) tA := by
 intro wh pins s σ H Q I h
 refine isTrue_and (thn (ha pins s σ H Q I h) fun c s1 e => ?_)
 cases c with
 | true => exact isTrue_and_nil e
 | false => exact e
theorem Lb (ha : PT X a tA) : PW X (.BoolOp .Or [a] pos) tA := by
 intro wh pins s σ H Q I h
 refine isTrue_or (thn (ha pins s σ H Q I h) fun c s1 e => ?_)
 cases c with
 | false => exact isTrue_or_nil e
 | true => exact e
theorem Wc (ha : PT X a tA) (hb : PW X (.BoolOp .And (b :: rest) pos) tB') : PW X (.BoolOp .And (a :: b :: rest) pos) (tAnd tA tB') := by
 intro wh pins s σ H Q I h
 refine isTrue_and (thn (ha pins s σ H _ I h) fun c s1 ⟨H1, I1, q1⟩ => ?_)
 cases c with
 | true => exact hb wh pins s1 σ H1 Q I1 q1
 | false => exact ⟨H1, I1, q1⟩
theorem Wb (ha : PT X a tA) (hb : PW X (.BoolOp .Or (b :: rest) pos) tB') : PW X (.BoolOp .Or (a :: b :: rest) pos) (tOr tA tB') := by
 intro wh pins s σ H Q I h
 refine isTrue_or (thn (ha pins s σ H _ I h) fun c s1 ⟨H1, I1, q1⟩ => ?_)
 cases c with
 | true => exact ⟨H1, I1, q1⟩
 | false => exact hb wh pins s1 σ H1 Q I1 q1
theorem Sf (ha : PT X a tA) : PT X (.UnaryOp .Not a pos) (tNot tA) := by
 intro pins s σ H Q I h
 exact isTrue_not (ha pins s σ H (fun c H1 => Q (!c) H1) I h)
def tAndV (ta tb : TE) : TE := fun σ H Q => ta σ H fun x H1 => ∃ c, x = .bl c /\ if c = true then tb σ H1 Q else Q (.bl false) H1
def tOrV (ta tb : TE) : TE := fun σ H Q => ta σ H fun x H1 => ∃ c, x = .bl c /\ if c = true then Q (.bl true) H1 else tb σ H1 Q
def tNotV (ta : TE) : TE := fun σ H Q => ta σ H fun x H1 => ∃ c, x = .bl c /\ Q (.bl (!c)) H1
theorem Fe {op} {t : TE} (h : PE X a t) : PE X (.BoolOp op [a] pos) t := fun pins s σ H Q I hw => BoolOp_one (h pins s σ H Q I hw)
theorem Ie (ha : PE X a ta) (hb : PE X (.BoolOp .And (b :: rest) pos) tb) : PE X (.BoolOp .And (a :: b :: rest) pos) (tAndV ta tb) := by
 intro pins s σ H Q I h
 refine BoolOp_and (thn (ha pins s σ H _ I h) fun v s1 ⟨x, H1, I1, r1, q1⟩ => ?_)
 obtain ⟨c, rfl, q1⟩ := q1
 cases r1
 refine wpAny_truthy_bool ?_
 cases c with
 | true => exact hb pins s1 σ H1 Q I1 q1
 | false => exact ⟨.bl false, H1, I1, rfl, q1⟩
theorem pe_or (ha : PE X a ta) (hb : PE X (.BoolOp .Or (b :: rest) pos) tb) : PE X (.BoolOp .Or (a :: b :: rest) pos) (tOrV ta tb) := by
 intro pins s σ H Q I h
 refine BoolOp_or (thn (ha pins s σ H _ I h) fun v s1 ⟨x, H1, I1, r1, q1⟩ => ?_)
 obtain ⟨c, rfl, q1⟩ := q1
 cases r1
 refine wpAny_truthy_bool ?_
 cases c with
 | false => exact hb pins s1 σ H1 Q I1 q1
 | true => exact ⟨.bl true, H1, I1, rfl, q1⟩
theorem pe_not (ha : PE X a ta) : PE X (.UnaryOp .Not a pos) (tNotV ta) := by
 intro pins s σ H Q I h
 refine UnaryOp_ (thn (ha pins s σ H _ I h) fun v s1 ⟨x, H1, I1, r1, q1⟩ => ?_)
 obtain ⟨c, rfl, q1⟩ := q1
 cases r1
 exact not_of (wpAny_truthy_bool ⟨.bl (!c), H1, I1, rfl, q1⟩)
end
end L2
namespace L2
open PySem PySem.Spec PyProof.Rows
def SqL (K : PySem.W.Frag) (H : Hp) (a : Addr) (xs : List V) : Prop :=
 Rd H a (.lst xs) \/
  ∃ (o : Obj) (its : Array Value) (n : Nat), K.lookup a = some o /\ o.cls = .type "list" /\ o.dict = none /\ o.data = .seq its n /\ its.size <= sizeLine /\ Vals xs its.toList
def SqT (K : PySem.W.Frag) (H : Hp) (a : Addr) (xs : List V) : Prop :=
 Rd H a (.tup xs) \/
  ∃ (o : Obj) (its : Array Value) (n : Nat), K.lookup a = some o /\ o.cls = .type "tuple" /\ o.data = .seq its n /\ its.size <= sizeLine /\ Vals xs its.toList
def absV : Value -> Option V
 | .none => some .non
 | .bool b => some (.bl b)
 | .int i _ => some (.int i)
 | .str x _ => some (.str x)
 | .bytes b _ => some (.byt b)
 | .float b _ => some (.flt b)
 | .ref a => some (.ref a)
 | .type n => some (.ty n)
 | _ => none
theorem RelV.abs {x : V} {u : Value} (r : RelV x u) : absV u = some x := by
 cases x with
 | non => cases r; rfl
 | bl _ => cases r; rfl
 | int _ => obtain ⟨t, rfl⟩ := r; rfl
 | str _ => obtain ⟨t, rfl⟩ := r; rfl
 | byt _ => obtain ⟨t, rfl⟩ := r; rfl
 | flt _ => obtain ⟨t, rfl⟩ := r; rfl
 | ref _ => cases r; rfl
 | ty _ => cases r; rfl
theorem RelV.inj {x y : V} {u : Value} (r : RelV x u) (q : RelV y u) : x = y := Option.some.inj (r.abs.symm.trans q.abs)
theorem Vals.inj : ∀ {xs ys : List V} {us : List Value}, Vals xs us -> Vals ys us -> xs = ys
 | _, _, _, .nil, .nil => rfl
 | _, _, _, .cons r t, .cons r' t' => by rw [r.inj r', Vals.inj t t']
section
variable {X : Cx} {pins : List (Addr × Obj)} {σ : St} {H : Hp} {s : Shared} {a : Addr} {xs ys : List V}
theorem SqL.of {K : PySem.W.Frag} (h : H a = some (.lst xs)) : SqL K H a xs := .inl (.inl h)
theorem SqT.of {K : PySem.W.Frag} (h : H a = some (.tup xs)) : SqT K H a xs := .inl (.inl h)
theorem Inv.list (I : Inv X pins σ H s) (h : SqL X.K H a xs) : ∃ its : List Value, Vals xs its /\ PlainL s.heap a its.toArray /\ xs.length <= sizeLine := by
 rcases h with h | ⟨o, its, n, hk, hc, hd, hs, hz, r⟩
 . obtain ⟨z, its, n, r, e⟩ := h.ok I.hok
   exact ⟨its, r, ⟨_, n, e, rfl, rfl, rfl⟩, z⟩
 . refine ⟨its.toList, r, ⟨o, n, I.kIn a o hk, hc, hd, by simpa using hs⟩, ?_⟩
   have e := r.length
   simp only [Array.length_toList] at e
   omega
theorem Inv.tuple (I : Inv X pins σ H s) (h : SqT X.K H a xs) : ∃ its : List Value, Vals xs its /\ IsTup s.heap a its.toArray /\ xs.length <= sizeLine := by
 rcases h with h | ⟨o, its, n, hk, hc, hs, hz, r⟩
 . obtain ⟨z, its, r, p⟩ := h.ok I.hok
   exact ⟨its, r, p, z⟩
 . refine ⟨its.toList, r, ⟨o, I.kIn a o hk, hc, n, by simpa using hs⟩, ?_⟩
   have e := r.length
   simp only [Array.length_toList] at e
   omega
theorem Inv.lh (I : Inv X pins σ H s) (h : SqL X.K H a xs) (h' : SqL X.K H a ys) : xs = ys := by
 obtain ⟨its, r, ⟨o, n, e, _, _, d⟩, _⟩ := I.list h
 obtain ⟨its', r', ⟨o', n', e', _, _, d'⟩, _⟩ := I.list h'
 rw [e] at e'; cases e'
 rw [d] at d'
 injection d' with d1 _
 have : its = its' := by simpa using congrArg Array.toList d1
 subst this
 exact r.inj r'
theorem Inv.Cf (I : Inv X pins σ H s) (h : SqT X.K H a xs) (h' : SqT X.K H a ys) : xs = ys := by
 obtain ⟨its, r, ⟨o, e, _, n, d⟩, _⟩ := I.tuple h
 obtain ⟨its', r', ⟨o', e', _, n', d'⟩, _⟩ := I.tuple h'
 rw [e] at e'; cases e'
 rw [d] at d'
 injection d' with d1 _
 have : its = its' := by simpa using congrArg Array.toList d1
 subst this
 exact r.inj r'
end
abbrev Cx.wish (X : Cx) (E : Value -> Shared -> Prop) : Cx := { X with xe := E }
abbrev Cx.nox (X : Cx) : Cx := X.wish fun _ _ => False
theorem Cx.Ok.wish {X : Cx} (ok : X.Ok) (E : Value -> Shared -> Prop) : (X.wish E).Ok :=
 ⟨ok.mod, ok.kind, ok.glob, ok.blt, ok.above, ok.inj, ok.has, ok.cab, ok.hd, ok.frames, ok.stk, ok.exf, ok.bs, ok.bsz, ok.noex, ok.exfs, ok.funs, ok.frf⟩
theorem Cx.Ok.Uc {X : Cx} {E : Value -> Shared -> Prop} (ok : (X.wish E).Ok) : X.Ok :=
 ⟨ok.mod, ok.kind, ok.glob, ok.blt, ok.above, ok.inj, ok.has, ok.cab, ok.hd, ok.frames, ok.stk, ok.exf, ok.bs, ok.bsz, ok.noex, ok.exfs, ok.funs, ok.frf⟩
section
variable {X : Cx} {pins : List (Addr × Obj)} {σ : St} {H : Hp} {s : Shared} {E : Value -> Shared -> Prop}
theorem Inv.wish (I : Inv X pins σ H s) (E : Value -> Shared -> Prop) : Inv (X.wish E) pins σ H s := ⟨I.ok.wish E, I.os, I.bare, I.base, I.loc, I.cell, I.free, I.freeC, I.pin, I.hok, I.len⟩
theorem Inv.Uc (I : Inv (X.wish E) pins σ H s) : Inv X pins σ H s := ⟨I.ok.Uc, I.os, I.bare, I.base, I.loc, I.cell, I.free, I.freeC, I.pin, I.hok, I.len⟩
theorem SP.Uc {D : Ends} {f : Flow} {s' : Shared} (h : SP (X.wish E) pins D f s') : SP X pins D f s' := by
 cases f with
 | next => obtain ⟨σ', H', I, q⟩ := h; exact ⟨σ', H', I.Uc, q⟩
 | brk => obtain ⟨σ', H', I, q⟩ := h; exact ⟨σ', H', I.Uc, q⟩
 | cont => obtain ⟨σ', H', I, q⟩ := h; exact ⟨σ', H', I.Uc, q⟩
 | ret u => obtain ⟨v, σ', H', I, r, q⟩ := h; exact ⟨v, σ', H', I.Uc, r, q⟩
theorem PSs.nox {st : List Stmt} {t : TS} (h : PSs X.nox st t) : PSs X st t := fun pins s σ H D I hw =>
 wpAny_mono (h pins s σ H D (I.wish _) hw) (fun _ _ q => q.Uc) fun _ _ z => False.elim z
end
section
variable {X : Cx} {st : Stmt} {rest : List Stmt} {t u : TS} {e : Expr} {te : TE} {pos : Pos}
def tNext : TS := fun D σ H => D.nx σ H
def tSeq (t u : TS) : TS := fun D σ H => t { D with nx := u D } σ H
theorem xa : PSs X [] tNext := fun _ _ σ H _ I h => wpAny_execs_nil ⟨σ, H, I, h⟩
theorem da (h1 : PS X st t) (h2 : PSs X rest u) : PSs X (st :: rest) (tSeq t u) := by
 intro pins s σ H D I h
 refine wpAny_execs_cons (thn (h1 pins s σ H { D with nx := u D } I h) fun f s1 q => ?_)
 cases f with
 | next =>
  obtain ⟨σ', H', I', q⟩ := q
  exact h2 pins s1 σ' H' D I' q
 | ret v => exact q
 | brk => exact q
 | cont => exact q
theorem ja (h1 : PS X st t) : PSs X [st] t := by
 intro pins s σ H D I h
 refine wpAny_execs_cons (thn (h1 pins s σ H D I h) fun f s1 q => ?_)
 cases f with
 | next => exact wpAny_execs_nil q
 | ret v => exact q
 | brk => exact q
 | cont => exact q
theorem Inv.quiet {pins : List (Addr × Obj)} {σ : St} {H : Hp} {s : Shared} (I : Inv X pins σ H s) : interactive X.env = false := by simp [interactive, I.ok.kind]
def tDrop (te : TE) : TS := fun D σ H => te σ H fun _ H1 => D.nx σ H1
theorem Mc (he : PE X e te) (hs : swapsWith e none pos.line X.env = pure false := by first | rfl | with_unfolding_all rfl) : PS X (.Expr e pos) (tDrop te) := by
 intro pins s σ H D I h
 exact wpAny_Expr_any (thn (he pins s σ H _ I h) fun v s1 ⟨x, H1, I1, r1, q1⟩ => ⟨σ, H1, I1, q1⟩) I.quiet hs
def tRet (te : TE) : TS := fun D σ H => te σ H D.rt
theorem ya (he : PE X e te) : PS X (.Return (some e) pos) (tRet te) := by
 intro pins s σ H D I h
 exact wpAny_Return_some (thn (he pins s σ H _ I h) fun v s1 ⟨x, H1, I1, r1, q1⟩ => ⟨x, σ, H1, I1, r1, q1⟩)
def tIfS (c : TT) (t u : TS) : TS := fun D σ H => c σ H fun b H1 => if b = true then t D σ H1 else u D σ H1
theorem La {c : Expr} {a b : List Stmt} {tc : TT} (hc : PT X c tc) (ha : PSs X a t) (hb : PSs X b u) : PS X (.If c a b pos) (tIfS tc t u) := by
 intro pins s σ H D I h
 refine wpAny_If (thn (hc pins s σ H _ I h) fun d s1 ⟨H1, I1, q1⟩ => ?_)
 cases d with
 | true => exact ha pins s1 σ H1 D I1 q1
 | false => exact hb pins s1 σ H1 D I1 q1
end
abbrev TG := V -> St -> Hp -> (St -> Hp -> Prop) -> Prop
abbrev TGs := List V -> St -> Hp -> (St -> Hp -> Prop) -> Prop
def PG (X : Cx) (target : Expr) (t : TG) : Prop :=
 ∀ (pins : List (Addr × Obj)) (s : Shared) (σ : St) (H : Hp) (v : V) (u : Value) (Q : St -> Hp -> Prop), Inv X pins σ H s -> RelV v u -> t v σ H Q ->
  wpAny (model X.prog X.w) X.A (assign target X.env u) (fun _ s' => ∃ σ' H', Inv X pins σ' H' s' /\ Q σ' H') X.xe s
def PGs (X : Cx) (ts : List Expr) (t : TGs) : Prop :=
 ∀ (pins : List (Addr × Obj)) (s : Shared) (σ : St) (H : Hp) (vs : List V) (us : List Value) (Q : St -> Hp -> Prop), Inv X pins σ H s -> Vals vs us -> t vs σ H Q ->
  wpAny (model X.prog X.w) X.A (assignInOrder ((assignEach ts X.env).map (·.2)) us) (fun _ s' => ∃ σ' H', Inv X pins σ' H' s' /\ Q σ' H') X.xe s
abbrev TSet := V -> V -> V -> Hp -> (Hp -> Prop) -> Prop
def PSet (X : Cx) (t : TSet) : Prop :=
 ∀ (pins : List (Addr × Obj)) (s : Shared) (σ : St) (H : Hp) (o i v : V) (ov iv u : Value) (Q : Hp -> Prop), Inv X pins σ H s -> RelV o ov -> RelV i iv -> RelV v u -> t o i v H Q ->
  wpAny (model X.prog X.w) X.A (setItem ov iv u) (fun _ s' => ∃ H', Inv X pins σ H' s' /\ Q H') X.xe s
abbrev TIp := V -> V -> Hp -> VK -> Prop
def PIp (X : Cx) (op : Operator) (t : TIp) : Prop :=
 ∀ (pins : List (Addr × Obj)) (s : Shared) (σ : St) (H : Hp) (x y : V) (v u : Value) (Q : VK), Inv X pins σ H s -> RelV x v -> RelV y u -> t x y H Q ->
  wpAny (model X.prog X.w) X.A (inplaceOp op v u) (EP X pins σ Q) X.xe s
section
variable {X : Cx} {pos : Pos}
def Xm (i : Nat) : TG := fun v σ H Q => Q (σ.set i (some v)) H
theorem Oa {i : Nat} {x : Str} (hN : X.N.Nodup) (hi : X.N[i]? = some x) (hx : Loc X.env.scope x) (hf : X.fn x = true \/ X.env.scope.names.lookup x = some .local := by first | exact .inl rfl | exact .inr rfl | assumption | with_unfolding_all exact .inl rfl | with_unfolding_all exact .inr rfl) : PG X (.Name x pos) (Xm i) := by
 intro pins s σ H v u Q I r h
 exact wpAny_assign_Name (qd I hN hi hx r (fun s' I' => ⟨_, H, I', h⟩) hf)
def gNil : TGs := fun vs σ H Q => vs = [] /\ Q σ H
def gCons (t : TG) (u : TGs) : TGs := fun vs σ H Q => ∃ v r, vs = v :: r /\ t v σ H fun σ' H' => u r σ' H' Q
theorem Nc : PGs X [] gNil := by
 intro pins s σ H vs us Q I r h
 obtain ⟨e, h⟩ := h
 subst e
 cases r
 exact assignInOrder_nil ⟨σ, H, I, h⟩
theorem Sa {e : Expr} {es : List Expr} {t : TG} {u : TGs} (h1 : PG X e t) (h2 : PGs X es u)
 (hs : (assignEach (e :: es) X.env).map (·.2) = assign e X.env :: (assignEach es X.env).map (·.2) := by first | rfl | with_unfolding_all rfl) : PGs X (e :: es) (gCons t u) := by
 intro pins s σ H vs us Q I r h
 obtain ⟨v, vr, e1, h⟩ := h
 subst e1
 cases r with
 | cons r rr =>
  rw [hs]
  refine assignInOrder_cons (thn (h1 pins s σ H _ _ _ I r h) fun _ s1 ⟨σ1, H1, I1, q1⟩ => ?_)
  exact h2 pins s1 σ1 H1 _ _ Q I1 rr q1
def gTup (K : PySem.W.Frag) (n : Nat) (t : TGs) : TG := fun v σ H Q => ∃ a xs, v = .ref a /\ SqT K H a xs /\ xs.length = n /\ t xs σ H Q
theorem pg_tup {es : List Expr} {k : Nat} {t : TGs} {n : Nat} (hc : X.calm = true) (h : PGs X es t)
 (hn : (assignEach es X.env).length = n := by first | rfl | with_unfolding_all rfl) (hst : (assignEach es X.env).findIdx? (·.1) = none := by first | rfl | with_unfolding_all rfl) : PG X (.Tuple es k pos) (gTup X.K n t) := by
 intro pins s σ H v u Q I r hw
 obtain ⟨a, xs, e1, hq, hl, hw⟩ := hw
 subst e1
 cases r
 obtain ⟨its, rv, ht, hz⟩ := I.tuple hq
 refine assign_Tuple_tuple (I.ok.hd hc) ht (by simp [hn, <- hl, rv.length]) hst fun h' hx => ?_
 have I1 : Inv X pins σ H { s with heap := h' } := I.kept (t' := s.toks) fun b o e => hx b o (Nat.ne_of_lt (Heap.lt_size e)) e
 exact h pins _ σ H xs _ Q I1 (by simpa using rv) hw
def gSub (to ti : TE) (t : TSet) : TG := fun v σ H Q => to σ H fun o H1 => ti σ H1 fun i H2 => t o i v H2 fun H3 => Q σ H3
theorem Ee {o i : Expr} {to ti : TE} {t : TSet} (ho : PE X o to) (hi : PE X i ti) (hs : PSet X t)
 (ha : ∀ v, assign (.Subscript o i pos) X.env v = (do
   let ov <- holding [v] (eval o X.env)
   let iv <- holding [v, ov] (eval i X.env)
   standAt pos
   holding [v, ov, iv] (setItem ov iv v)
   release [v, ov, iv] []) := by intro _; first | rfl | with_unfolding_all rfl) : PG X (.Subscript o i pos) (gSub to ti t) := by
 intro pins s σ H v u Q I r h
 rw [ha]
 refine wpAny_bind (wpAny_holding (thn (ho pins s σ H _ I h) fun ov s1 ⟨x, H1, I1, r1, q1⟩ => ?_))
 refine wpAny_bind (wpAny_holding (thn (hi pins s1 σ H1 _ I1 q1) fun iv s2 ⟨y, H2, I2, r2, q2⟩ => ?_))
 refine wpAny_bind (wpAny_standAt (wpAny_bind (wpAny_holding (thn (hs pins s2 σ H2 x y v ov iv u _ I2 r1 r2 r q2) fun _ s3 ⟨H3, I3, q3⟩ => ?_))))
 exact wpAny_release ⟨σ, H3, I3, q3⟩
def tAsg (te : TE) (g : TG) : TS := fun D σ H => te σ H fun x H1 => g x σ H1 D.nx
theorem Xc {tg e : Expr} {te : TE} {g : TG} (he : PE X e te) (hg : PG X tg g) (hs : swapsWithSole [tg] e pos.line X.env = pure false := by first | rfl | with_unfolding_all rfl) (hw : swappedStores [tg] e X.env = pure none := by first | rfl | with_unfolding_all rfl)
 (h1 : (assignEach [tg] X.env).map (·.2) = [assign tg X.env] := by first | rfl | with_unfolding_all rfl) : PS X (.Assign [tg] e pos) (tAsg te g) := by
 intro pins s σ H D I h
 refine wpAny_Assign_stores (thn (he pins s σ H _ I h) fun v s1 ⟨x, H1, I1, r1, q1⟩ => ?_) hs hw
 rw [h1]
 exact thn (hg pins s1 σ H1 x v _ I1 r1 q1) fun _ s2 q => q
theorem Ca {i : Nat} {x : Str} {e : Expr} {te : TE} {pos' : Pos} (hN : X.N.Nodup) (hi : X.N[i]? = some x) (hx : Loc X.env.scope x) (he : PE X e te) (hs : swapsWith e (some (.Name x pos')) pos.line X.env = pure false := by first | rfl | with_unfolding_all rfl) (hf : X.fn x = true \/ X.env.scope.names.lookup x = some .local := by first | exact .inl rfl | exact .inr rfl | assumption | with_unfolding_all exact .inl rfl | with_unfolding_all exact .inr rfl) :
 PS X (.Assign [.Name x pos'] e pos) (tAsg te (Xm i)) := by
 intro pins s σ H D I h
 refine wpAny_Assign_Name (thn (he pins s σ H _ I h) fun v s1 ⟨y, H1, I1, r1, q1⟩ => ?_) hs
 exact qd I1 hN hi hx r1 (fun s2 I2 => ⟨_, H1, I2, q1⟩) hf
def tAug (i : Nat) (te : TE) (ti : TIp) : TS := fun D σ H => ∃ x, σ[i]? = some (some x) /\ te σ H fun y H1 => ti x y H1 fun z H2 => D.nx (σ.set i (some z)) H2
theorem ps_aug {i : Nat} {x : Str} {e : Expr} {te : TE} {op : Operator} {ti : TIp} {pos' : Pos} (hN : X.N.Nodup) (hi : X.N[i]? = some x) (hx : Loc X.env.scope x) (he : PE X e te) (ho : PIp X op ti) (hf : X.fn x = true \/ X.env.scope.names.lookup x = some .local := by first | exact .inl rfl | exact .inr rfl | assumption | with_unfolding_all exact .inl rfl | with_unfolding_all exact .inr rfl) :
 PS X (.AugAssign (.Name x pos') op e pos) (tAug i te ti) := by
 intro pins s σ H D I h
 obtain ⟨v, e1, h⟩ := h
 obtain ⟨m, hn, hl⟩ := I.loc
 have vis : Vis X.env.scope x := by rcases hx with k | k; exact .inl k; exact .inr (.inl k)
 obtain ⟨u, r, l⟩ := hl i x v hi e1 vis
 refine wpAny_AugAssign_Name ?_
 have go : wpAny (model X.prog X.w) X.A (eval e X.env) (fun w s₂ => wpAny (model X.prog X.w) X.A (inplaceOp op u w) (fun r s₃ => wpAny (model X.prog X.w) X.A (storeName X.env x r) (fun _ => SP X pins D .next) X.xe s₃) X.xe s₂) X.xe s := by
  refine thn (he pins s σ H _ I h) fun w s1 ⟨y, H1, I1, r1, q1⟩ => ?_
  refine thn (ho pins s1 σ H1 v y u w _ I1 r r1 q1) fun z s2 ⟨zv, H2, I2, r2, q2⟩ => ?_
  exact qd I2 hN hi hx r2 (fun s3 I3 => ⟨_, H2, I3, q2⟩) hf
 rcases l with ⟨hk, hm⟩ | ⟨hk, c, hc, hcell⟩
 . exact wpAny_loadName_local I.ok.kind hk hn hm go
 . rcases hk with hk | hk
   . exact wpAny_loadName_cell I.ok.kind hk hc hcell go
   . rcases hx with k | k
     . have : X.env.scope.names.lookup x = some .free := hk
       rw [k] at this; cases this
     . have : X.env.scope.names.lookup x = some .free := hk
       rw [k] at this; cases this
end
structure It where
 go : Nat -> Hp -> Prop
 yld : Nat -> Hp -> V -> Hp -> Prop
 stop : Nat -> Hp -> Prop
def FpOk (X : Cx) (pins : List (Addr × Obj)) (H : Hp) (b : Addr) : Prop :=
 H b = none /\ b ≠ X.env.locals /\ b ∉ X.fs /\ (b ∈ X.ex \/ X.s₀.heap.objs.size <= b) /\ (∀ x c, X.env.cells.lookup x = some c -> c ≠ b) /\ ∀ p ∈ X.pn ++ pins, p.1 ≠ b
theorem Inv.fpOk {X : Cx} {pins : List (Addr × Obj)} {σ : St} {H H' : Hp} {s : Shared} {b : Addr} (I : Inv X pins σ H s) (hb : s.heap.objs.size <= b) (hn : H' b = none) : FpOk X pins H' b := by
 refine ⟨hn, Nat.ne_of_gt (Nat.lt_of_lt_of_le I.lt hb), I.nofs hb, .inr (Nat.le_trans I.sz hb), fun x c e z => ?_, fun p hp z => ?_⟩
 . obtain ⟨v, q⟩ := I.cell x c e
   exact absurd (Nat.lt_of_lt_of_le q.lt (by rw [z]; exact hb)) (Nat.lt_irrefl _)
 . exact absurd (Nat.lt_of_lt_of_le (Heap.lt_size (I.pin p hp).1) (by rw [z]; exact hb)) (Nat.lt_irrefl _)
structure Turn (P : Program) (w : World) (K : PySem.W.Frag) (tg : Expr) (J : It) (fp : List Addr) (it : Addr) (tn : Nat -> Heap -> Prop) : Prop where
 mem : it ∈ fp
 obj : ∀ i h, tn i h -> ∀ b ∈ fp, ∃ o, h.get? b = some o /\ ∀ v, o.data ≠ .cell v
 keep : ∀ i h h', tn i h -> (∀ b ∈ fp, ∀ o, h.get? b = some o -> h'.get? b = some o) -> tn i h'
 item : ∀ (X : Cx), X.prog = P -> X.w = w -> X.K = K -> X.calm = true -> ∀ (i : Nat) (pins : List (Addr × Obj)) (s : Shared) (σ : St) (H : Hp) (E : Value -> Shared -> Prop), Inv X pins σ H s -> (∀ b ∈ fp, FpOk X pins H b) -> tn i s.heap -> J.go i H ->
  wpAny (model P w) X.A (pyNext (.ref it)) (fun r s1 => ∃ u, r = some u /\
   wpAny (model P w) X.A (letOwnedTupleGo tg (.ref it) u) (fun _ s2 => ∃ x H', Inv X pins σ H' s2 /\ RelV x u /\ J.yld i H x H' /\ tn (i + 1) s2.heap /\ ∀ b ∈ fp, H' b = none) E s1) E s
 done : ∀ (X : Cx), X.prog = P -> X.w = w -> X.K = K -> X.calm = true -> ∀ (i : Nat) (pins : List (Addr × Obj)) (s : Shared) (σ : St) (H : Hp) (E : Value -> Shared -> Prop), Inv X pins σ H s -> (∀ b ∈ fp, FpOk X pins H b) -> tn i s.heap -> J.stop i H ->
  wpAny (model P w) X.A (pyNext (.ref it)) (fun r s1 => r = none /\ Inv X pins σ H s1) E s
 self : ∀ (A : Around) (i : Nat) (s : Shared) (Q : Value -> Shared -> Prop) (E : Value -> Shared -> Prop), tn i s.heap -> Q (.ref it) s -> wpAny (model P w) A (pyIter (.ref it)) Q E s
abbrev TI := St -> Hp -> (It -> Hp -> Prop) -> Prop
def PIE (X : Cx) (pins : List (Addr × Obj)) (σ : St) (tg : Expr) (R : It -> Hp -> Prop) (itv : Value) (s2 : Shared) : Prop :=
 ∃ (it : Addr) (fp : List Addr) (tn : Nat -> Heap -> Prop) (J : It) (H' : Hp), itv = .ref it /\ Inv X pins σ H' s2 /\ Turn X.prog X.w X.K tg J fp it tn /\ tn 0 s2.heap /\ (∀ b ∈ fp, FpOk X pins H' b) /\ R J H'
def PI (X : Cx) (tg iter : Expr) (wi : TI) : Prop :=
 ∀ (pins : List (Addr × Obj)) (s : Shared) (σ : St) (H : Hp) (R : It -> Hp -> Prop), Inv X pins σ H s -> wi σ H R ->
  wpAny (model X.prog X.w) X.A (eval iter X.env) (fun v s1 => wpAny (model X.prog X.w) X.A (pyIter v) (PIE X pins σ tg R) X.xe s1) X.xe s
theorem Wm {M : Model} {A : Around} {E : Value -> Shared -> Prop} {s : Shared} {tg : Expr} {it : Addr} {u : Value} {o : Obj} {n : String} {vs : Array Value} {Q : Unit -> Shared -> Prop} (ho : s.heap.get? it = some o) (hc : o.cls = .type n) (hd : o.data = .fields vs)
 (hn : ["enumerate", "zip", "dict_itemiterator", "dict_reverseitemiterator", "odict_iterator", "itertools.zip_longest", "itertools.pairwise"].contains n = false) (hQ : Q () s) : wpAny M A (letOwnedTupleGo tg (.ref it) u) Q E s := by
 unfold letOwnedTupleGo
 cases tg <;> first
  | exact wpAny_pure hQ
  | (cases u <;> first
      | exact wpAny_pure hQ
      | (refine wpAny_bind (wpAny_load ho ?_)
         rw [hc, hd]
         show wpAny M A (if (["enumerate", "zip", "dict_itemiterator", "dict_reverseitemiterator", "odict_iterator", "itertools.zip_longest", "itertools.pairwise"].contains n && vs[0]? == some (rawInt _)) = true then _ else _) Q E s
         rw [if_neg (by intro h; rw [hn, Bool.false_and] at h; cases h)]
         exact wpAny_pure hQ))
def Itl (K : PySem.W.Frag) (a : Addr) : It :=
 ⟨fun i H => ∃ xs x, SqL K H a xs /\ xs[i]? = some x, fun i H x H' => H' = H /\ ∀ xs, SqL K H a xs -> xs[i]? = some x, fun i H => ∃ xs, SqL K H a xs /\ xs.length <= i⟩
def Itt (K : PySem.W.Frag) (a : Addr) : It :=
 ⟨fun i H => ∃ xs x, SqT K H a xs /\ xs[i]? = some x, fun i H x H' => H' = H /\ ∀ xs, SqT K H a xs -> xs[i]? = some x, fun i H => ∃ xs, SqT K H a xs /\ xs.length <= i⟩
def Itr (lo : Int) (n : Nat) : It := ⟨fun i _ => i < n, fun i H x H' => H' = H /\ x = .int (lo + i), fun i _ => n <= i⟩
theorem ai {P : Program} {w : World} {K : PySem.W.Frag} {tg : Expr} (a it : Addr) : Turn P w K tg (Itl K a) [it] it (fun i h => h.IsListIter it a i) where
 mem := by simp
 obj := fun i h st b hb => by
  have e : b = it := by simpa using hb
  subst e
  obtain ⟨o, e, c, d⟩ := st
  exact ⟨o, e, fun v z => by rw [d] at z; cases z⟩
 keep := fun i h h' st k => st.at fun o e => k it (by simp) o e
 item := by
  intro X hP hw hK hc i pins s σ H E I hf st hg
  subst hP hw hK
  obtain ⟨xs, x, hq, hx⟩ := hg
  obtain ⟨its, rv, p, hz⟩ := I.list hq
  obtain ⟨u, hu, ru⟩ := rv.get hx
  obtain ⟨f0, f1, f2, f3, f4, f5⟩ := hf it (by simp)
  refine wpAny_pyNext_list_item st p.isList (x := u) (by simpa using hu) fun h' st' sb => ?_
  have I1 : Inv X pins σ H { s with heap := h' } := I.turned (t' := s.toks) (fun b o hb e => (sb.2 b hb).trans e) f0 f1 f3 f4 f5
  obtain ⟨o, e, c, d⟩ := id st'
  exact ⟨u, rfl, Wm (s := { s with heap := h' }) e c d (by decide) ⟨x, H, I1, ru, ⟨rfl, fun ys hy => by rw [I.lh hy hq]; exact hx⟩, st', fun b hb => (hf b hb).1⟩⟩
 done := by
  intro X hP hw hK hc i pins s σ H E I hf st hg
  subst hP hw hK
  obtain ⟨xs, hq, hx⟩ := hg
  obtain ⟨its, rv, p, hz⟩ := I.list hq
  obtain ⟨f0, f1, f2, f3, f4, f5⟩ := hf it (by simp)
  have hl := rv.length
  exact wpAny_pyNext_list_end (I.ok.hd hc) st p.isList (by simp; omega) fun h' eb => ⟨rfl, I.turned (t' := s.toks) (fun b o hb e => eb b o hb e) f0 f1 f3 f4 f5⟩
 self := fun _ _ _ _ _ st h => wpAny_pyIter_listiter st h
theorem sh {P : Program} {w : World} {K : PySem.W.Frag} {tg : Expr} (a it : Addr) : Turn P w K tg (Itt K a) [it] it (fun i h => h.IsTupleIter it a i) where
 mem := by simp
 obj := fun i h st b hb => by
  have e : b = it := by simpa using hb
  subst e
  obtain ⟨o, e, c, d⟩ := st
  exact ⟨o, e, fun v z => by rw [d] at z; cases z⟩
 keep := fun i h h' st k => st.at fun o e => k it (by simp) o e
 item := by
  intro X hP hw hK hc i pins s σ H E I hf st hg
  subst hP hw hK
  obtain ⟨xs, x, hq, hx⟩ := hg
  obtain ⟨its, rv, p, hz⟩ := I.tuple hq
  obtain ⟨u, hu, ru⟩ := rv.get hx
  obtain ⟨f0, f1, f2, f3, f4, f5⟩ := hf it (by simp)
  refine wpAny_pyNext_tuple_item st (show s.heap.IsTuple a its.toArray from p) (x := u) (by simpa using hu) fun h' st' sb => ?_
  have I1 : Inv X pins σ H { s with heap := h' } := I.turned (t' := s.toks) (fun b o hb e => (sb.2 b hb).trans e) f0 f1 f3 f4 f5
  obtain ⟨o, e, c, d⟩ := id st'
  exact ⟨u, rfl, Wm (s := { s with heap := h' }) e c d (by decide) ⟨x, H, I1, ru, ⟨rfl, fun ys hy => by rw [I.Cf hy hq]; exact hx⟩, st', fun b hb => (hf b hb).1⟩⟩
 done := by
  intro X hP hw hK hc i pins s σ H E I hf st hg
  subst hP hw hK
  obtain ⟨xs, hq, hx⟩ := hg
  obtain ⟨its, rv, p, hz⟩ := I.tuple hq
  obtain ⟨f0, f1, f2, f3, f4, f5⟩ := hf it (by simp)
  have hl := rv.length
  exact wpAny_pyNext_tuple_end (I.ok.hd hc) st (show s.heap.IsTuple a its.toArray from p) (by simp; omega) fun h' eb => ⟨rfl, I.turned (t' := s.toks) (fun b o hb e => eb b o hb e) f0 f1 f3 f4 f5⟩
 self := fun _ _ _ _ _ st h => wpAny_pyIter_tupleiter st h
theorem uh {P : Program} {w : World} {K : PySem.W.Frag} {tg : Expr} (it : Addr) (lo : Int) (n : Nat) : Turn P w K tg (Itr lo n) [it] it (fun i h => IsRangeIter h it (lo + (i : Nat) * 1) ((n : Int) - (i : Nat)) 1) where
 mem := by simp
 obj := fun i h st b hb => by
  have e : b = it := by simpa using hb
  subst e
  exact ⟨_, st, fun v z => by
   have z' : Data.fields _ = Data.cell v := z
   cases z'⟩
 keep := fun i h h' st k => k it (by simp) _ st
 item := by
  intro X hP hw hK hc i pins s σ H E I hf st hg
  subst hP hw hK
  obtain ⟨f0, f1, f2, f3, f4, f5⟩ := hf it (by simp)
  have W := Walks.range (prog := X.prog) (w := X.w) (I.ok.hd hc) it lo 1 n
  refine W.item i s _ _ hg st fun v h' tk hv st' kk => ?_
  obtain ⟨t, rfl⟩ := hv
  have I1 : Inv X pins σ H { s with heap := h', toks := tk } := I.turned (fun b o hb e => kk b o (by simpa using hb) e) f0 f1 f3 f4 f5
  refine ⟨_, rfl, Wm (s := { s with heap := h', toks := tk }) (n := "range_iterator") st' rfl rfl (by decide) ⟨.int (lo + i), H, I1, ⟨t, ?_⟩, ⟨rfl, rfl⟩, st', fun b hb => (hf b hb).1⟩⟩
  rw [Int.mul_one]
 done := by
  intro X hP hw hK hc i pins s σ H E I hf st hg
  subst hP hw hK
  obtain ⟨f0, f1, f2, f3, f4, f5⟩ := hf it (by simp)
  exact wpAny_pyNext_range_end (I.ok.hd hc) st (by have : n <= i := hg; omega) fun h' eb => ⟨rfl, I.turned (t' := s.toks) (fun b o hb e => eb b o hb e) f0 f1 f3 f4 f5⟩
 self := fun _ _ _ _ _ st h => wpAny_pyIter_rangeiter st h
end L2
namespace L2
open PySem PySem.Spec PyProof.Rows
section
variable {X : Cx} {tg : Expr}
def Nk (K : PySem.W.Frag) (tl : TE) : TI := fun σ H R => tl σ H fun x H1 => ∃ a, x = .ref a /\ (∃ xs, SqL K H1 a xs) /\ R (Itl K a) H1
def iTup (K : PySem.W.Frag) (tl : TE) : TI := fun σ H R => tl σ H fun x H1 => ∃ a, x = .ref a /\ (∃ xs, SqT K H1 a xs) /\ R (Itt K a) H1
theorem Fm {l : Expr} {tl : TE} (hl : PE X l tl) : PI X tg l (Nk X.K tl) := by
 intro pins s σ H R I h
 refine thn (hl pins s σ H _ I h) fun v s1 ⟨x, H1, I1, r1, q1⟩ => ?_
 obtain ⟨a, e, ⟨xs, hq⟩, q⟩ := q1
 subst e
 cases r1
 obtain ⟨its, rv, p, hz⟩ := I1.list hq
 refine wpAny_pyIter_list p.isList ?_
 refine ⟨s1.heap.objs.size, [s1.heap.objs.size], _, _, H1, rfl, I1.kept (t' := s1.toks) fun b o e => Heap.get?_push_of_some _ e, ai a _, ⟨_, Heap.get?_push_size _ rfl, rfl, rfl⟩, fun b hb => ?_, q⟩
 have e : b = s1.heap.objs.size := by simpa using hb
 subst e
 exact I1.fpOk (Nat.le_refl _) (I1.hok.fresh (Nat.le_refl _))
theorem pi_tup {l : Expr} {tl : TE} (hl : PE X l tl) : PI X tg l (iTup X.K tl) := by
 intro pins s σ H R I h
 refine thn (hl pins s σ H _ I h) fun v s1 ⟨x, H1, I1, r1, q1⟩ => ?_
 obtain ⟨a, e, ⟨xs, hq⟩, q⟩ := q1
 subst e
 cases r1
 obtain ⟨its, rv, p, hz⟩ := I1.tuple hq
 refine wpAny_pyIter_tuple (show s1.heap.IsTuple a its.toArray from p) ?_
 refine ⟨s1.heap.objs.size, [s1.heap.objs.size], _, _, H1, rfl, I1.kept (t' := s1.toks) fun b o e => Heap.get?_push_of_some _ e, sh a _, ⟨_, Heap.get?_push_size _ rfl, rfl, rfl⟩, fun b hb => ?_, q⟩
 have e : b = s1.heap.objs.size := by simpa using hb
 subst e
 exact I1.fpOk (Nat.le_refl _) (I1.hok.fresh (Nat.le_refl _))
theorem gk {pins : List (Addr × Obj)} {σ : St} {H : Hp} {s : Shared} {R : It -> Hp -> Prop} {E : Value -> Shared -> Prop} {lo hi : Int} {t u v : Tok} {tk : Nat} (I : Inv X pins σ H s) (h1 : -(2 ^ 62) <= lo) (h2 : lo < 2 ^ 62) (h3 : -(2 ^ 62) <= hi) (h4 : hi < 2 ^ 62)
 (q : R (Itr lo (hi - lo).toNat) H) : wpAny (model X.prog X.w) X.A (pyIter (.ref s.heap.objs.size)) (PIE X pins σ tg R) E { s with heap := s.heap.push { cls := .type "range", data := .fields #[.int lo t, .int hi u, .int 1 v] }, toks := tk } := by
 refine wpAny_pyIter_range (IsRange.new ..) (small_one h1 h2 h3 h4) ?_
 have I1 : Inv X pins σ H { s with heap := s.heap.push { cls := .type "range", data := .fields #[.int lo t, .int hi u, .int 1 v] }, toks := tk } := I.kept fun b o e => Heap.get?_push_of_some _ e
 refine ⟨(s.heap.push { cls := .type "range", data := .fields #[.int lo t, .int hi u, .int 1 v] }).objs.size, [(s.heap.push { cls := .type "range", data := .fields #[.int lo t, .int hi u, .int 1 v] }).objs.size], _, _, H, rfl,
  I1.kept (t' := tk) fun b o e => Heap.get?_push_of_some _ e, uh _ lo (hi - lo).toNat, ?_, fun b hb => ?_, q⟩
 . have e1 : lo + ((0 : Nat) : Int) * 1 = lo := by simp
   have e2 : (((hi - lo).toNat : Nat) : Int) - ((0 : Nat) : Int) = Builtin.Range.rangeSize lo hi 1 := by rw [rangeSize_one]; split <;> omega
   show IsRangeIter _ _ (lo + ((0 : Nat) : Int) * 1) ((((hi - lo).toNat : Nat) : Int) - ((0 : Nat) : Int)) 1
   rw [e1, e2]
   exact Heap.get?_push_size _ rfl
 . have e : b = (s.heap.push { cls := .type "range", data := .fields #[.int lo t, .int hi u, .int 1 v] }).objs.size := by simpa using hb
   subst e
   exact I1.fpOk (Nat.le_refl _) (I1.hok.fresh (Nat.le_refl _))
def iRng1 (ta : TA) : TI := fun σ H R => ta σ H fun vs H1 => ∃ j : Int, vs = [.int j] /\ -(2 ^ 62) <= j /\ j < 2 ^ 62 /\ R (Itr 0 j.toNat) H1
theorem Ld {a : Expr} {ta : TA} {p pos : Pos} (hg : Gl X "range") (hm : X.mg "range" = none) (ha : PA X [a] ta) (hs : starEach [a] X.env = [(false, eval a X.env)] := by first | rfl | with_unfolding_all rfl) : PI X tg (.Call (.Name "range" p) [a] [] pos) (iRng1 ta) := by
 intro pins s σ H R I h
 refine Call_ (Je I hg hm boot_range (PyProof.Rows.callWith_type1 (thn (ha pos pins s σ H _ I h) fun us s1 ⟨vs, H1, I1, r1, q1⟩ => ?_) hs rfl))
 obtain ⟨j, e, q1, q2, q⟩ := q1
 subst e
 cases r1 with
 | cons r rr =>
  cases rr
  obtain ⟨t, rfl⟩ := r
  exact call_range_1 (gk I1 (by omega) (by omega) q1 q2 (by simpa using q))
def tFor (wi : TI) (g : TG) (tb : TS) : TS := fun D σ H => wi σ H fun J H1 => ∃ W : Nat -> Nat -> St -> Hp -> Prop, (∃ m, W 0 m σ H1) /\ ∀ i m σ H, W i m σ H ->
 (J.stop i H /\ D.nx σ H) \/ (J.go i H /\ ∃ N : St -> Hp -> Prop, (∀ σ' H', N σ' H' -> ∃ m', m' < m /\ W (i + 1) m' σ' H') /\ ∀ x H', J.yld i H x H' -> g x σ H' fun σ2 H2 => tb { D with nx := N, ct := N, bk := D.nx } σ2 H2)
def Vf (fp : List Addr) (h : Heap) : List (Addr × Obj) := fp.filterMap fun b => (h.get? b).map fun o => (b, o)
theorem Vb {fp : List Addr} {h : Heap} {b : Addr} {o : Obj} (hb : b ∈ fp) (e : h.get? b = some o) : (b, o) ∈ Vf fp h := List.mem_filterMap.mpr ⟨b, hb, by rw [e]; rfl⟩
theorem ij {fp : List Addr} {h : Heap} {p : Addr × Obj} (hp : p ∈ Vf fp h) : p.1 ∈ fp /\ h.get? p.1 = some p.2 := by
 obtain ⟨b, hb, e⟩ := List.mem_filterMap.mp hp
 cases q : h.get? b with
 | none => rw [q] at e; cases e
 | some o =>
  rw [q] at e
  have e' : (b, o) = p := Option.some.inj e
  subst e'
  exact ⟨hb, q⟩
theorem Inv.pinned {pins : List (Addr × Obj)} {σ : St} {H : Hp} {s : Shared} {fp : List Addr} (I : Inv X pins σ H s) (hf : ∀ b ∈ fp, FpOk X pins H b) (ho : ∀ b ∈ fp, ∃ o, s.heap.get? b = some o /\ ∀ v, o.data ≠ .cell v) : Inv X (pins ++ Vf fp s.heap) σ H s :=
 I.Jd fun p hp => (List.mem_append.mp hp).elim (fun z => I.pin p (List.mem_append_right _ z)) fun z => by
  obtain ⟨hb, e⟩ := ij z
  obtain ⟨f0, f1, f2, _⟩ := hf p.1 hb
  obtain ⟨o, e', d⟩ := ho p.1 hb
  rw [e] at e'; cases e'
  exact ⟨e, f0, f1, f2, d⟩
theorem Inv.Me {pins pl : List (Addr × Obj)} {σ : St} {H : Hp} {s : Shared} (I : Inv X (pins ++ pl) σ H s) : Inv X pins σ H s := I.Jd fun p hp => I.pin p (List.mem_append_right _ (List.mem_append_left _ hp))
theorem Cc {iter : Expr} {body : List Stmt} {wi : TI} {g : TG} {tb : TS} {pos : Pos} (hp : PassesOwn (model X.prog X.w) X.A X.env X.xe) (hc : X.calm = true) (hi : PI X tg iter wi) (hg : PG X tg g) (hb : PSs X body tb)
 (hs : ∀ x, foldedSetIterable iter X.env x = pure x := by intro _; first | rfl | with_unfolding_all rfl) : PS X (.For tg iter body [] pos) (tFor wi g tb) := by
 intro pins s σ H D I h
 refine wpAny_For (thn (hi pins s σ H _ I h) fun v s1 h1 => thn h1 fun itv s2 h2 => ?_) hs
 obtain ⟨it, fp, tn, J, H2, e, I2, T, st2, f2, W, ⟨m0, w0⟩, turn⟩ := h2
 subst e
 have stat : ∀ {H' : Hp}, (∀ b ∈ fp, H' b = none) -> ∀ b ∈ fp, FpOk X pins H' b := fun hn b hb => ⟨hn b hb, (f2 b hb).2⟩
 refine codeAny_forLoop_any (fun n s' => ∃ i σ' H', Inv X pins σ' H' s' /\ tn i s'.heap /\ (∀ b ∈ fp, H' b = none) /\ W i n σ' H') ?_ m0 ⟨0, σ, H2, I2, st2, fun b hb => (f2 b hb).1, w0⟩
 rintro n s3 ⟨i, σ3, H3, I3, st3, fr3, w3⟩
 rcases turn i n σ3 H3 w3 with ⟨stop, qn⟩ | ⟨go, N, hN, step⟩
 . refine wpAny_passesOwn hp (thn (T.done X rfl rfl rfl hc i pins s3 σ3 H3 X.xe I3 (stat fr3) st3 stop) fun r s4 ⟨hr, I4⟩ => ?_)
   subst hr
   exact wpAny_execs_nil ⟨σ3, H3, I4, qn⟩
 . refine wpAny_passesOwn hp (thn (T.item X rfl rfl rfl hc i pins s3 σ3 H3 X.xe I3 (stat fr3) st3 go) fun r s4 ⟨u, hr, h4⟩ => ?_)
   subst hr
   refine wpAny_passesOwn hp (thn h4 fun _ s5 ⟨x, H5, I5, r5, y5, st5, fr5⟩ => ?_)
   have I5' := I5.pinned (stat fr5) (T.obj _ _ st5)
   refine wpAny_passesOwn hp (thn (hg _ s5 σ3 H5 x u _ I5' r5 (step x H5 y5)) fun _ s6 ⟨σ6, H6, I6, q6⟩ => ?_)
   refine wpAny_passesOwn hp (thn (hb _ s6 σ6 H6 _ I6 q6) fun f s7 q7 => ?_)
   have again : ∀ {σ7 : St} {H7 : Hp}, Inv X (pins ++ Vf fp s5.heap) σ7 H7 s7 -> N σ7 H7 -> ∃ m, m < n /\ ∃ i σ' H', Inv X pins σ' H' s7 /\ tn i s7.heap /\ (∀ b ∈ fp, H' b = none) /\ W i m σ' H' := fun {σ7 H7} I7 n7 => by
    obtain ⟨m', hm, w7⟩ := hN σ7 H7 n7
    refine ⟨m', hm, i + 1, σ7, H7, I7.Me, T.keep _ _ _ st5 fun b hb o e => (I7.pin (b, o) (List.mem_append_right _ (List.mem_append_right _ (Vb hb e)))).1, fun b hb => ?_, w7⟩
    obtain ⟨o, e, d⟩ := T.obj _ _ st5 b hb
    exact (I7.pin (b, o) (List.mem_append_right _ (List.mem_append_right _ (Vb hb e)))).2.1
   cases f with
   | next => obtain ⟨σ7, H7, I7, n7⟩ := q7; exact again I7 n7
   | cont => obtain ⟨σ7, H7, I7, n7⟩ := q7; exact again I7 n7
   | brk => obtain ⟨σ7, H7, I7, q7⟩ := q7; exact ⟨σ7, H7, I7.Me, q7⟩
   | ret v => obtain ⟨x7, σ7, H7, I7, r7, q7⟩ := q7; exact ⟨x7, σ7, H7, I7.Me, r7, q7⟩
end
theorem Ym {K : PySem.W.Frag} {a : Addr} {xs : List V} {g : TG} {tb : TS} {D : Ends} {σ : St} {H : Hp} (Pv : Nat -> St -> Hp -> Prop) (h0 : Pv 0 σ H) (hl : ∀ i σ H, i <= xs.length -> Pv i σ H -> SqT K H a xs)
 (hs : ∀ i x σ H, xs[i]? = some x -> Pv i σ H -> g x σ H fun σ2 H2 => tb { D with nx := Pv (i + 1), ct := Pv (i + 1), bk := D.nx } σ2 H2) (hd : ∀ σ H, Pv xs.length σ H -> D.nx σ H) :
 ∃ W : Nat -> Nat -> St -> Hp -> Prop, (∃ m, W 0 m σ H) /\ ∀ i m σ H, W i m σ H ->
  ((Itt K a).stop i H /\ D.nx σ H) \/ ((Itt K a).go i H /\ ∃ N : St -> Hp -> Prop, (∀ σ' H', N σ' H' -> ∃ m', m' < m /\ W (i + 1) m' σ' H') /\ ∀ x H', (Itt K a).yld i H x H' -> g x σ H' fun σ2 H2 => tb { D with nx := N, ct := N, bk := D.nx } σ2 H2) := by
 refine ⟨fun i m σ H => m = xs.length - i /\ i <= xs.length /\ Pv i σ H, ⟨xs.length, by simp, Nat.zero_le _, h0⟩, ?_⟩
 rintro i m σ H ⟨rfl, hi, p⟩
 have q := hl i σ H hi p
 by_cases hlt : i < xs.length
 . refine .inr ⟨⟨xs, xs[i], q, by simp [hlt]⟩, Pv (i + 1), fun σ' H' p' => ⟨xs.length - (i + 1), by omega, rfl, hlt, p'⟩, fun x H' y => ?_⟩
   obtain ⟨e, y⟩ := y
   subst e
   exact hs i x σ _ (y xs q) p
 . have e : i = xs.length := by omega
   subst e
   exact .inl ⟨⟨xs, q, Nat.le_refl _⟩, hd σ H p⟩
theorem qj {lo : Int} {n : Nat} {g : TG} {tb : TS} {D : Ends} {σ : St} {H : Hp} (Pv : Nat -> St -> Hp -> Prop) (h0 : Pv 0 σ H)
 (hs : ∀ i σ H, i < n -> Pv i σ H -> g (.int (lo + i)) σ H fun σ2 H2 => tb { D with nx := Pv (i + 1), ct := Pv (i + 1), bk := D.nx } σ2 H2) (hd : ∀ σ H, Pv n σ H -> D.nx σ H) :
 ∃ W : Nat -> Nat -> St -> Hp -> Prop, (∃ m, W 0 m σ H) /\ ∀ i m σ H, W i m σ H ->
  ((Itr lo n).stop i H /\ D.nx σ H) \/ ((Itr lo n).go i H /\ ∃ N : St -> Hp -> Prop, (∀ σ' H', N σ' H' -> ∃ m', m' < m /\ W (i + 1) m' σ' H') /\ ∀ x H', (Itr lo n).yld i H x H' -> g x σ H' fun σ2 H2 => tb { D with nx := N, ct := N, bk := D.nx } σ2 H2) := by
 refine ⟨fun i m σ H => m = n - i /\ i <= n /\ Pv i σ H, ⟨n, by simp, Nat.zero_le _, h0⟩, ?_⟩
 rintro i m σ H ⟨rfl, hi, p⟩
 by_cases hlt : i < n
 . refine .inr ⟨hlt, Pv (i + 1), fun σ' H' p' => ⟨n - (i + 1), by omega, rfl, hlt, p'⟩, fun x H' y => ?_⟩
   obtain ⟨e, y⟩ := y
   subst e y
   exact hs i σ _ hlt p
 . have e : i = n := by omega
   subst e
   exact .inl ⟨Nat.le_refl _, hd σ H p⟩
end L2
namespace L2
open PySem PySem.Spec PyProof.Rows
abbrev R2 := V -> V -> Hp -> VK -> Prop
def OpR (X : Cx) (f : Value -> Value -> Sem Value) (r : R2) : Prop :=
 ∀ (pins : List (Addr × Obj)) (s : Shared) (σ : St) (H : Hp) (x y : V) (v u : Value) (Q : VK), Inv X pins σ H s -> RelV x v -> RelV y u -> r x y H Q ->
  wpAny (model X.prog X.w) X.A (f v u) (EP X pins σ Q) X.xe s
def UnR (X : Cx) (f : Value -> Sem Value) (r : V -> Hp -> VK -> Prop) : Prop :=
 ∀ (pins : List (Addr × Obj)) (s : Shared) (σ : St) (H : Hp) (x : V) (v : Value) (Q : VK), Inv X pins σ H s -> RelV x v -> r x H Q ->
  wpAny (model X.prog X.w) X.A (f v) (EP X pins σ Q) X.xe s
def ib (X : Cx) (f : Value) (r : List V -> Hp -> VK -> Prop) : Prop :=
 ∀ (pins : List (Addr × Obj)) (s : Shared) (σ : St) (H : Hp) (xs : List V) (us : List Value) (Q : VK), Inv X pins σ H s -> Vals xs us -> r xs H Q ->
  wpAny (model X.prog X.w) X.A (call f us) (EP X pins σ Q) X.xe s
def TruR (X : Cx) (r : V -> Hp -> (Bool -> Hp -> Prop) -> Prop) : Prop :=
 ∀ (pins : List (Addr × Obj)) (s : Shared) (σ : St) (H : Hp) (x : V) (v : Value) (Q : Bool -> Hp -> Prop), Inv X pins σ H s -> RelV x v -> r x H Q ->
  wpAny (model X.prog X.w) X.A (truthy v) (TP X pins σ Q) X.xe s
def tOp (r : R2) (ta tb : TE) : TE := fun σ H Q => ta σ H fun x H1 => tb σ H1 fun y H2 => r x y H2 Q
def tUn (r : V -> Hp -> VK -> Prop) (ta : TE) : TE := fun σ H Q => ta σ H fun x H1 => r x H1 Q
def rI (C : Int -> Int -> Prop) (g : Int -> Int -> V) : R2 := fun x y H Q => ∃ i j, x = .int i /\ y = .int j /\ C i j /\ Q (g i j) H
def rI0 (g : Int -> Int -> V) : R2 := fun x y H Q => ∃ i j, x = .int i /\ y = .int j /\ Q (g i j) H
def rU (g : Int -> V) : V -> Hp -> VK -> Prop := fun x H Q => ∃ i, x = .int i /\ Q (g i) H
section
variable {X : Cx} {a b c : Expr} {ta tb tc : TE} {pos : Pos}
theorem binT (ha : PE X a ta) (hb : PE X b tb) {pins : List (Addr × Obj)} {s : Shared} {σ : St} {H : Hp} {R : V -> V -> Hp -> Prop} (I : Inv X pins σ H s)
 (h : ta σ H fun x H1 => tb σ H1 fun y H2 => R x y H2) {Q : Value -> Shared -> Prop} {f : Value -> Value -> Sem Value}
 (hf : ∀ v u s2 x y H2, Inv X pins σ H2 s2 -> RelV x v -> RelV y u -> R x y H2 -> wpAny (model X.prog X.w) X.A (f v u) Q X.xe s2) :
 wpAny (model X.prog X.w) X.A (eval a X.env) (fun v s₁ => wpAny (model X.prog X.w) X.A (eval b X.env) (fun u s₂ => wpAny (model X.prog X.w) X.A (f v u) Q X.xe s₂) X.xe s₁) X.xe s := by
 refine thn (ha pins s σ H _ I h) fun v s1 ⟨x, H1, I1, r1, q1⟩ => ?_
 refine thn (hb pins s1 σ H1 _ I1 q1) fun u s2 ⟨y, H2, I2, r2, q2⟩ => ?_
 exact hf v u s2 x y H2 I2 r1 r2 q2
theorem Ka {op : Operator} {r : R2} (ho : OpR X (binaryOp op) r) (ha : PE X a ta) (hb : PE X b tb) : PE X (.BinOp a op b pos) (tOp r ta tb) := by
 intro pins s σ H Q I h
 exact wpAny_BinOp (binT ha hb I h fun v u s2 x y H2 I2 rx ry q => ho pins s2 σ H2 x y v u Q I2 rx ry q)
theorem Ui {op : UnaryOp} {r : V -> Hp -> VK -> Prop} (ho : UnR X (unaryOp op) r) (ha : PE X a ta) : PE X (.UnaryOp op a pos) (tUn r ta) := by
 intro pins s σ H Q I h
 exact UnaryOp_ (thn (ha pins s σ H _ I h) fun v s1 ⟨x, H1, I1, r1, q1⟩ => ho pins s1 σ H1 x v Q I1 r1 q1)
theorem opI {f : Value -> Value -> Sem Value} {C : Int -> Int -> Prop} {g : Int -> Int -> Int}
 (rule : ∀ (i j : Int) (t u : Tok) (s : Shared) (Q : Value -> Shared -> Prop) (E : Value -> Shared -> Prop), C i j -> Q (.int (g i j) s.toks) { s with toks := s.toks + 1 } -> wpAny (model X.prog X.w) X.A (f (.int i t) (.int j u)) Q E s) :
 OpR X f (rI C fun i j => .int (g i j)) := by
 intro pins s σ H x y v u Q I rx ry h
 obtain ⟨i, j, rfl, rfl, hc, q⟩ := h
 obtain ⟨t, rfl⟩ := rx
 obtain ⟨t', rfl⟩ := ry
 exact rule i j t t' s _ _ hc ⟨.int (g i j), H, I.tok _, ⟨_, rfl⟩, q⟩
theorem opI0 {f : Value -> Value -> Sem Value} {g : Int -> Int -> Int}
 (rule : ∀ (i j : Int) (t u : Tok) (s : Shared) (Q : Value -> Shared -> Prop) (E : Value -> Shared -> Prop), Q (.int (g i j) s.toks) { s with toks := s.toks + 1 } -> wpAny (model X.prog X.w) X.A (f (.int i t) (.int j u)) Q E s) :
 OpR X f (rI0 fun i j => .int (g i j)) := by
 intro pins s σ H x y v u Q I rx ry h
 obtain ⟨i, j, rfl, rfl, q⟩ := h
 obtain ⟨t, rfl⟩ := rx
 obtain ⟨t', rfl⟩ := ry
 exact rule i j t t' s _ _ ⟨.int (g i j), H, I.tok _, ⟨_, rfl⟩, q⟩
theorem opB0 {f : Value -> Value -> Sem Value} {g : Int -> Int -> Bool}
 (rule : ∀ (i j : Int) (t u : Tok) (s : Shared) (Q : Value -> Shared -> Prop) (E : Value -> Shared -> Prop), Q (.bool (g i j)) s -> wpAny (model X.prog X.w) X.A (f (.int i t) (.int j u)) Q E s) :
 OpR X f (rI0 fun i j => .bl (g i j)) := by
 intro pins s σ H x y v u Q I rx ry h
 obtain ⟨i, j, rfl, rfl, q⟩ := h
 obtain ⟨t, rfl⟩ := rx
 obtain ⟨t', rfl⟩ := ry
 exact rule i j t t' s _ _ ⟨.bl (g i j), H, I, rfl, q⟩
def CPow (i j : Int) : Prop := 0 <= j /\ j <= 1000000 /\ i.natAbs < 2 ^ 64
def CMul (i j : Int) : Prop := (-(2 ^ 64) < i /\ i < 2 ^ 64) \/ (-(2 ^ 64) < j /\ j < 2 ^ 64)
theorem CMul.ok {i j : Int} (h : CMul i j) : IntMulOk i j := by
 rcases h with ⟨h1, h2⟩ | ⟨h1, h2⟩
 . exact .of_left (intBits_le_64 h1 h2)
 . exact .of_right (intBits_le_64 h1 h2)
theorem op_add : OpR X (binaryOp .Add) (rI0 fun i j => .int (i + j)) := opI0 fun _ _ _ _ _ _ _ q => add_int q
theorem aj : OpR X (binaryOp .Sub) (rI0 fun i j => .int (i - j)) := opI0 fun _ _ _ _ _ _ _ q => sub_int q
theorem Wf : OpR X (binaryOp .Mod) (rI (fun _ j => 0 < j) fun i j => .int (i % j)) := opI fun i j _ _ _ _ _ hc q => by
 have h1 : (0 : Int) < j := hc
 exact mod_int' (by omega) (by rw [Int.fmod_eq_emod_of_nonneg i (by omega)]; exact q)
theorem op_pow : OpR X (binaryOp .Pow) (rI CPow fun i j => .int (i ^ j.toNat)) := opI fun _ _ _ _ _ _ _ hc q => pow_int_small hc.1 hc.2.1 hc.2.2 q
theorem unI {f : Value -> Sem Value} {g : Int -> Int}
 (rule : ∀ (i : Int) (t : Tok) (s : Shared) (Q : Value -> Shared -> Prop) (E : Value -> Shared -> Prop), Q (.int (g i) s.toks) { s with toks := s.toks + 1 } -> wpAny (model X.prog X.w) X.A (f (.int i t)) Q E s) :
 UnR X f (rU fun i => .int (g i)) := by
 intro pins s σ H x v Q I rx h
 obtain ⟨i, rfl, q⟩ := h
 obtain ⟨t, rfl⟩ := rx
 exact rule i t s _ _ ⟨.int (g i), H, I.tok _, ⟨_, rfl⟩, q⟩
theorem Af : UnR X (unaryOp .USub) (rU fun i => .int (-i)) := unI fun _ _ _ _ _ q => neg_int q
end
def scal : V -> V -> Bool
 | .non, .non => true | .non, .int _ => true | .int _, .non => true | .non, .bl _ => true | .bl _, .non => true | .non, .str _ => true | .str _, .non => true
 | .int _, .int _ => true | .bl _, .bl _ => true | .str _, .str _ => true | .byt _, .byt _ => true
 | .int _, .str _ => true | .str _, .int _ => true | .bl _, .str _ => true | .str _, .bl _ => true
 | _, _ => false
def rEq : R2 := fun x y H Q => scal x y = true /\ Q (.bl (decide (x = y))) H
def rNe : R2 := fun x y H Q => scal x y = true /\ Q (.bl (!decide (x = y))) H
theorem tj {i j : Int} : decide (V.int i = V.int j) = (i == j) := by
 rw [Bool.eq_iff_iff]
 simp
theorem Ol {i j : Bool} : decide (V.bl i = V.bl j) = (i == j) := by
 rw [Bool.eq_iff_iff]
 simp
theorem sj {i j : Str} : decide (V.str i = V.str j) = (i == j) := by
 rw [Bool.eq_iff_iff]
 simp
theorem uj {i j : Array UInt8} : decide (V.byt i = V.byt j) = (i.toList == j.toList) := by
 rw [Bool.eq_iff_iff]
 cases i
 cases j
 simp
section
variable {X : Cx} {a b c : Expr} {ta tb tc : TE} {pos : Pos}
theorem Ja {pins : List (Addr × Obj)} {σ : St} {H : Hp} {s : Shared} {Q : VK} {k k' : Bool} (I : Inv X pins σ H s) (q : Q (.bl k) H) (e : k = k') : EP X pins σ Q (.bool k') s := by
 subst e
 exact ⟨.bl k, H, I, rfl, q⟩
theorem op_eq : OpR X (compareOp .Eq) rEq := by
 intro pins s σ H x y v u Q I rx ry h
 obtain ⟨hs, q⟩ := h
 cases x with
 | non =>
  cases rx
  cases y with
  | non => cases ry; exact PySem.EqNone.eq_none_none (Ja I q (by simp))
  | bl j => cases ry; exact PySem.EqNone.eq_none_bool (Ja I q (by simp))
  | int j => obtain ⟨t', rfl⟩ := ry; exact PySem.EqNone.eq_none_int (Ja I q (by simp))
  | str j => obtain ⟨t', rfl⟩ := ry; exact PySem.EqNone.eq_none_str (Ja I q (by simp))
  | _ => exact absurd (show false = true from hs) Bool.false_ne_true
 | bl i =>
  cases rx
  cases y with
  | non => cases ry; exact PySem.EqNone.eq_bool_none (Ja I q (by simp))
  | bl j => cases ry; exact eq_bool (Ja I q Ol)
  | str j => obtain ⟨t', rfl⟩ := ry; exact PySem.EqMixed.eq_bool_str (Ja I q (by simp))
  | _ => exact absurd (show false = true from hs) Bool.false_ne_true
 | int i =>
  obtain ⟨t, rfl⟩ := rx
  cases y with
  | non => cases ry; exact PySem.EqNone.eq_int_none (Ja I q (by simp))
  | int j => obtain ⟨t', rfl⟩ := ry; exact eq_int (Ja I q tj)
  | str j => obtain ⟨t', rfl⟩ := ry; exact PySem.EqMixed.eq_int_str (Ja I q (by simp))
  | _ => exact absurd (show false = true from hs) Bool.false_ne_true
 | str i =>
  obtain ⟨t, rfl⟩ := rx
  cases y with
  | non => cases ry; exact PySem.EqNone.eq_str_none (Ja I q (by simp))
  | bl j => cases ry; exact PySem.EqMixed.eq_str_bool (Ja I q (by simp))
  | int j => obtain ⟨t', rfl⟩ := ry; exact PySem.EqMixed.eq_str_int (Ja I q (by simp))
  | str j => obtain ⟨t', rfl⟩ := ry; exact eq_str (Ja I q sj)
  | _ => exact absurd (show false = true from hs) Bool.false_ne_true
 | byt i =>
  obtain ⟨t, rfl⟩ := rx
  cases y with
  | byt j => obtain ⟨t', rfl⟩ := ry; exact PySem.W.eq_bytes (Ja I q uj)
  | _ => exact absurd (show false = true from hs) Bool.false_ne_true
 | _ => cases y <;> exact absurd (show false = true from hs) Bool.false_ne_true
theorem op_ne : OpR X (compareOp .NotEq) rNe := by
 intro pins s σ H x y v u Q I rx ry h
 obtain ⟨hs, q⟩ := h
 cases x with
 | non =>
  cases rx
  cases y with
  | non => cases ry; exact PySem.EqNone.ne_none_none (Ja I q (by simp))
  | bl j => cases ry; exact PySem.EqNone.ne_none_bool (Ja I q (by simp))
  | int j => obtain ⟨t', rfl⟩ := ry; exact PySem.EqNone.ne_none_int (Ja I q (by simp))
  | str j => obtain ⟨t', rfl⟩ := ry; exact PySem.EqNone.ne_none_str (Ja I q (by simp))
  | _ => exact absurd (show false = true from hs) Bool.false_ne_true
 | bl i =>
  cases rx
  cases y with
  | non => cases ry; exact PySem.EqNone.ne_bool_none (Ja I q (by simp))
  | bl j => cases ry; exact ne_bool (Ja I q (congrArg not Ol))
  | str j => obtain ⟨t', rfl⟩ := ry; exact PySem.EqMixed.ne_bool_str (Ja I q (by simp))
  | _ => exact absurd (show false = true from hs) Bool.false_ne_true
 | int i =>
  obtain ⟨t, rfl⟩ := rx
  cases y with
  | non => cases ry; exact PySem.EqNone.ne_int_none (Ja I q (by simp))
  | int j => obtain ⟨t', rfl⟩ := ry; exact ne_int (Ja I q (congrArg not tj))
  | str j => obtain ⟨t', rfl⟩ := ry; exact PySem.EqMixed.ne_int_str (Ja I q (by simp))
  | _ => exact absurd (show false = true from hs) Bool.false_ne_true
 | str i =>
  obtain ⟨t, rfl⟩ := rx
  cases y with
  | non => cases ry; exact PySem.EqNone.ne_str_none (Ja I q (by simp))
  | bl j => cases ry; exact PySem.EqMixed.ne_str_bool (Ja I q (by simp))
  | int j => obtain ⟨t', rfl⟩ := ry; exact PySem.EqMixed.ne_str_int (Ja I q (by simp))
  | str j => obtain ⟨t', rfl⟩ := ry; exact ne_str (Ja I q (congrArg not sj))
  | _ => exact absurd (show false = true from hs) Bool.false_ne_true
 | byt i =>
  obtain ⟨t, rfl⟩ := rx
  cases y with
  | byt j => obtain ⟨t', rfl⟩ := ry; exact PySem.W.ne_bytes (Ja I q (congrArg not uj))
  | _ => exact absurd (show false = true from hs) Bool.false_ne_true
 | _ => cases y <;> exact absurd (show false = true from hs) Bool.false_ne_true
theorem op_lt : OpR X (compareOp .Lt) (rI0 fun i j => .bl (decide (i < j))) := opB0 fun _ _ _ _ _ _ _ q => lt_int q
theorem op_le : OpR X (compareOp .LtE) (rI0 fun i j => .bl (decide (i <= j))) := opB0 fun _ _ _ _ _ _ _ q => le_int q
theorem df : OpR X (compareOp .Gt) (rI0 fun i j => .bl (decide (j < i))) := opB0 fun _ _ _ _ _ _ _ q => gt_int q
theorem Km : OpR X (compareOp .GtE) (rI0 fun i j => .bl (decide (j <= i))) := opB0 fun _ _ _ _ _ _ _ q => ge_int q
theorem Im : OpR X (compareOp .IsNot) (fun x y H Q => y = .non /\ Q (.bl (!decide (x = .non))) H) := by
 intro pins s σ H x y v u Q I rx ry h
 obtain ⟨rfl, q⟩ := h
 cases ry
 refine isnot_none_gen (Ja I q ?_)
 cases x <;> first
  | (cases rx; rfl)
  | (obtain ⟨t, rfl⟩ := rx; rfl)
theorem OpR.or {f : Value -> Value -> Sem Value} {r r' : R2} (h : OpR X f r) (h' : OpR X f r') : OpR X f (fun x y H Q => r x y H Q \/ r' x y H Q) := by
 intro pins s σ H x y v u Q I rx ry q
 rcases q with q | q
 . exact h pins s σ H x y v u Q I rx ry q
 . exact h' pins s σ H x y v u Q I rx ry q
theorem ra (b : Expr) {op : CmpOp} (h : op ≠ .In := by decide) (h2 : op ≠ .NotIn := by decide) : behindInMarks op b = false := by
 have e1 : (op == CmpOp.In) = false := by cases op <;> first | rfl | exact absurd rfl h
 have e2 : (op == CmpOp.NotIn) = false := by cases op <;> first | rfl | exact absurd rfl h2
 cases b <;> simp [behindInMarks, e1, e2]
theorem Qa {op : CmpOp} {r : R2} (ho : OpR X (compareOp op) r) (ha : PE X a ta) (hb : PE X b tb) (hm : behindInMarks op b = false) : PE X (.Compare a [op] [b] pos) (tOp r ta tb) := by
 intro pins s σ H Q I h
 exact wpAny_Compare1 (binT ha hb I h fun v u s2 x y H2 I2 rx ry q => ho pins s2 σ H2 x y v u Q I2 rx ry q) hm
def tTest (t : TE) : TT := fun σ H Q => t σ H fun x H' => ∃ k, x = .bl k /\ Q k H'
theorem ma {op : CmpOp} {r : R2} (ho : OpR X (compareOp op) r) (ha : PE X a ta) (hb : PE X b tb) (hm : behindInMarks op b = false) : PT X (.Compare a [op] [b] pos) (tTest (tOp r ta tb)) := by
 intro pins s σ H Q I h
 refine wpAny_isTrue_Compare1 (thn (ha pins s σ H _ I h) fun v s1 ⟨x, H1, I1, r1, q1⟩ => thn (hb pins s1 σ H1 _ I1 q1) fun u s2 ⟨y, H2, I2, r2, q2⟩ =>
  thn (ho pins s2 σ H2 x y v u _ I2 r1 r2 q2) fun c s3 ⟨z, H3, I3, r3, k, e, q3⟩ => ?_) hm
 subst e
 cases r3
 exact wpAny_truthy_bool ⟨H3, I3, q3⟩
def TruV (K : PySem.W.Frag) (x : V) (H : Hp) (k : Bool) : Prop :=
 match x with
 | .non => k = false
 | .bl b => k = b
 | .int i => k = (i != 0)
 | .str y => y.length <= sizeLine /\ k = ((y.length : Int) != 0)
 | .byt y => y.size <= sizeLine /\ k = ((y.size : Int) != 0)
 | .ref p => (∃ xs, SqL K H p xs /\ k = !xs.isEmpty) \/ (∃ xs, SqT K H p xs /\ k = !xs.isEmpty) \/ ∃ kvs, H p = some (.dK kvs) /\ k = !kvs.isEmpty
 | _ => False
theorem Sh {κ : Type} {kvs : List (κ × V)} {vs : List (κ × Value)} (r : KV kvs vs) : (!vs.isEmpty) = !kvs.isEmpty := by
 cases r <;> rfl
theorem Ke {xs : List V} {its : List Value} (r : Vals xs its) : (!its.toArray.isEmpty) = !xs.isEmpty := by
 cases r <;> simp
theorem dg : (sizeLine : Nat) < 2 ^ 63 := by rw [sizeLine_eq]; decide
theorem tru_ok : TruR X (fun x H Q => ∃ k, TruV X.K x H k /\ Q k H) := by
 intro pins s σ H x v Q I rx h
 obtain ⟨k, e, q⟩ := h
 have hl := dg
 have hs : sizeLine = 16777216 := sizeLine_eq
 cases x with
 | non =>
  cases rx
  have e' : k = false := e
  subst e'
  exact truthy_none ⟨H, I, q⟩
 | bl b =>
  cases rx
  have e' : k = b := e
  subst e'
  exact wpAny_truthy_bool ⟨H, I, q⟩
 | int i =>
  obtain ⟨t, rfl⟩ := rx
  have e' : k = (i != 0) := e
  subst e'
  exact PySem.P.truthy_int ⟨H, I, q⟩
 | str y =>
  obtain ⟨t, rfl⟩ := rx
  obtain ⟨hy, e'⟩ : y.length <= sizeLine /\ k = ((y.length : Int) != 0) := e
  subst e'
  exact PySem.P.truthy_str (by omega) ⟨H, I.tok _, q⟩
 | byt y =>
  obtain ⟨t, rfl⟩ := rx
  obtain ⟨hy, e'⟩ : y.size <= sizeLine /\ k = ((y.size : Int) != 0) := e
  subst e'
  exact PySem.W.truthy_bytes (by omega) ⟨H, I.tok _, q⟩
 | ref p =>
  cases rx
  have e' : (∃ xs, SqL X.K H p xs /\ k = !xs.isEmpty) \/ (∃ xs, SqT X.K H p xs /\ k = !xs.isEmpty) \/ ∃ kvs, H p = some (.dK kvs) /\ k = !kvs.isEmpty := e
  rcases e' with ⟨xs, hx, e'⟩ | ⟨xs, hx, e'⟩ | ⟨kvs, hx, e'⟩
  . subst e'
    obtain ⟨its, r, pl, hz⟩ := I.list hx
    have hlen := r.length
    exact wpAny_truthy_list pl.isList (by simp only [List.size_toArray]; omega) ⟨H, I.tok _, by rw [Ke r]; exact q⟩
  . subst e'
    obtain ⟨its, r, pl, hz⟩ := I.tuple hx
    have hlen := r.length
    exact truthy_tuple pl (by simp only [List.size_toArray]; omega) ⟨H, I.tok _, by rw [Ke r]; exact q⟩
  . subst e'
    obtain ⟨hz, hS, vs, r, m⟩ : kvs.length <= sizeLine /\ (p == sysModules) = false /\ ∃ vs, KV kvs vs /\ s.heap.DictOf (Ng X.prog X.w) p vs := I.hok p _ hx
    have hlen : kvs.length = vs.length := Paired.length r
    exact wpAny_truthy_dict hS m (by omega) ⟨H, I.tok _, by rw [Sh r]; exact q⟩
 | _ => exact (show False from e).elim
theorem wk (ha : PE X a ta) (he : ∀ whole, isTrue a X.env whole = (do let v <- whole; standAt a.pos; holding [v] (truthy v))) :
 PT X a (fun σ H Q => ta σ H fun x H' => ∃ k, TruV X.K x H' k /\ Q k H') := by
 intro pins s σ H Q I h
 exact isTrue_plain (thn (ha pins s σ H _ I h) fun v s1 ⟨x, H1, I1, r1, q1⟩ => tru_ok pins s1 σ H1 x v Q I1 r1 q1) (he _)
theorem Gh : OpR X (binaryOp .Add) (fun x y H Q => ∃ i j, x = .str i /\ y = .str j /\ i.length + j.length <= sizeLine /\ Q (.str (i ++ j)) H) := by
 intro pins s σ H x y v u Q I rx ry h
 obtain ⟨i, j, rfl, rfl, hz, q⟩ := h
 obtain ⟨t, rfl⟩ := rx
 obtain ⟨t', rfl⟩ := ry
 exact add_str (fun t' tk => ⟨.str (i ++ j), H, I.tok _, ⟨_, rfl⟩, q⟩) hz
theorem vals1 {x : V} {us : List Value} (r : Vals [x] us) : ∃ u, us = [u] /\ RelV x u := by
 cases r with
 | cons r1 r2 => cases r2; exact ⟨_, rfl, r1⟩
theorem vals2 {x y : V} {us : List Value} (r : Vals [x, y] us) : ∃ u w', us = [u, w'] /\ RelV x u /\ RelV y w' := by
 cases r with
 | cons r1 r2 =>
  cases r2 with
  | cons r3 r4 => cases r4; exact ⟨_, _, rfl, r1, r3⟩
theorem Xk : ib X (.builtin "abs") (fun xs H Q => ∃ i, xs = [.int i] /\ Q (.int (if i < 0 then -i else i)) H) := by
 intro pins s σ H xs us Q I r h
 obtain ⟨i, rfl, q⟩ := h
 obtain ⟨u, rfl, t, rfl⟩ := vals1 r
 exact call_abs_int fun u tk => ⟨.int (if i < 0 then -i else i), H, I.tok _, ⟨_, rfl⟩, q⟩
theorem Aj (hc : X.calm = true) : ib X (.builtin "max") (fun xs H Q => ∃ i j, xs = [.int i, .int j] /\ Q (.int (if j > i then j else i)) H) := by
 intro pins s σ H xs us Q I r h
 obtain ⟨i, j, rfl, q⟩ := h
 obtain ⟨u, w', rfl, ⟨t, rfl⟩, ⟨t', rfl⟩⟩ := vals2 r
 refine max_two_ints (I.ok.hd hc) fun h' tk k => ⟨_, H, I.kept k, ?_, q⟩
 by_cases hj : j > i
 . rw [if_pos hj, if_pos hj]; exact ⟨_, rfl⟩
 . rw [if_neg hj, if_neg hj]; exact ⟨_, rfl⟩
theorem zj (hc : X.calm = true) : ib X (.builtin "min") (fun xs H Q => ∃ i j, xs = [.int i, .int j] /\ Q (.int (if j < i then j else i)) H) := by
 intro pins s σ H xs us Q I r h
 obtain ⟨i, j, rfl, q⟩ := h
 obtain ⟨u, w', rfl, ⟨t, rfl⟩, ⟨t', rfl⟩⟩ := vals2 r
 refine min_two_ints (I.ok.hd hc) fun h' tk k => ⟨_, H, I.kept k, ?_, q⟩
 by_cases hj : j < i
 . rw [if_pos hj, if_pos hj]; exact ⟨_, rfl⟩
 . rw [if_neg hj, if_neg hj]; exact ⟨_, rfl⟩
theorem Bj : ib X (.type "int") (fun xs H Q => (∃ i, xs = [.int i] /\ Q (.int i) H) \/ ∃ k, xs = [.bl k] /\ Q (.int (if k then 1 else 0)) H) := by
 intro pins s σ H xs us Q I r h
 rcases h with ⟨i, rfl, q⟩ | ⟨k, rfl, q⟩
 . obtain ⟨u, rfl, t, rfl⟩ := vals1 r
   exact call_int_int ⟨.int i, H, I, ⟨_, rfl⟩, q⟩
 . obtain ⟨u, rfl, r1⟩ := vals1 r
   cases r1
   exact call_int_bool ⟨.int (if k then 1 else 0), H, I.tok _, ⟨_, rfl⟩, q⟩
end
end L2
namespace L2
open PySem PySem.Spec PyProof.Rows
structure ObjM (h : Heap) (x dx C : Addr) (mA : Str -> Option Value) : Prop where
 obj : h.get? x = some (PySem.W.instObj C dx)
 ns : h.Ns1 dx mA
 ne : dx ≠ x
theorem kj {h : Heap} {dx : Addr} {mA : Str -> Option Value} (n : h.Ns1 dx mA) : ∃ od, h.get? dx = some od /\ ∀ name, PySem.W.lookIn name od = some (mA name) := by
 obtain ⟨o, es, ep, ho, hd, hk, _, hm⟩ := n
 refine ⟨o, ho, fun name => ?_⟩
 have e := hm name
 unfold nsFind findBy at e
 rw [<- Array.find?_toList] at e
 unfold PySem.W.lookIn
 rw [hd]
 dsimp only
 split
 . rename_i y q
   rw [q] at e
   exact congrArg some e
 . rename_i q
   rw [q] at e
   have a : es.toList.any (·.refKey) = false := by
    rw [List.any_eq_false]
    intro y hy
    obtain ⟨z, t, hkey⟩ := hk y (Array.mem_toList_iff.mp hy)
    simp [DictEntry.refKey, hkey]
   have a' : ¬ es.toList.any (·.refKey) = true := by rw [a]; exact Bool.false_ne_true
   rw [if_neg a']
   exact congrArg some e
theorem ObjM.look {h : Heap} {x dx C : Addr} {mA : Str -> Option Value} (I : ObjM h x dx C mA) : ∃ od, PySem.W.InstAt h x (PySem.W.instObj C dx) C (some od) /\ ∀ name, PySem.W.lookIn name od = some (mA name) :=
 let ⟨od, ho, hl⟩ := kj I.ns
 ⟨od, ⟨I.obj, rfl, rfl, ho⟩, hl⟩
section
variable {prog : Program} {w : World} {A : Around} {E : Value -> Shared -> Prop} {s : Shared} {K : PySem.W.Frag} {x dx C f : Addr} {mA : Str -> Option Value} {name : Str} {v : Value}
end
section
variable {P : Program} {w : World} {H H' : Hp} {h h' : Heap} {a C dx : Addr} {fs fs' : List (Str × V)}
theorem Um (hok : HOk P w H h) (e : H a = some (.ins C dx fs)) : ∃ mA, ObjM h a dx C mA /\ (∀ f, RelO (fs.lookup f) (mA f)) /\ PySem.Within mA (fs.map (·.1)) /\ fs.length <= 1000 /\ H dx = some (.own a) := by
 obtain ⟨d, z, ne, ob, mA, n, r, q⟩ := (show fb P w H h a (.ins C dx fs) from hok a _ e)
 exact ⟨mA, ⟨ob, n, ne⟩, r, q, z, d⟩
end
structure Cls (K : PySem.W.Frag) (C : Addr) : Prop where
 pg : PySem.W.plainGet K C Str.empty = true
 hd : PySem.W.hasDictIn K C = true
 po : PySem.W.plainOver K C = true
 sa : PySem.W.findIn K (.ref C) "__setattr__" = some (some (.builtin "object.__setattr__"))
theorem Cls.get {K : PySem.W.Frag} {C : Addr} (c : Cls K C) (f : Str) : PySem.W.plainGet K C f = true := c.pg
section
variable {X : Cx} {pins : List (Addr × Obj)} {σ : St} {H : Hp} {s : Shared} {a C dx : Addr} {fs : List (Str × V)} {f : Str} {v : V} {A : Around} {E : Value -> Shared -> Prop}
theorem xn {prog : Program} {w : World} {env : Env} {e : Expr} {f : Str} {pos : Pos} {s : Shared} {Q : Value -> Shared -> Prop} (hb : attributeBase e f env (eval e env) = eval e env)
 (h : wpAny (model prog w) A (eval e env) (fun o s₁ => wpAny (model prog w) A (getAttr o f true) Q E s₁) E s) : wpAny (model prog w) A (eval (.Attribute e f pos) env) Q E s :=
 Attribute_any_ h (by rw [arm_eval_Attribute, hb])
end
section
variable {X : Cx} {pins : List (Addr × Obj)} {σ : St} {H : Hp} {s : Shared} {A : Around} {E : Value -> Shared -> Prop} {Q : Value -> Shared -> Prop} {c : Value} {b : Bool}
inductive TyOf (K : PySem.W.Frag) (H : Hp) : V -> Value -> Prop where
 | non : TyOf K H .non (.type "NoneType")
 | bl (x : Bool) : TyOf K H (.bl x) (.type "bool")
 | int (i : Int) : TyOf K H (.int i) (.type "int")
 | str (x : Str) : TyOf K H (.str x) (.type "str")
 | flt (x : UInt64) : TyOf K H (.flt x) (.type "float")
 | lst {a : Addr} {xs : List V} (e : H a = some (.lst xs)) : TyOf K H (.ref a) (.type "list")
 | frz {a : Addr} {o : Obj} {xs : List V} (e : H a = some (.frz o (.lst xs))) : TyOf K H (.ref a) (.type "list")
 | tup {a : Addr} {xs : List V} (e : H a = some (.tup xs)) : TyOf K H (.ref a) (.type "tuple")
 | dK {a : Addr} {kvs : List (Key × V)} (e : H a = some (.dK kvs)) : TyOf K H (.ref a) (.type "dict")
 | dT {a : Addr} {kvs : List (List Key × V)} (e : H a = some (.dT kvs)) : TyOf K H (.ref a) (.type "dict")
 | ins {a C dx : Addr} {fs : List (Str × V)} (e : H a = some (.ins C dx fs)) (cl : Cls K C) (ha : PySem.W.findIn K (.ref C) "__class__" = some (some (.builtin "object.__class__")))
  (hn : PySem.W.specialIn K (.builtin "object.__class__") "__get__" = some (some (.builtin "getset_descriptor.__get__"))) (htk : PySem.W.takesIn K (.builtin "object.__class__") = some true)
  (hm : PySem.W.mroIn K C (.type "object") = some true) : TyOf K H (.ref a) (.ref C)
theorem nj {x : V} {u t : Value} (I : Inv X pins σ H s) (rx : RelV x u) (ty : TyOf X.K H x t) (e : PySem.W.kitOne X.K t c = some b) (h : ∀ tk, Q (.bool b) { s with toks := tk }) :
 wpAny (model X.prog X.w) A (call (.builtin "isinstance") [u, c]) Q E s := by
 cases ty with
 | non => cases (show u = Value.none from rx); exact PySem.W.kia_one PySem.W.kitx_none I.kIn True.intro e (fun z => nomatch z) h
 | bl y => cases (show u = Value.bool y from rx); exact PySem.W.kia_one PySem.W.kitx_bool I.kIn True.intro e (fun z => nomatch z) h
 | int i => obtain ⟨t, q⟩ := (show ∃ t, u = Value.int i t from rx); cases q; exact PySem.W.kia_one PySem.W.kitx_int I.kIn True.intro e (fun z => nomatch z) h
 | str y => obtain ⟨t, q⟩ := (show ∃ t, u = Value.str y t from rx); cases q; exact PySem.W.kia_one PySem.W.kitx_str I.kIn True.intro e (fun z => nomatch z) h
 | flt y => obtain ⟨t, q⟩ := (show ∃ t, u = Value.float y t from rx); cases q; exact PySem.W.kia_one PySem.W.kitx_float I.kIn True.intro e (fun z => nomatch z) h
 | @lst a xs ea =>
  cases (show u = Value.ref a from rx)
  obtain ⟨_, _, n, _, h1⟩ := (show fb X.prog X.w H s.heap a (.lst xs) from I.hok a _ ea)
  exact PySem.W.kia_one PySem.W.kitx_list I.kIn ⟨_, h1, rfl⟩ e (fun z => nomatch z) h
 | @frz a ob xs ea =>
  cases (show u = Value.ref a from rx)
  obtain ⟨_, _, _, n, _, h1⟩ := (show fb X.prog X.w H s.heap a (.frz ob (.lst xs)) from I.hok a _ ea)
  exact PySem.W.kia_one PySem.W.kitx_list I.kIn ⟨_, h1, rfl⟩ e (fun z => nomatch z) h
 | @tup a xs ea =>
  cases (show u = Value.ref a from rx)
  obtain ⟨_, _, _, p⟩ := (show fb X.prog X.w H s.heap a (.tup xs) from I.hok a _ ea)
  obtain ⟨o, h1, h2, _⟩ := p
  exact PySem.W.kia_one PySem.W.kitx_tuple I.kIn ⟨o, h1, h2⟩ e (fun z => nomatch z) h
 | @dK a kvs ea =>
  cases (show u = Value.ref a from rx)
  obtain ⟨_, _, vs, _, p⟩ := (show fb X.prog X.w H s.heap a (.dK kvs) from I.hok a _ ea)
  obtain ⟨o, es, ep, h1, h2, _⟩ := p
  exact PySem.W.kia_one PySem.W.kitx_dict I.kIn ⟨o, h1, h2.1⟩ e (fun z => nomatch z) h
 | @dT a kvs ea =>
  cases (show u = Value.ref a from rx)
  obtain ⟨_, _, xs, _, o, es, ep, h1, h2, _⟩ := (show fb X.prog X.w H s.heap a (.dT kvs) from I.hok a _ ea)
  exact PySem.W.kia_one PySem.W.kitx_dict I.kIn ⟨o, h1, h2.1⟩ e (fun z => nomatch z) h
 | @ins a C dx fs ea cl ha hn htk hm =>
  cases (show u = Value.ref a from rx)
  obtain ⟨mA, O, _⟩ := Um I.hok ea
  obtain ⟨od, J, _⟩ := O.look
  exact PySem.W.kia_one (PySem.W.kitx_own (cl.get _) cl.hd ha hn htk hm) I.kIn J e (fun z => nomatch z) h
end
end L2
namespace L2
open PySem PySem.Spec PyProof.Rows
structure Room (k : Nat) (A : Around) : Prop where
 hd : A.handled = none
 dp : A.depth + 3 * k + 5 < recursionLimit
 un : A.units + 16 * k + 200 < cLine
theorem Room.mono {j k : Nat} {A : Around} (r : Room k A) (h : j <= k) : Room j A := ⟨r.hd, by have := r.dp; omega, by have := r.un; omega⟩
theorem Room.deeper {k : Nat} {A : Around} (r : Room (k + 1) A) (env : Env) : Room k (A.deeper env) :=
 ⟨r.hd, by have := r.dp; show A.depth + 1 + 3 * k + 5 < _; omega, by have := r.un; show A.units + 3 + 16 * k + 200 < _; omega⟩
theorem Mh {A : Around} {C : Addr} {us : List Value} {kw : List (Str × Value)} : (A.under (.builtin "type.__call__" ⟨.ref C :: us, kw⟩)).depth = A.depth + 1 := by
 first | rfl | simp [Around.under, Code.weight, Code.isCreation, Code.isGuard, Code.isCaller, Code.frames, Code.isFrame, guardIds]
theorem Room.depth {k : Nat} {A : Around} (r : Room k A) : A.depth < recursionLimit := by have := r.dp; omega
theorem Room.units {k : Nat} {A : Around} (r : Room k A) : A.units + 64 < cLine := by have := r.un; omega
def tNil : TA := fun _ H Q => Q [] H
def tCons (ta : TE) (tr : TA) : TA := fun σ H Q => ta σ H fun x H1 => tr σ H1 fun xs H2 => Q (x :: xs) H2
section
variable {X : Cx} {e : Expr} {es : List Expr} {te : TE} {t : TA} {pos : Pos}
theorem ia : PA X [] tNil := fun _ _ _ _ H Q I h => Calls.spliced_nil ⟨[], H, I, .nil, h⟩
theorem aa (ha : PE X e te) (hr : PA X es t) (hs : starEach (e :: es) X.env = (false, eval e X.env) :: starEach es X.env := by first | rfl | with_unfolding_all rfl) : PA X (e :: es) (tCons te t) := by
 intro pos pins s σ H Q I h
 rw [hs]
 show wpAny _ _ (spliced ((false, eval e X.env) :: backTo pos (starEach es X.env))) _ _ s
 refine Calls.spliced_cons (thn (ha pins s σ H _ I h) fun u s1 ⟨x, H1, I1, r1, q1⟩ => ?_)
 exact thn (hr pos pins s1 σ H1 _ I1 q1) fun us s2 ⟨xs, H2, I2, r2, q2⟩ => ⟨x :: xs, H2, I2, .cons r1 r2, q2⟩
def tTup (t : TA) : TE := fun σ H Q => t σ H fun xs H1 => xs.length <= sizeLine /\ ∀ p, H1 p = none -> Q (.ref p) (upd H1 p (.tup xs))
def tLst (t : TA) : TE := fun σ H Q => t σ H fun xs H1 => xs.length <= sizeLine /\ ∀ p, H1 p = none -> Q (.ref p) (upd H1 p (.lst xs))
theorem Ra {x1} (h : PA X es t) : PE X (.Tuple es x1 pos) (tTup t) := by
 intro pins s σ H Q I hq
 refine wpAny_Tuple_spliced (thn (h pos pins s σ H _ I hq) fun us s1 ⟨xs, H1, I1, r, z, q⟩ => ⟨by rw [<- r.length]; exact z, ?_⟩)
 have hf : H1 s1.heap.objs.size = none := I1.hok.fresh (Nat.le_refl _)
 refine ⟨.ref s1.heap.objs.size, upd H1 s1.heap.objs.size (.tup xs), I1.laid (t' := s1.toks) (fun b u e => Heap.get?_push_of_some _ e) (Nat.le_refl _) ?_, rfl, q _ hf⟩
 exact ⟨z, us, r, ⟨_, Heap.get?_push_size _ rfl, rfl, _, rfl⟩⟩
theorem Yc (h : PA X es t) : PE X (.List es pos) (tLst t) := by
 intro pins s σ H Q I hq
 refine wpAny_List_spliced (thn (h pos pins s σ H _ I hq) fun us s1 ⟨xs, H1, I1, r, z, q⟩ => ⟨by rw [<- r.length]; exact z, ?_⟩)
 have hf : H1 s1.heap.objs.size = none := I1.hok.fresh (Nat.le_refl _)
 refine ⟨.ref s1.heap.objs.size, upd H1 s1.heap.objs.size (.lst xs), I1.laid (t' := s1.toks) (fun b u e => Heap.get?_push_of_some _ e) (Nat.le_refl _) ?_, rfl, q _ hf⟩
 exact ⟨z, us, 0, r, Heap.get?_push_size _ rfl⟩
end
abbrev Sp := List V -> Hp -> VK -> XK -> Prop
abbrev CXT := List Env -> Hp -> Shared -> XK -> Value -> Shared -> Prop
structure Env0 (P : Program) (w : World) (K : PySem.W.Frag) (mg : Str -> Option Value) (base : Heap) (A : Around) (outer : List Env) (s : Shared) (H : Hp) : Prop where
 frames : A.frames = some outer
 mod : Mod K mg base
 bs : ∀ b o, base.get? b = some o -> s.heap.get? b = some o /\ H b = none
 bsz : base.objs.size <= s.heap.objs.size
 funs : s.heap.FunFrames base outer
 frf : ∀ b ∈ frs outer, H b = none
 hok : HOk P w H s.heap
 bare : AllBare s.gens
def CE (outer : List Env) (P : Program) (w : World) (H : Hp) (s : Shared) (Q : VK) (u : Value) (s' : Shared) : Prop :=
 ∃ v H', s'.os = s.os /\ AllBare s'.gens /\ Un (frs outer) [] H H' s.heap s'.heap /\ HOk P w H' s'.heap /\ RelV v u /\ Q v H'
def CR (CX : CXT) (outer : List Env) (P : Program) (w : World) (H : Hp) (s : Shared) (Q : VK) (E : XK) (r : Result) (s' : Shared) : Prop :=
 match r with
 | .ok (.ret u) => CE outer P w H s Q u s'
 | .ok _ => False
 | .error e => CX outer H s E e s'
structure FnOk (P : Program) (w : World) (K : PySem.W.Frag) (mg : Str -> Option Value) (base : Heap) (CX : CXT) (k : Nat) (f : Addr) (fd : FuncData) (ps : List Str) (sp : Sp) : Prop where
 len : ∀ vs H Q E, sp vs H Q E -> vs.length = ps.length
 run : ∀ (A : Around) (outer : List Env) (s : Shared) (H : Hp) (args : Args) (us : List Value) (vs : List V) (Q : VK) (E : XK), Room k A -> Env0 P w K mg base A outer s H -> BindsTo s fd args (ps.zip us) -> Vals vs us -> sp vs H Q E ->
  codeAny (model P w) A (.call (.ref f) args) (CR CX outer P w H s Q E) s
section
variable {X : Cx} {pins : List (Addr × Obj)} {σ : St} {H : Hp} {s s' : Shared}
theorem Inv.env0 (I : Inv X pins σ H s) : Env0 X.prog X.w X.K X.mg X.base X.A X.stack s H :=
 ⟨I.ok.frames, I.ok.mod, I.bs, Nat.le_trans I.ok.bsz I.sz, I.stack, I.Kc, I.hok, I.bare⟩
theorem Inv.after {Q : VK} {u : Value} (I : Inv X pins σ H s) (h : CE X.stack X.prog X.w H s Q u s') : EP X pins σ Q u s' := by
 obtain ⟨v, H', os, bare, un, hok, r, q⟩ := h
 obtain ⟨hh, g, d, t, os'⟩ := s'
 obtain rfl : os' = s.os := os
 exact ⟨v, H', I.call (h' := hh) (g' := g) (d' := d) (t' := t) (ch := []) un hok bare (fun b z => absurd z (by simp)), r, q⟩
end
def tCall (sp : Sp) (dvs : List V) (E : XK) (t : TA) : TE := fun σ H Q => t σ H fun vs H1 => sp (vs ++ dvs) H1 Q E
def Binds (K : PySem.W.Frag) (fd : FuncData) (ps : List Str) (ds : List Value) : Prop :=
 ∀ (s : Shared) (us : List Value), K.In s.heap -> (us ++ ds).length = ps.length -> BindsTo s fd ⟨us, []⟩ (ps.zip (us ++ ds))
theorem Binds.all {K : PySem.W.Frag} {fd : FuncData} {ps : List Str} (h : ∀ us : List Value, us.length = ps.length -> bindArgs fd ⟨us, []⟩ = pure (ps.zip us)) : Binds K fd ps [] := fun s us _ hl => by
 rw [List.append_nil] at hl ⊢
 exact .of_eq (h us hl)
def Passes (CX : CXT) (X : Cx) (E : XK) : Prop := ∀ (pins : List (Addr × Obj)) (σ : St) (H : Hp) (s : Shared) (e : Value) (s' : Shared), Inv X pins σ H s -> CX X.stack H s E e s' -> X.xe e s'
section
variable {X : Cx} {CX : CXT} {k : Nat} {f C : Addr} {fd : FuncData} {ps : List Str} {sp : Sp} {dvs : List V} {ds : List Value} {E : XK} {x m : Str} {p pos apos : Pos} {e o : Expr} {es : List Expr} {ta : TE} {t : TA}
theorem run_fn {pins : List (Addr × Obj)} {σ : St} {H : Hp} {s : Shared} {Q : VK} {us : List Value} {vs : List V} (F : FnOk X.prog X.w X.K X.mg X.base CX k f fd ps sp) (hr : Room k X.A) (hb : Binds X.K fd ps ds) (hd : Vals dvs ds) (hx : Passes CX X E)
 (I : Inv X pins σ H s) (r : Vals vs us) (h : sp (vs ++ dvs) H Q E) : wpAny (model X.prog X.w) X.A (call (.ref f) us) (EP X pins σ Q) X.xe s := by
 have r2 : Vals (vs ++ dvs) (us ++ ds) := r.append hd
 have hl : (us ++ ds).length = ps.length := by rw [<- r2.length]; exact F.len _ _ _ _ h
 refine wpAny_call (codeAny_mono (F.run X.A X.stack s H ⟨us, []⟩ (us ++ ds) (vs ++ dvs) Q E hr I.env0 (hb s us I.kIn hl) r2 h) fun r s' hq => ?_)
 cases r with
 | error e => exact hx pins σ H s e s' I hq
 | ok fl =>
  cases fl with
  | ret u => exact I.after hq
  | next => exact False.elim hq
  | brk => exact False.elim hq
  | cont => exact False.elim hq
theorem Hm (F : FnOk X.prog X.w X.K X.mg X.base CX k f fd ps sp) (hr : Room k X.A) (hg : Gl X x) (hm : X.mg x = some (.ref f)) (hk : PySem.W.keepIn X.K (.ref f) = true) (hb : Binds X.K fd ps ds) (hd : Vals dvs ds) (hx : Passes CX X E)
 (ha : PA X (e :: es) t) (hdb : (x == ("__debug__" : Str)) = false := by decide) (he : starEach (e :: es) X.env = (false, eval e X.env) :: starEach es X.env := by first | rfl | with_unfolding_all rfl) (hpl : (backTo pos (starEach es X.env)).any (·.1) = false := by first | rfl | with_unfolding_all rfl) :
 PE X (.Call (.Name x p) (e :: es) [] pos) (tCall sp dvs E t) := by
 intro pins s σ H Q I h
 refine wpAny_Call_Name_kw (Pc I hg hm ?_ hdb)
 refine PySem.W.callWith_K (h₀ := X.base) I.ok.mod.kin hk (thn (ha pos pins s σ H _ I h) fun us s1 ⟨vs, H1, I1, r, q⟩ => ⟨I1.kIn, ?_⟩) he hpl
 exact run_fn F hr hb hd hx I1 r q
end
structure Ga (N P : List Str) (sc : Scope) : Prop where
 kind : sc.kind = .function
 co : sc.isCoroutine = false
 gen : sc.isGenerator = false
 nd : N.Nodup
 pre : N.take P.length = P
 par : ∀ x ∈ P, sc.names.lookup x = some .local \/ sc.names.lookup x = some .cell
 nofree : ∀ y ∈ sc.names, y.2 ≠ .free
theorem wg {kindOf : Str -> Option NameKind} {x : Str} : ∀ {binds : List (Str × Value)} {m : Str -> Option Value}, (∀ v, (x, v) ∉ binds) -> bindL kindOf binds m x = m x
 | [], _, _ => rfl
 | (n, v) :: r, m, h => by
  unfold bindL
  rw [wg fun w hw => h w (List.mem_cons_of_mem _ hw)]
  split
  . have : x ≠ n := by rintro rfl; exact h v List.mem_cons_self
    simp [this]
  . rfl
theorem yg {kindOf : Str -> Option NameKind} {x : Str} : ∀ {binds : List (Str × Value)} {m : Str -> Option Value}, (∀ v, (x, v) ∉ binds) -> bindC kindOf binds m x = m x
 | [], _, _ => rfl
 | (n, v) :: r, m, h => by
  unfold bindC
  rw [yg fun w hw => h w (List.mem_cons_of_mem _ hw)]
  split
  . rfl
  . have : x ≠ n := by rintro rfl; exact h v List.mem_cons_self
    simp [this]
theorem xg {kindOf : Str -> Option NameKind} {x : Str} {v : Value} : ∀ {P : List Str} {vs : List Value} {i : Nat} {m : Str -> Option Value}, P.Nodup -> P[i]? = some x -> vs[i]? = some v -> kindOf x = some .local ->
 bindL kindOf (P.zip vs) m x = some v
 | [], _, _, _, _, h, _, _ => by simp at h
 | _ :: _, [], _, _, _, _, h, _ => by simp at h
 | p :: P, w :: vs, 0, m, nd, h1, h2, hk => by
  simp at h1 h2; subst h1; subst h2
  show bindL kindOf ((p, w) :: P.zip vs) m p = _
  unfold bindL
  rw [wg fun v hv => (List.nodup_cons.mp nd).1 (List.of_mem_zip hv).1, if_pos hk]
  simp
 | p :: P, w :: vs, i + 1, m, nd, h1, h2, hk => by
  show bindL kindOf ((p, w) :: P.zip vs) m x = _
  unfold bindL
  exact xg (i := i) (List.nodup_cons.mp nd).2 (by simpa using h1) (by simpa using h2) hk
theorem zg {kindOf : Str -> Option NameKind} {x : Str} {v : Value} : ∀ {P : List Str} {vs : List Value} {i : Nat} {m : Str -> Option Value}, P.Nodup -> P[i]? = some x -> vs[i]? = some v -> kindOf x ≠ some .local ->
 bindC kindOf (P.zip vs) m x = some v
 | [], _, _, _, _, h, _, _ => by simp at h
 | _ :: _, [], _, _, _, _, h, _ => by simp at h
 | p :: P, w :: vs, 0, m, nd, h1, h2, hk => by
  simp at h1 h2; subst h1; subst h2
  show bindC kindOf ((p, w) :: P.zip vs) m p = _
  unfold bindC
  rw [yg fun v hv => (List.nodup_cons.mp nd).1 (List.of_mem_zip hv).1, if_neg hk]
  simp
 | p :: P, w :: vs, i + 1, m, nd, h1, h2, hk => by
  show bindC kindOf ((p, w) :: P.zip vs) m x = _
  unfold bindC
  exact zg (i := i) (List.nodup_cons.mp nd).2 (by simpa using h1) (by simpa using h2) hk
def start (N : List Str) (vs : List V) : St := vs.map some ++ List.replicate (N.length - vs.length) none
def cxOf (CX : CXT) (P : Program) (w : World) (K : PySem.W.Frag) (mg : Str -> Option Value) (base : Heap) (N : List Str) (qual : Str) (scope : Scope) (f : Addr) (cd : Value) (A : Around) (outer : List Env) (s : Shared) (H : Hp) (E : XK) : Cx where
 prog := P
 w := w
 K := K
 mg := mg
 base := base
 A := A.deeper (envOfC qual scope s.heap.objs.size f cd)
 N := N
 s₀ := s
 H₀ := H
 env := envOfC qual scope s.heap.objs.size f cd
 outer := outer
 stack := envOfC qual scope s.heap.objs.size f cd :: outer
 ex := []
 calm := true
 fn := fun _ => true
 pn := []
 xe := fun e s' => wpAny (model P w) (A.deeper (envOfC qual scope s.heap.objs.size f cd)) (leaving (envOfC qual scope s.heap.objs.size f cd) e) (fun _ s'' => CX outer H s E e s'') (fun e' s'' => CX outer H s E e' s'') s'
theorem qh {sc : Scope} {n : Nat} {x : Str} (h : sc.names.lookup x = some .cell) : ∃ c, (cellsFrom n sc.names []).lookup x = some c := by
 have q := PySem.W.cellsFrom_some sc.names n [] (.inl h)
 exact Option.isSome_iff_exists.mp q
theorem oj {CX : CXT} {P : Program} {w : World} {K : PySem.W.Frag} {mg : Str -> Option Value} {base : Heap} {N ps : List Str} {qual : Str} {scope : Scope} {f : Addr} {cd : Value} {A : Around} {outer : List Env} {s s1 : Shared} {H : Hp} {E : XK} {us : List Value} {vs : List V}
 (S : Ga N ps scope) (hd : A.handled = none) (e0 : Env0 P w K mg base A outer s H) (hl : vs.length = ps.length) (r : Vals vs us)
 (x : InCallC s s.heap.objs.size (bindL (envOfC qual scope s.heap.objs.size f cd).kindOf (ps.zip us) fun _ => none) (cellsFrom (s.heap.objs.size + 1) scope.names []) (bindC (envOfC qual scope s.heap.objs.size f cd).kindOf (ps.zip us) fun _ => none) s1) :
 Inv (cxOf CX P w K mg base N qual scope f cd A outer s H E) [] (start N vs) H s1 := by
 have hpl : ps.length <= N.length := by have := congrArg List.length S.pre; rw [List.length_take] at this; omega
 obtain ⟨h1, tk, rfl, hk⟩ := x.done
 have noA : ∀ b : Addr, b ∉ (cxOf CX P w K mg base N qual scope f cd A outer s H E).ex := fun b z => absurd (show b ∈ ([] : List Addr) from z) (by simp)
 refine ⟨⟨e0.mod, S.kind, rfl, rfl, Nat.le_refl _, fun y z c h1 h2 => ?_, fun y hy => ?_, fun y c _ h => ?_, fun _ => hd, Around.frames_deeper e0.frames, .inr ⟨rfl, rfl⟩, fun b z => absurd z (noA b), e0.bs, e0.bsz, fun b _ _ => noA b, fun b z => absurd z (noA b), e0.funs, e0.frf⟩,
  rfl, e0.bare, Un.kept hk, ⟨_, x.toInCall.ns, fun i y v h1 h2 h3 => ?_⟩, fun y c h => ⟨_, x.cell y c h⟩, e0.hok.fresh (Nat.le_refl _), fun y c h => ?_, fun p hp => absurd (show p ∈ ([] : List (Addr × Obj)) from hp) (by simp), e0.hok.kept hk, ?_⟩
 . exact name_of_addr x.apart (PySem.mem_of_lookup h1) (PySem.mem_of_lookup h2)
 . have hy : scope.names.lookup y = some .cell \/ scope.names.lookup y = some .free := hy
   rcases hy with hy | hy
   . exact qh hy
   . exact absurd rfl (S.nofree _ (PySem.mem_of_lookup hy))
 . exact Nat.le_of_lt (x.above y c (PySem.mem_of_lookup h))
 . have hi : i < vs.length := by
    unfold start at h2
    by_cases hi : i < vs.length
    . exact hi
    . rw [List.getElem?_append_right (by simpa using hi)] at h2
      rw [List.getElem?_replicate] at h2
      split at h2 <;> cases h2
   have ha : vs[i]? = some v := by
    unfold start at h2
    rw [List.getElem?_append_left (by simpa using hi), List.getElem?_map] at h2
    cases e : vs[i]? with
    | none => rw [e] at h2; cases h2
    | some a => rw [e] at h2; cases h2; rfl
   obtain ⟨u, hu, rv⟩ := r.get ha
   have hp : ps[i]? = some y := by
    rw [<- S.pre, List.getElem?_take_of_lt (by omega)]; exact h1
   have ndP : ps.Nodup := by rw [<- S.pre]; exact S.nd.sublist (List.take_sublist _ _)
   refine ⟨u, rv, ?_⟩
   rcases S.par y (List.mem_of_getElem? hp) with k | k
   . exact .inl ⟨k, xg ndP hp hu k⟩
   . obtain ⟨c, e⟩ := qh (n := s.heap.objs.size + 1) k
     refine .inr ⟨.inl k, c, e, ?_⟩
     have q := x.cell y c e
     rw [zg ndP hp hu (by show scope.names.lookup y ≠ _; rw [k]; decide)] at q
     exact q
 . exact e0.hok.fresh (Nat.le_of_lt (x.above y c (PySem.mem_of_lookup h)))
 . unfold start
   show _ = N.length
   rw [List.length_append, List.length_map, List.length_replicate]
   omega
theorem fn_of {CX : CXT} {P : Program} {w : World} {K : PySem.W.Frag} {mg : Str -> Option Value} {base : Heap} {k : Nat} {f : Addr} {name qual : Str} {params : Arguments} {body : List Stmt} {scope : Scope} {dV kV doc pm cdv ct oc : Value} {an od : Option Addr}
 {osl : Array (Option Value)} {N ps : List Str} {sp : Sp} (lk : K.lookup f = some ⟨oc, od, .func (PySem.W.fnOf name qual params body scope dV kV doc pm an cdv ct), osl⟩) (hcd : PySem.W.codeIn K cdv qual = true) (S : Ga N ps scope)
 (len : ∀ vs H Q E, sp vs H Q E -> vs.length = ps.length)
 (hbody : ∀ (A : Around) (outer : List Env) (s : Shared) (H : Hp) (vs : List V) (Q : VK) (E : XK), Room k (A.deeper (envOfC qual scope s.heap.objs.size f cdv)) -> sp vs H Q E ->
   ∃ t, PSs (cxOf CX P w K mg base N qual scope f cdv A outer s H E) body t /\ t { nx := fun _ H' => Q .non H', rt := Q } (start N vs) H) :
 FnOk P w K mg base CX (k + 1) f (PySem.W.fnOf name qual params body scope dV kV doc pm an cdv ct) ps sp := by
 refine ⟨len, fun A outer s H args us vs Q E hr e0 hb r hsp => ?_⟩
 have hl := len _ _ _ _ hsp
 have KX : K.In s.heap := e0.mod.kin.keeps fun b o e => (e0.bs b o e).1
 have lim : s.heap.NoLimit := e0.mod.nolimit.keeps fun b o e => (e0.bs b o e).1
 have hkind : ∀ y ∈ ps.zip us, scope.names.lookup y.1 = some .local \/ (scope.names.lookup y.1 = some .cell /\ ((cellsFrom (s.heap.objs.size + 1) scope.names []).lookup y.1).isSome = true) := fun ⟨n, v⟩ hy => by
  rcases S.par n (List.of_mem_zip hy).1 with q | q
  . exact .inl q
  . exact .inr ⟨q, PySem.W.cellsFrom_some _ _ _ (.inl q)⟩
 refine codeAny_call_function hr.depth (KX _ _ lk) rfl S.co S.gen rfl (PySem.W.codeRec_of KX hcd) (hb _ _ _ _ ?_)
 refine wpAny_newFunctionEnv_cells S.kind hkind fun env he s1 x => ?_
 subst he
 refine ⟨lim.keeps x.toInCall.keep, codeAny_func ?_⟩
 obtain ⟨t, ht, hq⟩ := hbody A outer s H vs Q E (hr.deeper _) hsp
 have I : Inv (cxOf CX P w K mg base N qual scope f cdv A outer s H E) [] (start N vs) H s1 := oj S hr.hd e0 hl r x
 refine wpAny_mono (ht [] s1 (start N vs) H _ I hq) (fun fl s' hs => ?_) fun e s' hs => hs
 have fin : ∀ {σ' : St} {H' : Hp} {v : V} {u : Value}, Inv (cxOf CX P w K mg base N qual scope f cdv A outer s H E) [] σ' H' s' -> RelV v u -> Q v H' -> CE outer P w H s Q u s' :=
  fun {σ' H' v u} J rv q => ⟨v, H', J.os, J.bare, J.base, J.hok, rv, q⟩
 cases fl with
 | ret u =>
  obtain ⟨v, σ', H', J, rv, q⟩ := hs
  exact fin J rv q
 | next =>
  obtain ⟨σ', H', J, q⟩ := hs
  exact fin (v := V.non) (u := Value.none) J rfl q
 | brk =>
  obtain ⟨_, _, _, q⟩ := hs
  exact False.elim q
 | cont =>
  obtain ⟨_, _, _, q⟩ := hs
  exact False.elim q
end L2
namespace L2
open PySem PySem.Spec PyProof.Rows
section
variable {X : Cx} {x : Str} {p pos : Pos} {e : Expr} {es : List Expr} {t : TA} {id T : String} {r : List V -> Hp -> VK -> Prop}
def tCB (r : List V -> Hp -> VK -> Prop) (t : TA) : TE := fun σ H Q => t σ H fun vs H1 => r vs H1 Q
theorem Ba (hc : ib X (.builtin id) r) (hg : Gl X x) (hm : X.mg x = none) (hv : bootBuiltins x = some (.builtin id)) (ha : PA X (e :: es) t) (hn : x ≠ "__name__" := by decide) (hdb : (x == ("__debug__" : Str)) = false := by decide)
 (he : starEach (e :: es) X.env = (false, eval e X.env) :: starEach es X.env := by first | rfl | with_unfolding_all rfl) (hpl : (backTo pos (starEach es X.env)).any (·.1) = false := by first | rfl | with_unfolding_all rfl) : PE X (.Call (.Name x p) (e :: es) [] pos) (tCB r t) := by
 intro pins s σ H Q I h
 refine wpAny_Call_Name_kw (Je I hg hm hv ?_ hn hdb)
 exact PyProof.Rows.callWith_builtin1 (thn (ha pos pins s σ H _ I h) fun us s1 ⟨vs, H1, I1, r1, q1⟩ => hc pins s1 σ H1 vs us Q I1 r1 q1) he hpl
theorem Dc (hc : ib X (.type T) r) (hg : Gl X x) (hm : X.mg x = none) (hv : bootBuiltins x = some (.type T)) (ha : PA X (e :: es) t) (hn : x ≠ "__name__" := by decide) (hdb : (x == ("__debug__" : Str)) = false := by decide)
 (he : starEach (e :: es) X.env = (false, eval e X.env) :: starEach es X.env := by first | rfl | with_unfolding_all rfl) (hpl : (backTo pos (starEach es X.env)).any (·.1) = false := by first | rfl | with_unfolding_all rfl) : PE X (.Call (.Name x p) (e :: es) [] pos) (tCB r t) := by
 intro pins s σ H Q I h
 refine wpAny_Call_Name_kw (Je I hg hm hv ?_ hn hdb)
 exact PyProof.Rows.callWith_type1 (thn (ha pos pins s σ H _ I h) fun us s1 ⟨vs, H1, I1, r1, q1⟩ => hc pins s1 σ H1 vs us Q I1 r1 q1) he hpl
end
end L2
namespace HT
open PySem PyProof.Rows
def lexLt : List Int -> List Int -> Bool
 | [], [] => false
 | [], _ :: _ => true
 | _ :: _, [] => false
 | x :: xs, y :: ys => if x = y then lexLt xs ys else decide (x < y)
theorem Oh (x y : Int) (xs ys : List Int) : lexLt (x :: xs) (y :: ys) = if x = y then lexLt xs ys else decide (x < y) := rfl
theorem gf : lexLt [] [] = false := rfl
theorem qe (y : Int) (ys : List Int) : lexLt [] (y :: ys) = true := rfl
theorem se (x : Int) (xs : List Int) : lexLt (x :: xs) [] = false := rfl
theorem oh (A : Around) (s : Shared) (a : Int) (t : Tok) (c : Int) (u : Tok) : ∃ e, SeqAt.EqAt A s (.int a t) (.int c u) e /\ (e = true ↔ a = c) :=
 ⟨(a == c), SeqAt.EqAt.int_int a t c u, by simp⟩
theorem ck (A : Around) (s : Shared) (a : Int) (t : Tok) (c : Int) (u : Tok) (prog : Program) (w : World) (E : Value -> Shared -> Prop) (Q : Value -> Shared -> Prop) (h : Q (.bool (decide (a < c))) s) :
 wpAny (model prog w) A (richCompare .Lt (.int a t) (.int c u)) Q E s :=
 (PyProof.Rows.lt_int h : wpAny (model prog w) A (compareOp .Lt (.int a t) (.int c u)) Q E s)
section
open PySem.SeqAt
open PySem.AutoSeq1 (wpAny_loadPart')
open PySem.MeetsSeq PySem.MeetsSeq2 PySem.MeetsSeq3
theorem Oe (l b : Addr) (items items2 : Array Value) (n n2 : Nat) (dd dd2 : Option Addr) (sl sl2 : Array (Option Value)) (ns ms : List Int) (hi : IntsAre items.toList ns) (hj : IntsAre items2.toList ms) :
 Meets (Builtin.«tuple.__lt__» ⟨[.ref l, .ref b], []⟩)
  (fun _ R s => s.heap.get? l = some { cls := .type "tuple", dict := dd, data := .seq items n, slots := sl } /\ s.heap.get? b = some { cls := .type "tuple", dict := dd2, data := .seq items2 n2, slots := sl2 } /\
    R (.ok (.ret (.bool (lexLt ns ms)))) s) :=
 .of_wp fun prog w A R s h => by
  obtain ⟨hp, g, d, tk, os⟩ := s; obtain ⟨hl, hb, h⟩ := h
  have f2 := AutoSeq1.sub_tuple_tuple
  have z1 : items.size = ns.length := by rw [<- hi.length]; simp
  have z2 : items2.size = ms.length := by rw [<- hj.length]; simp
  wp_walk using wpAny_loadPart' hl, wpAny_loadPart' hb, wpAny_forIn_list _ (fun rest b s' => b.1 = none /\ s' = ⟨hp, g, d, tk, os⟩ /\ ∃ (vs ws : List Value) (ns' ms' : List Int), rest = vs.zip ws /\
   IntsAre vs ns' /\ IntsAre ws ms' /\ ns'.length + items2.size = ms'.length + items.size /\ R (.ok (.ret (.bool (lexLt ns' ms')))) ⟨hp, g, d, tk, os⟩) _
  case turn =>
   rintro ⟨y, x⟩ rest b s' ⟨hb', rfl, vs, ws, ns', ms', hz, hvi, hwi, hlen, hR⟩
   cases hvi with
   | nil => rw [List.zip_nil_left] at hz; cases hz
   | cons a t hvi' =>
    cases hwi with
    | nil => rw [List.zip_nil_right] at hz; cases hz
    | cons c u hwi' =>
     rw [List.zip_cons_cons] at hz
     injection hz with hyx hrest
     injection hyx with hy hx
     subst hy hx
     rw [Oh] at hR
     simp only [List.length_cons] at hlen
     obtain ⟨e, he, hiff⟩ := oh A.in1 ⟨hp, g, d, tk, os⟩ a t c u
     refine wpAny_bind (he prog w _ _ ?_)
     cases e with
     | true =>
      rw [if_pos (hiff.mp rfl)] at hR
      wp_walk
      exact ⟨rfl, rfl, _, _, _, _, hrest, hvi', hwi', by omega, hR⟩
     | false =>
      rw [if_neg (fun q => absurd (hiff.mpr q) Bool.false_ne_true)] at hR
      have hri := ck A.in1 ⟨hp, g, d, tk, os⟩ a t c u prog w
      wp_walk using hri
      exact ⟨_, rfl, by simpa using hR⟩
  case fin =>
   rintro ⟨b1, b2⟩ s' ⟨hb', rfl, vs, ws, ns', ms', hz, hvi, hwi, hlen, hR⟩
   simp only at hb'
   subst hb'
   have hv : lexLt ns' ms' = decide (items.size < items2.size) := by
    cases hvi with
    | nil =>
     cases hwi with
     | nil =>
      simp only [List.length_nil] at hlen
      rw [gf]
      exact (decide_eq_false (by omega)).symm
     | cons c u hw =>
      simp only [List.length_nil, List.length_cons] at hlen
      rw [qe]
      exact (decide_eq_true (by omega)).symm
    | cons a t hv =>
     cases hwi with
     | nil =>
      simp only [List.length_nil, List.length_cons] at hlen
      rw [se]
      exact (decide_eq_false (by omega)).symm
     | cons c u hw =>
      rw [List.zip_cons_cons] at hz
      cases hz
   rw [hv] at hR
   wp_walk
   exact ⟨_, rfl, by simpa [Builtin.Tuple.tupleCompareSizes] using hR⟩
  case h =>
   exact ⟨rfl, rfl, items.toList, items2.toList, ns, ms, rfl, hi, hj, by omega, h⟩
end
section
variable {prog : Program} {w : World} {A : Around} {E : Value -> Shared -> Prop} {s : Shared}
theorem Nh {l b : Addr} {items items2 : Array Value} {ns ms : List Int} {Q : Value -> Shared -> Prop} (hl : IsTup s.heap l items) (hb : IsTup s.heap b items2) (hi : IntsAre items.toList ns) (hj : IntsAre items2.toList ms)
 (hu : A.units < cLine) (h : Q (.bool (lexLt ns ms)) s) : wpAny (model prog w) A (compareOp .Lt (.ref l) (.ref b)) Q E s := by
 obtain ⟨⟨cls, dd, data, sl⟩, ho, hc, n, hd⟩ := id hl
 obtain ⟨⟨cls2, dd2, data2, sl2⟩, ho2, hc2, n2, hd2⟩ := id hb
 simp only at hc hd hc2 hd2
 subst hc hd hc2 hd2
 exact richCompare_meets_room (op := .Lt) ⟨_, ho, rfl⟩ ⟨_, ho2, rfl⟩ PySem.F.slot_tuple_lt PySem.F.entry_tuple_lt (PySem.F.args_tuple_lt_2 _ _) (Oe l b items items2 n n2 dd dd2 sl sl2 ns ms hi hj)
  ⟨ho, ho2, show Value.bool (lexLt ns ms) ≠ Value.notImplemented /\ Q (.bool (lexLt ns ms)) s from ⟨(fun x => nomatch x), h⟩⟩ hu
theorem mn {t b : Addr} {vs ws : List Value} {Q : Value -> Shared -> Prop} (ht : IsTup s.heap t vs.toArray) (hb : IsTup s.heap b ws.toArray) (hv : vs ≠ [])
 (h1 : ws = [] -> Q (.ref t) s) (h2 : ws ≠ [] -> Q (.ref s.heap.objs.size) { s with heap := s.heap.push { cls := .type "tuple", data := .seq (vs ++ ws).toArray } })
 (hsz : vs.length + ws.length <= sizeLine) : wpAny (model prog w) A (binaryOp .Add (.ref t) (.ref b)) Q E s := by
 obtain ⟨⟨cls, dd, data, sl⟩, ho, hc, n, hd⟩ := id ht
 obtain ⟨⟨cls2, dd2, data2, sl2⟩, ho2, hc2, n2, hd2⟩ := id hb
 simp only at hc hd hc2 hd2
 subst hc hd hc2 hd2
 have e : vs.toArray ++ ws.toArray = (vs ++ ws).toArray := by simp
 by_cases hw : ws = []
 . exact concat_meets ⟨_, ho, rfl⟩ ⟨_, ho2, rfl⟩ noFill_tuple_add seq_tuple_add PySem.F.slot_tuple_add PySem.F.entry_tuple_add (PySem.F.args_tuple_add_2 _ _)
    (tuple_addW1 t b vs.toArray ws.toArray n n2 dd dd2 sl sl2 (by simpa using hv) (by simp [hw])) ⟨ho, ho2, h1 hw⟩
 . refine concat_meets ⟨_, ho, rfl⟩ ⟨_, ho2, rfl⟩ noFill_tuple_add seq_tuple_add PySem.F.slot_tuple_add PySem.F.entry_tuple_add (PySem.F.args_tuple_add_2 _ _)
    (tuple_addW2 t b vs.toArray ws.toArray n n2 dd dd2 sl sl2 (by simpa using hv) (by simpa using hw) (by rw [List.size_toArray, List.size_toArray]; exact hsz)) ⟨ho, ho2, ?_⟩
   rw [e]
   exact h2 hw
def sIx (n d : Nat) : Option Int -> Nat
 | none => d
 | some v => if v < 0 then (v + (n : Int)).toNat else min v.toNat n
theorem sIx_le (n d : Nat) (hd : d <= n) (o : Option Int) : sIx n d o <= n := by
 cases o with
 | none => exact hd
 | some v =>
  show (if v < 0 then (v + (n : Int)).toNat else min v.toNat n) <= n
  by_cases hv : v < 0
  . rw [if_pos hv]; omega
  . rw [if_neg hv]; exact Nat.min_le_right _ _
theorem vj (v : Int) (n d : Nat) : (if v < 0 then max (v + (n : Int)) 0 else min v (n : Int)) = ((sIx n d (some v) : Nat) : Int) := by
 show (if v < 0 then max (v + (n : Int)) 0 else min v (n : Int)) = (((if v < 0 then (v + (n : Int)).toNat else min v.toNat n) : Nat) : Int)
 by_cases hv : v < 0
 . simp only [if_pos hv]; omega
 . simp only [if_neg hv]; omega
theorem Xh (lo hi : Option Int) (n : Nat) : Builtin.Slice.sliceAdjust lo hi 1 (n : Int) = (((sIx n 0 lo : Nat) : Int), ((sIx n n hi : Nat) : Int)) := by
 have h1 : ¬ ((1 : Int) < 0) := by omega
 unfold Builtin.Slice.sliceAdjust
 simp only [h1, if_false]
 refine Prod.ext ?_ ?_
 . cases lo with
   | none => rfl
   | some v => exact vj v n 0
 . cases hi with
   | none => rfl
   | some v => exact vj v n n
theorem Fh (i j : Nat) : Builtin.Slice.slicePlaces (i : Int) (j : Int) 1 = j - i := by
 unfold Builtin.Slice.slicePlaces
 have h1 : (1 : Int) > 0 := by omega
 simp only [h1, if_true, Int.ediv_one]
 split <;> omega
theorem De {v : Value} {o : Option Int} {Q : Option Int -> Shared -> Prop} (p : IsPart v o) (h : Q o s) : wpAny (model prog w) A (Builtin.Slice.slicePartIndex v) Q E s := by
 cases p with
 | none => exact slicePart_none h
 | int i t => exact slicePart_int h
theorem Kb {sl : Addr} {vl vu : Value} {lo hi : Option Int} {n : Nat} {Q : Int × Int × Nat -> Shared -> Prop} (hs : s.heap.IsSliceOf sl vl vu .none) (pl : IsPart vl lo) (pu : IsPart vu hi)
 (h : Q (((sIx n 0 lo : Nat) : Int), 1, sIx n n hi - sIx n 0 lo) s) : wpAny (model prog w) A (Builtin.Slice.sliceApplied (.ref sl) (pure (n : Int))) Q E s := by
 obtain ⟨os, hos, hcs, hds⟩ := id hs
 unfold Builtin.Slice.sliceApplied Builtin.Slice.sliceFields
 refine wpAny_bind (wpAny_bind (wpAny_field hos hds (x := vl) rfl (wpAny_bind (wpAny_field hos hds (x := vu) rfl (wpAny_bind (wpAny_field hos hds (x := .none) rfl (wpAny_pure ?_)))))))
 refine wpAny_bind (slicePart_none ?_)
 show wpAny _ _ (if ((1 : Int) == 0) = true then _ else _) _ _ s
 rw [if_neg (by decide)]
 refine wpAny_bind (De pl (wpAny_bind (De pu (wpAny_bind (wpAny_pure ?_)))))
 show wpAny _ _ (match Builtin.Slice.sliceAdjust lo hi 1 (n : Int) with | (lo, hi) => pure (lo, (1 : Int), Builtin.Slice.slicePlaces lo hi 1)) _ _ s
 rw [Xh lo hi n]
 show wpAny _ _ (pure (((sIx n 0 lo : Nat) : Int), (1 : Int), Builtin.Slice.slicePlaces ((sIx n 0 lo : Nat) : Int) ((sIx n n hi : Nat) : Int) 1)) _ _ s
 rw [Fh]
 exact wpAny_pure h
theorem xk (xs : Array Value) (i k : Nat) : ((List.range k).filterMap fun (m : Nat) => xs[((i : Int) + (m : Int) * 1).toNat]?).toArray = ((xs.toList.drop i).take k).toArray := by
 have e : (fun (m : Nat) => xs[((i : Int) + (m : Int) * 1).toNat]?) = fun m => xs[i + m]? := by
  funext m
  have : ((i : Int) + (m : Int) * 1).toNat = i + m := by omega
  rw [this]
 rw [e]
 have := pick_run xs i k
 rw [List.filterMap_map] at this
 have e2 : ((fun x => xs[x]?) ∘ fun x => i + x) = fun m => xs[i + m]? := rfl
 rw [e2] at this
 rw [this]
theorem Rc {t sl : Addr} {items : Array Value} {vl vu : Value} {lo hi : Option Int} {Q : Value -> Shared -> Prop} (ht : IsTup s.heap t items) (hs : s.heap.IsSliceOf sl vl vu .none) (pl : IsPart vl lo) (pu : IsPart vu hi)
 (hw : ¬ (sIx items.size 0 lo = 0 /\ sIx items.size items.size hi = items.size))
 (h : Q (.ref s.heap.objs.size) { s with heap := s.heap.push { cls := .type "tuple", data := .seq ((items.toList.drop (sIx items.size 0 lo)).take (sIx items.size items.size hi - sIx items.size 0 lo)).toArray } })
 (hsz : items.size <= sizeLine) : wpAny (model prog w) A (getItem (.ref t) (.ref sl)) Q E s := by
 have htake : sizeOk (.seq ((items.toList.drop (sIx items.size 0 lo)).take (sIx items.size items.size hi - sIx items.size 0 lo)).toArray) := by
  show ((items.toList.drop (sIx items.size 0 lo)).take (sIx items.size items.size hi - sIx items.size 0 lo)).toArray.size <= sizeLine
  rw [List.size_toArray, List.length_take, List.length_drop, Array.length_toList]
  omega
 have hj : sIx items.size items.size hi <= items.size := sIx_le _ _ (Nat.le_refl _) hi
 obtain ⟨os, hos, hcs, hds⟩ := id hs
 have hTs : s.TypeIs (.ref sl) "slice" := ⟨os, hos, hcs⟩
 unfold getItem
 try with_reducible refine wpAny_holding ?_
 first | refine wpAny_bind (wpAny_pure ?_) | skip
 refine wpAny_bind (wpAny_sequenceKey ht.typeIs (by decide) ?_)
 refine wpAny_bind (wpAny_callSpecial?_slot (name := Str.ofString "__getitem__") ht.typeIs PyProof.Rows.slot_tuple_getitem
  (wpAny_call_entry PyProof.Rows.slot_tuple_getitem ht.typeIs entry_tuple_getitem ?_ (args_tuple_getitem _ _)))
 show wpAny _ _ (Builtin.Tuple.tupleItemsOf (.ref t) >>= _) _ _ s
 refine wpAny_bind (tupleItemsOf_ ht ?_)
 refine wpAny_bind (wpAny_typeOf hTs ?_)
 rw [if_pos (by decide)]
 refine wpAny_bind (Kb hs pl pu ?_)
 have hno : ¬ ((((sIx items.size 0 lo : Nat) : Int) == 0 && (1 : Int) == 1 && (sIx items.size items.size hi - sIx items.size 0 lo) == items.size) = true) := by
  intro q
  rw [Bool.and_eq_true, Bool.and_eq_true] at q
  have q1 : ((sIx items.size 0 lo : Nat) : Int) = 0 := eq_of_beq q.1.1
  have q2 : sIx items.size items.size hi - sIx items.size 0 lo = items.size := eq_of_beq q.2
  exact hw ⟨by omega, by omega⟩
 show wpAny _ _ (if (((sIx items.size 0 lo : Nat) : Int) == 0 && (1 : Int) == 1 && (sIx items.size items.size hi - sIx items.size 0 lo) == items.size) = true then _ else _) _ _ s
 rw [if_neg hno, xk]
 first
  | exact wpAny_bind (m := Builtin.Tuple.tupleExact _) (wpAny_newObj_type (wpAny_pure ⟨_, rfl, wpAny_pure h⟩) htake)
  | exact wpAny_bind (m := Builtin.Tuple.tupleExact _) (wpAny_newObj_type (wpAny_bind (wpAny_pure (wpAny_pure ⟨_, rfl, wpAny_pure h⟩))) htake)
  | exact wpAny_bind (wpAny_bind (m := Builtin.Tuple.tupleExact _) (wpAny_newObj_type (wpAny_pure (wpAny_pure ⟨_, rfl, wpAny_pure h⟩)) htake))
  | exact wpAny_bind (wpAny_bind (m := Builtin.Tuple.tupleExact _) (wpAny_newObj_type (wpAny_pure ⟨_, rfl, wpAny_pure h⟩) htake))
end
end HT
namespace L2
open PySem PySem.Spec PyProof.Rows
abbrev TO := St -> Hp -> (Option Int -> Hp -> Prop) -> Prop
def PO (X : Cx) (e : Option Expr) (t : TO) : Prop :=
 ∀ (pins : List (Addr × Obj)) (s : Shared) (σ : St) (H : Hp) (Q : Option Int -> Hp -> Prop), Inv X pins σ H s -> t σ H Q ->
  wpAny (model X.prog X.w) X.A (evalPart e X.env) (fun u s' => ∃ o H', Inv X pins σ H' s' /\ IsPart u o /\ Q o H') X.xe s
def ki : TO := fun _ H Q => Q none H
def tPart (t : TE) : TO := fun σ H Q => t σ H fun x H1 => ∃ i, x = .int i /\ Q (some i) H1
theorem intsAre_of {ns : List Int} : ∀ {us : List Value}, Vals (ns.map V.int) us -> IntsAre us ns := by
 induction ns with
 | nil => intro us r; rw [List.map_nil] at r; cases r; exact .nil
 | cons n ns ih =>
  intro us r
  rw [List.map_cons] at r
  cases r with
  | cons r1 r2 =>
   obtain ⟨t, e⟩ := r1
   subst e
   exact .cons n t (ih r2)
section
variable {X : Cx} {e : Expr} {te : TE} {lo hi : Option Expr} {tl th : TO} {pos p2 : Pos}
theorem Em : PO X none ki := by
 intro pins s σ H Q I h
 rw [evalPart_none]
 exact wpAny_pure ⟨none, H, I, .none, h⟩
theorem Dm (h : PE X e te) : PO X (some e) (tPart te) := by
 intro pins s σ H Q I hw
 rw [evalPart_some]
 refine thn (h pins s σ H _ I hw) fun u s1 ⟨x, H1, I1, r1, q1⟩ => ?_
 obtain ⟨i, rfl, q⟩ := q1
 obtain ⟨t, rfl⟩ := r1
 exact ⟨some i, H1, I1, .int i t, q⟩
def SlR (X : Cx) (r : V -> Option Int -> Option Int -> Hp -> VK -> Prop) : Prop :=
 ∀ (pins : List (Addr × Obj)) (s : Shared) (σ : St) (H : Hp) (x : V) (v vl vu : Value) (lo hi : Option Int) (sl : Addr) (Q : VK), Inv X pins σ H s -> RelV x v -> s.heap.IsSliceOf sl vl vu .none -> IsPart vl lo -> IsPart vu hi -> r x lo hi H Q ->
  ∃ T id, typeLookup (.type T) "__getitem__" = pure (some (.builtin id)) /\ s.TypeIs v T /\ wpAny (model X.prog X.w) X.A (getItem v (.ref sl)) (EP X pins σ Q) X.xe s
theorem SlR.or {r r' : V -> Option Int -> Option Int -> Hp -> VK -> Prop} (h : SlR X r) (h' : SlR X r') : SlR X (fun x lo hi H Q => r x lo hi H Q \/ r' x lo hi H Q) := by
 intro pins s σ H x v vl vu lo hi sl Q I rx hs pl pu q
 rcases q with q | q
 . exact h pins s σ H x v vl vu lo hi sl Q I rx hs pl pu q
 . exact h' pins s σ H x v vl vu lo hi sl Q I rx hs pl pu q
def tSl (r : V -> Option Int -> Option Int -> Hp -> VK -> Prop) (te : TE) (tl th : TO) : TE := fun σ H Q => te σ H fun x H1 => tl σ H1 fun l H2 => th σ H2 fun u H3 => r x l u H3 Q
theorem yk {r : V -> Option Int -> Option Int -> Hp -> VK -> Prop} (hr : SlR X r) (he : PE X e te) (hl : PO X lo tl) (hu : PO X hi th) : PE X (.Subscript e (.Slice lo hi none p2) pos) (tSl r te tl th) := by
 intro pins s σ H Q I h
 refine Subscript_ (thn (he pins s σ H _ I h) fun v s1 ⟨x, H1, I1, r1, q1⟩ => ?_)
 refine wpAny_Slice (thn (hl pins s1 σ H1 _ I1 q1) fun vl s2 ⟨l, H2, I2, pl, q2⟩ => thn (hu pins s2 σ H2 _ I2 q2) fun vu s3 ⟨u, H3, I3, pu, q3⟩ => ?_)
 rw [evalPart_none]
 refine wpAny_pure ?_
 have I4 : Inv X pins σ H3 { s3 with heap := s3.heap.push { cls := .type "slice", data := .fields #[vl, vu, .none] } } := I3.kept (t' := s3.toks) fun b ob q => Heap.get?_push_of_some _ q
 obtain ⟨T, id, hT, ht, hg⟩ := hr pins { s3 with heap := s3.heap.push { cls := .type "slice", data := .fields #[vl, vu, .none] } } σ H3 x v vl vu l u s3.heap.objs.size Q I4 r1 (Heap.IsSliceOf.new ..) pl pu q3
 show wpAny (model X.prog X.w) X.A (subscriptTail e (.Slice lo hi none p2) v (.ref s3.heap.objs.size)) (EP X pins σ Q) X.xe { s3 with heap := s3.heap.push { cls := .type "slice", data := .fields #[vl, vu, .none] } }
 exact tail_any (ops := [.ref s3.heap.objs.size, v]) ht hT hg (by with_unfolding_all rfl)
def cutV (xs : List V) (lo hi : Option Int) : List V := (xs.drop (HT.sIx xs.length 0 lo)).take (HT.sIx xs.length xs.length hi - HT.sIx xs.length 0 lo)
theorem Sd (xs : List V) (lo hi : Option Int) : (cutV xs lo hi).length <= xs.length := by
 unfold cutV
 rw [List.length_take, List.length_drop]
 omega
def rSlT (K : PySem.W.Frag) : V -> Option Int -> Option Int -> Hp -> VK -> Prop := fun x lo hi H Q => ∃ a xs, x = .ref a /\ SqT K H a xs /\
 ¬ (HT.sIx xs.length 0 lo = 0 /\ HT.sIx xs.length xs.length hi = xs.length) /\ ∀ p, H p = none -> Q (.ref p) (upd H p (.tup (cutV xs lo hi)))
theorem sl_tup : SlR X (rSlT X.K) := by
 intro pins s σ H x v vl vu lo hi sl Q I rx hs pl pu h
 obtain ⟨a, xs, rfl, hx, hw, q⟩ := h
 cases rx
 obtain ⟨its, r, ht, hz⟩ := I.tuple hx
 have hlen : its.toArray.size = xs.length := by rw [List.size_toArray]; exact r.length.symm
 refine ⟨"tuple", _, PyProof.Rows.slot_tuple_getitem.lookup, ht.typeIs, ?_⟩
 refine HT.Rc ht hs pl pu (by rw [hlen]; exact hw) ?_ (by rw [hlen]; exact hz)
 rw [hlen]
 refine ⟨.ref s.heap.objs.size, _, I.laid (t' := s.toks) (o := .tup (cutV xs lo hi)) (fun b ob q => Heap.get?_push_of_some _ q) (Nat.le_refl _) ?_, rfl, q _ (I.hok.fresh (Nat.le_refl _))⟩
 exact ⟨Nat.le_trans (Sd xs lo hi) hz, _, (r.drop (HT.sIx xs.length 0 lo)).take (HT.sIx xs.length xs.length hi - HT.sIx xs.length 0 lo), IsTup.new _ _⟩
def rLtT (K : PySem.W.Frag) : R2 := fun x y H Q => ∃ a b ns ms, x = .ref a /\ y = .ref b /\ SqT K H a (ns.map V.int) /\ SqT K H b (ms.map V.int) /\ Q (.bl (HT.lexLt ns ms)) H
theorem op_ltT (hu : X.A.units < cLine) : OpR X (compareOp .Lt) (rLtT X.K) := by
 intro pins s σ H x y v u Q I rx ry h
 obtain ⟨a, b, ns, ms, rfl, rfl, ha, hb, q⟩ := h
 cases rx
 cases ry
 obtain ⟨its, r1, p1, _⟩ := I.tuple ha
 obtain ⟨its2, r2, p2, _⟩ := I.tuple hb
 have i1 : IntsAre its.toArray.toList ns := intsAre_of r1
 have i2 : IntsAre its2.toArray.toList ms := intsAre_of r2
 exact HT.Nh p1 p2 i1 i2 hu ⟨.bl (HT.lexLt ns ms), H, I, rfl, q⟩
def rCatT (K : PySem.W.Frag) : R2 := fun x y H Q => ∃ a b xs ys, x = .ref a /\ y = .ref b /\ SqT K H a xs /\ SqT K H b ys /\ xs ≠ [] /\ xs.length + ys.length <= sizeLine /\
 (ys = [] -> Q (.ref a) H) /\ (ys ≠ [] -> ∀ p, H p = none -> Q (.ref p) (upd H p (.tup (xs ++ ys))))
theorem Vals.Mg {xs : List V} {us : List Value} (r : Vals xs us) : us = [] ↔ xs = [] := by
 cases r with
 | nil => simp
 | cons _ _ => simp
theorem bj : OpR X (binaryOp .Add) (rCatT X.K) := by
 intro pins s σ H x y v u Q I rx ry h
 obtain ⟨a, b, xs, ys, rfl, rfl, ha, hb, hx, hz, q1, q2⟩ := h
 cases rx
 cases ry
 obtain ⟨its, r1, p1, _⟩ := I.tuple ha
 obtain ⟨its2, r2, p2, _⟩ := I.tuple hb
 refine HT.mn p1 p2 (fun z => hx (r1.Mg.mp z)) (fun z => ⟨.ref a, H, I, rfl, q1 (r2.Mg.mp z)⟩) (fun z => ?_) (by rw [<- r1.length, <- r2.length]; exact hz)
 refine ⟨.ref s.heap.objs.size, _, I.laid (t' := s.toks) (o := .tup (xs ++ ys)) (fun b ob q => Heap.get?_push_of_some _ q) (Nat.le_refl _) ?_, rfl, q2 (fun w => z (r2.Mg.mpr w)) _ (I.hok.fresh (Nat.le_refl _))⟩
 exact ⟨by rw [List.length_append]; exact hz, _, r1.append r2, IsTup.new _ _⟩
end
end L2
namespace L2
open PySem PySem.Spec PyProof.Rows
def ixN (n : Nat) (i : Int) : Option Nat := if 0 <= i then (if i < n then some i.toNat else none) else if -(n : Int) <= i then some (i + n).toNat else none
def atI {α : Type} (xs : List α) (i : Int) : Option α := (ixN xs.length i).bind fun j => xs[j]?
theorem mj {n : Nat} {i : Int} {j : Nat} (h : ixN n i = some j) : seqIndex? i n = some j /\ j < n /\ -(n : Int) <= i /\ i < n := by
 unfold ixN at h
 by_cases h0 : 0 <= i
 . rw [if_pos h0] at h
   by_cases h1 : i < n
   . rw [if_pos h1] at h
     have e : i.toNat = j := Option.some.inj h
     exact ⟨by rw [seqIndex_of h0 h1, e], by omega, by omega, h1⟩
   . rw [if_neg h1] at h; cases h
 . rw [if_neg h0] at h
   by_cases h1 : -(n : Int) <= i
   . rw [if_pos h1] at h
     have e : (i + n).toNat = j := Option.some.inj h
     exact ⟨by rw [seqIndex_neg (by omega) h1, e], by omega, h1, by omega⟩
   . rw [if_neg h1] at h; cases h
theorem Gj {α : Type} {xs : List α} {i : Int} {v : α} (h : atI xs i = some v) : ∃ j, seqIndex? i xs.length = some j /\ xs[j]? = some v /\ j < xs.length /\ -(xs.length : Int) <= i /\ i < xs.length := by
 unfold atI at h
 cases e : ixN xs.length i with
 | none => rw [e] at h; cases h
 | some j =>
  rw [e] at h
  obtain ⟨h1, h2, h3, h4⟩ := mj e
  exact ⟨j, h1, h, h2, h3, h4⟩
theorem Vg {α : Type} {xs : List α} {j : Nat} {v : α} (h : xs[j]? = some v) : atI xs (j : Int) = some v := by
 have hj : j < xs.length := (List.getElem?_eq_some_iff.mp h).1
 have e : ixN xs.length (j : Int) = some j := by
  unfold ixN
  rw [if_pos (by omega), if_pos (by omega)]; simp
 unfold atI; rw [e]; exact h
theorem Zk {α : Type} (xs : List α) (v : α) : atI (xs ++ [v]) (-1) = some v := by
 have hl : (xs ++ [v]).length = xs.length + 1 := by simp
 have e : ixN (xs ++ [v]).length (-1) = some xs.length := by
  unfold ixN
  rw [hl, if_neg (by decide), if_pos (by omega)]
  congr 1
  omega
 unfold atI
 rw [e]
 show (xs ++ [v])[xs.length]? = some v
 simp
def Cn (b : Expr) : Prop := ∀ o i, subscripted b false o i = operate [o, i] (getItem o i)
def IxR (X : Cx) (r : R2) : Prop :=
 ∀ (value slice : Expr) (pins : List (Addr × Obj)) (s : Shared) (σ : St) (H : Hp) (x y : V) (v u : Value) (Q : VK), Inv X pins σ H s -> RelV x v -> RelV y u -> r x y H Q ->
  subscripted slice false v u = operate [v, u] (getItem v u) -> wpAny (model X.prog X.w) X.A (subscriptTail value slice v u) (EP X pins σ Q) X.xe s
def MtR (X : Cx) (id : String) (r : V -> List V -> Hp -> VK -> Prop) : Prop :=
 ∀ (pins : List (Addr × Obj)) (s : Shared) (σ : St) (H : Hp) (x : V) (xs : List V) (v : Value) (us : List Value) (Q : VK), Inv X pins σ H s -> RelV x v -> Vals xs us -> r x xs H Q ->
  wpAny (model X.prog X.w) X.A (call (.builtin id) (v :: us)) (EP X pins σ Q) X.xe s
section
variable {X : Cx} {a b : Expr} {ta tb : TE} {pos : Pos}
theorem IxR.or {r r' : R2} (h : IxR X r) (h' : IxR X r') : IxR X (fun x y H Q => r x y H Q \/ r' x y H Q) := by
 intro value slice pins s σ H x y v u Q I rx ry q hs
 rcases q with q | q
 . exact h value slice pins s σ H x y v u Q I rx ry q hs
 . exact h' value slice pins s σ H x y v u Q I rx ry q hs
theorem Ea {r : R2} (hr : IxR X r) (ha : PE X a ta) (hb : PE X b tb) (hs : Cn b) : PE X (.Subscript a b pos) (tOp r ta tb) := by
 intro pins s σ H Q I h
 exact Subscript_ (binT ha hb I h fun v u s2 x y H2 I2 rx ry q => hr a b pins s2 σ H2 x y v u Q I2 rx ry q (hs _ _))
def rIxL (K : PySem.W.Frag) : R2 := fun x y H Q => ∃ p xs i v, x = .ref p /\ y = .int i /\ SqL K H p xs /\ atI xs i = some v /\ Q v H
def rIxT (K : PySem.W.Frag) : R2 := fun x y H Q => ∃ p xs i v, x = .ref p /\ y = .int i /\ SqT K H p xs /\ atI xs i = some v /\ Q v H
theorem Sm : IxR X (rIxL X.K) := by
 intro value slice pins s σ H x y v u Q I rx ry h hs
 obtain ⟨p, xs, i, z, rfl, rfl, hq, he, q⟩ := h
 cases rx
 obtain ⟨t, rfl⟩ := ry
 obtain ⟨its, r, pl, hz⟩ := I.list hq
 obtain ⟨j, h1, h2, h3, h4, h5⟩ := Gj he
 obtain ⟨w, ew, rw'⟩ := r.get h2
 have hl := r.length
 have hn := dg
 have fin : EP X pins σ Q w s := ⟨z, H, I, rw', q⟩
 by_cases h0 : 0 <= i
 . have hj : i.toNat = j := by
    rw [seqIndex_of h0 h5] at h1
    exact Option.some.inj h1
   exact item_listR pl.isList h0 (by omega) (by rw [hj]; simpa using ew) fin hs
 . have hj : (i + (its.toArray.size : Int)).toNat = j := by
    rw [seqIndex_neg (by omega) h4] at h1
    rw [List.size_toArray, <- hl]
    exact Option.some.inj h1
   exact subscriptTail_builtinR (x := w) pl.isList.typeIs slot_list_getitem.lookup
    (wpAny_getItem_list_neg (Q := fun r s' => r = w /\ EP X pins σ Q r s') pl.isList (by omega) (by rw [List.size_toArray] <;> omega) (by omega) (by rw [hj]; simpa using ew) ⟨rfl, fin⟩) hs
theorem ix_tup : IxR X (rIxT X.K) := by
 intro value slice pins s σ H x y v u Q I rx ry h hs
 obtain ⟨p, xs, i, z, rfl, rfl, hq, he, q⟩ := h
 cases rx
 obtain ⟨t, rfl⟩ := ry
 obtain ⟨its, r, pl, hz⟩ := I.tuple hq
 obtain ⟨j, h1, h2, h3, h4, h5⟩ := Gj he
 obtain ⟨w, ew, rw'⟩ := r.get h2
 have hl := r.length
 have hn := dg
 have fin : EP X pins σ Q w s := ⟨z, H, I, rw', q⟩
 exact subscriptTail_builtinR (x := w) pl.typeIs slot_tuple_getitem.lookup
  (getItem_tuple (j := j) (Q := fun r s' => r = w /\ EP X pins σ Q r s') pl (by omega) (by omega) (by rw [List.size_toArray, <- hl]; exact h1) (by simpa using ew) ⟨rfl, fin⟩) hs
theorem Lh (its : List Value) (n j : Nat) (u : Value) : Obj.mapSeq (·.setIfInBounds j u) { cls := .type "list", data := .seq its.toArray n } = { cls := .type "list", data := .seq (its.set j u).toArray n } := by
 simp [Obj.mapSeq]
theorem Inv.lst {pins : List (Addr × Obj)} {σ : St} {H : Hp} {s : Shared} {p : Addr} {xs : List V} (I : Inv X pins σ H s) (h : H p = some (.lst xs)) :
 ∃ (its : List Value) (n : Nat), Vals xs its /\ s.heap.get? p = some { cls := .type "list", data := .seq its.toArray n } /\ xs.length <= sizeLine := by
 obtain ⟨z, its, n, r, e⟩ := I.hok p _ h
 exact ⟨its, n, r, e, z⟩
theorem Inv.lstUpd {pins : List (Addr × Obj)} {σ : St} {H : Hp} {s : Shared} {p : Addr} {xs ys : List V} {its its' : List Value} {n n' : Nat} {f : Obj -> Obj} (I : Inv X pins σ H s) (h : H p = some (.lst xs))
 (ho : s.heap.get? p = some { cls := .type "list", data := .seq its.toArray n }) (hf : f { cls := .type "list", data := .seq its.toArray n } = { cls := .type "list", data := .seq its'.toArray n' }) (r : Vals ys its') (hz : ys.length <= sizeLine) (t : Nat) :
 Inv X pins σ (upd H p (.lst ys)) { s with heap := s.heap.update p f, toks := t } := by
 have e : (s.heap.update p f).get? p = some { cls := .type "list", data := .seq its'.toArray n' } := by
  rw [Heap.get?_update_self f ho (by rw [hf] <;> rfl), hf]
 refine I.write (x := p) (e := p) (by rw [h]; trivial) (.inl rfl) (fun b u hb q => (Heap.get?_update_other _ _ (Ne.symm hb)).trans q) ⟨_, e⟩ ?_
 exact ⟨hz, its', n', r, e⟩
def rSetL : V -> V -> V -> Hp -> (Hp -> Prop) -> Prop := fun o i v H Q => ∃ p xs k j, o = .ref p /\ i = .int k /\ H p = some (.lst xs) /\ ixN xs.length k = some j /\ Q (upd H p (.lst (xs.set j v)))
theorem set_list : PSet X rSetL := by
 intro pins s σ H o i v ov iv u Q I ro ri rv h
 obtain ⟨p, xs, k, j, rfl, rfl, hp, hj, q⟩ := h
 cases ro
 obtain ⟨t, rfl⟩ := ri
 obtain ⟨its, n, r, ho, hz⟩ := I.lst hp
 obtain ⟨h1, h2, h3, h4⟩ := mj hj
 have hl := r.length
 have hn := dg
 have I' : Inv X pins σ (upd H p (.lst (xs.set j v))) { s with heap := s.heap.update p (Obj.mapSeq (·.setIfInBounds j u)) } :=
  I.lstUpd hp ho (Lh its n j u) (r.set rv j) (by rw [List.length_set]; exact hz) s.toks
 by_cases h0 : 0 <= k
 . have hk : k.toNat = j := by
    rw [seqIndex_of h0 h4] at h1
    exact Option.some.inj h1
   exact PySem.W.ki_setAt ho h0 (by omega) (by rw [List.size_toArray, <- hl]; exact h4) (by rw [hk]; exact ⟨_, I', q⟩)
 . have hk : (k + (its.toArray.size : Int)).toNat = j := by
    rw [seqIndex_neg (by omega) h3] at h1
    rw [List.size_toArray, <- hl]
    exact Option.some.inj h1
   exact PySem.W.ki_setBack ho (by omega) (by rw [List.size_toArray, <- hl]; exact h3) (by omega) (by rw [hk]; exact ⟨_, I', q⟩)
theorem Jf (lo hi : Option Int) (n : Nat) : (sliceBounds lo hi none n).1 = ((HT.sIx n 0 lo : Nat) : Int) /\ (sliceBounds lo hi none n).2.1 = ((HT.sIx n n hi : Nat) : Int) /\ (sliceBounds lo hi none n).2.2 = 1 := by
 refine ⟨?_, ?_, rfl⟩
 . cases lo with
   | none => simp [sliceBounds, HT.sIx]
   | some i =>
    simp only [sliceBounds, HT.sIx, Option.getD_none, show (1 : Int) > 0 by decide, if_true]
    by_cases h : i < 0
    . simp only [h, if_true] <;> omega
    . simp only [h, if_false] <;> omega
 . cases hi with
   | none => simp [sliceBounds, HT.sIx]
   | some i =>
    simp only [sliceBounds, HT.sIx, Option.getD_none, show (1 : Int) > 0 by decide, if_true]
    by_cases h : i < 0
    . simp only [h, if_true] <;> omega
    . simp only [h, if_false] <;> omega
theorem Ve (its : List Value) (lo hi : Option Int) : slicePick its.toArray lo hi none = ((its.drop (HT.sIx its.length 0 lo)).take (HT.sIx its.length its.length hi - HT.sIx its.length 0 lo)).toArray := by
 obtain ⟨h1, h2, h3⟩ := Jf lo hi its.toArray.size
 unfold slicePick
 rw [h1, h2, h3]
 simp only [sliceRange_one, pick_run, List.size_toArray] <;> rfl
def rSlL (K : PySem.W.Frag) : V -> Option Int -> Option Int -> Hp -> VK -> Prop := fun x lo hi H Q => ∃ a xs, x = .ref a /\ SqL K H a xs /\ ∀ p, H p = none -> Q (.ref p) (upd H p (.lst (cutV xs lo hi)))
theorem Yl : SlR X (rSlL X.K) := by
 intro pins s σ H x v vl vu lo hi sl Q I rx hs pl pu h
 obtain ⟨a, xs, rfl, hx, q⟩ := h
 cases rx
 obtain ⟨its, r, ht, hz⟩ := I.list hx
 have hlen := r.length
 refine ⟨"list", _, slot_list_getitem.lookup, ht.isList.typeIs, ?_⟩
 refine wpAny_getItem_list_slice ht.isList hs pl pu .none (by simp) ?_ (by rw [List.size_toArray] <;> omega)
 rw [Ve, <- hlen]
 refine ⟨.ref s.heap.objs.size, _, I.laid (t' := s.toks) (o := .lst (cutV xs lo hi)) (fun b ob q => Heap.get?_push_of_some _ q) (Nat.le_refl _) ?_, rfl, q _ (I.hok.fresh (Nat.le_refl _))⟩
 exact ⟨Nat.le_trans (Sd xs lo hi) hz, _, 0, (r.drop (HT.sIx xs.length 0 lo)).take (HT.sIx xs.length xs.length hi - HT.sIx xs.length 0 lo), Heap.get?_push_size _ rfl⟩
def md : V -> Bool
 | .non => true
 | .bl _ => true
 | .int _ => true
 | .str _ => true
 | _ => false
def eqV : V -> V -> Bool
 | .non, .non => true
 | .bl a, .bl b => a == b
 | .bl a, .int b => (if a then 1 else 0) == b
 | .int a, .bl b => a == (if b then 1 else 0)
 | .int a, .int b => a == b
 | .str a, .str b => a == b
 | _, _ => false
theorem Ml {A : Around} {s : Shared} {y x : V} {u v : Value} (ry : RelV y u) (rx : RelV x v) (fy : md y = true) (fx : md x = true) : SeqAt.EqAt A s u v (eqV y x) := by
 cases y with
 | non =>
  cases ry
  cases x with
  | non => cases rx; exact SeqAt.EqAt.same _
  | bl b => cases rx; exact SeqAt.EqAt.none_bool b
  | int b => obtain ⟨t, rfl⟩ := rx; exact SeqAt.EqAt.none_int b t
  | str b => obtain ⟨t, rfl⟩ := rx; exact SeqAt.EqAt.none_str b t
  | _ => exact absurd (show false = true from fx) Bool.false_ne_true
 | bl a =>
  cases ry
  cases x with
  | non => cases rx; exact SeqAt.EqAt.bool_none a
  | bl b => cases rx; exact SeqAt.EqAt.bool_bool a b
  | int b => obtain ⟨t, rfl⟩ := rx; exact SeqAt.EqAt.bool_int a b t
  | str b => obtain ⟨t, rfl⟩ := rx; exact SeqAt.EqAt.bool_str a b t
  | _ => exact absurd (show false = true from fx) Bool.false_ne_true
 | int a =>
  obtain ⟨t', rfl⟩ := ry
  cases x with
  | non => cases rx; exact SeqAt.EqAt.int_none a t'
  | bl b => cases rx; exact SeqAt.EqAt.int_bool a t' b
  | int b => obtain ⟨t, rfl⟩ := rx; exact SeqAt.EqAt.int_int a t' b t
  | str b => obtain ⟨t, rfl⟩ := rx; exact SeqAt.EqAt.int_str a t' b t
  | _ => exact absurd (show false = true from fx) Bool.false_ne_true
 | str a =>
  obtain ⟨t', rfl⟩ := ry
  cases x with
  | non => cases rx; exact SeqAt.EqAt.str_none a t'
  | bl b => cases rx; exact SeqAt.EqAt.str_bool a t' b
  | int b => obtain ⟨t, rfl⟩ := rx; exact SeqAt.EqAt.str_int a t' b t
  | str b => obtain ⟨t, rfl⟩ := rx; exact SeqAt.EqAt.str_str a t' b t
  | _ => exact absurd (show false = true from fx) Bool.false_ne_true
 | _ => exact absurd (show false = true from fy) Bool.false_ne_true
theorem rg : ib X (.builtin "len") (fun xs H Q => ∃ p ys, xs = [.ref p] /\ (SqL X.K H p ys \/ SqT X.K H p ys) /\ Q (.int ys.length) H) := by
 intro pins s σ H xs us Q I r h
 obtain ⟨p, ys, rfl, hq, q⟩ := h
 obtain ⟨u, rfl, rx⟩ := vals1 r
 cases rx
 have hn := dg
 rcases hq with hq | hq
 . obtain ⟨its, r', pl, hz⟩ := I.list hq
   have hlen := r'.length
   exact Calls.call_len_list pl.isList (by simp only [List.size_toArray] <;> omega) ⟨.int ys.length, H, I.tok _, ⟨s.toks + 1, by rw [List.size_toArray, hlen]⟩, q⟩
 . obtain ⟨its, r', pl, hz⟩ := I.tuple hq
   have hlen := r'.length
   exact len_tuple pl (by simp only [List.size_toArray] <;> omega) ⟨.int ys.length, H, I.tok _, ⟨s.toks + 1, by rw [List.size_toArray, hlen]⟩, q⟩
theorem qg : ib X (.type "list") (fun xs H Q => ∃ p ys, xs = [.ref p] /\ (SqL X.K H p ys \/ SqT X.K H p ys) /\ ∀ l, H l = none -> Q (.ref l) (upd H l (.lst ys))) := by
 intro pins s σ H xs us Q I r h
 obtain ⟨p, ys, rfl, hq, q⟩ := h
 obtain ⟨u, rfl, rx⟩ := vals1 r
 cases rx
 have fin : ∀ (its : List Value), Vals ys its -> ys.length <= sizeLine -> ∀ (h' : Heap) (c' : Nat), (∀ b o', s.heap.get? b = some o' -> h'.get? b = some o') ->
  h'.get? s.heap.objs.size = some { cls := .type "list", dict := none, data := .seq its.toArray c', slots := #[] } -> EP X pins σ Q (.ref s.heap.objs.size) { s with heap := h' } := fun its r' hz h' c' kp e =>
  ⟨.ref s.heap.objs.size, _, I.laid (t' := s.toks) kp (Nat.le_refl _) (show fb X.prog X.w _ h' _ (.lst ys) from ⟨hz, its, c', r', e⟩), rfl, q _ (I.hok.fresh (Nat.le_refl _))⟩
 rcases hq with hq | hq
 . obtain ⟨its, r', pl, hz⟩ := I.list hq
   have hlen := r'.length
   obtain ⟨o, ho, hc, n, hd⟩ := pl.isList
   exact call_list_seq p (.inl rfl) ho hc hd (fun h' c' kp e => fin its r' hz h' c' kp e) (by simp only [List.size_toArray] <;> omega)
 . obtain ⟨its, r', pl, hz⟩ := I.tuple hq
   have hlen := r'.length
   obtain ⟨o, ho, hc, n, hd⟩ := pl
   exact call_list_seq p (.inr rfl) ho hc hd (fun h' c' kp e => fin its r' hz h' c' kp e) (by simp only [List.size_toArray] <;> omega)
def tyV (K : PySem.W.Frag) (T : String) (x : V) (H : Hp) : Prop := match x with
 | .str _ => T = "str"
 | .int _ => T = "int"
 | .ref p => (T = "list" /\ ∃ xs, SqL K H p xs) \/ (T = "tuple" /\ ∃ o, K.lookup p = some o /\ o.cls = .type "tuple" /\ o.dict = none) \/
  (T = "dict" /\ ((∃ kvs, H p = some (.dK kvs)) \/ ∃ kvs, H p = some (.dT kvs))) \/ (T = "set" /\ ∃ S n, H p = some (.set S n))
 | _ => False
theorem tyV_is {pins : List (Addr × Obj)} {σ : St} {H : Hp} {s : Shared} {T : String} {x : V} {v : Value} (I : Inv X pins σ H s) (r : RelV x v) (ty : tyV X.K T x H) :
 s.TypeIs v T /\ ∀ a, v = .ref a -> ∃ ob, s.heap.get? a = some ob /\ ob.dict = none := by
 cases x with
 | str z =>
  obtain ⟨t, rfl⟩ := r
  cases (show T = "str" from ty)
  exact ⟨typeIs_str s z t, fun _ e => nomatch e⟩
 | int i =>
  obtain ⟨t, rfl⟩ := r
  cases (show T = "int" from ty)
  exact ⟨typeIs_int s i t, fun _ e => nomatch e⟩
 | ref p =>
  cases r
  rcases ty with ⟨rfl, xs, hq⟩ | ⟨rfl, o, hk, hc, hd⟩ | ⟨rfl, hk⟩ | ⟨rfl, S, n, hk⟩
  . obtain ⟨its, _, pl, _⟩ := I.list hq
    refine ⟨pl.isList.typeIs, fun a e => ?_⟩
    cases e
    obtain ⟨o, n, e, c, hd, _⟩ := pl
    exact ⟨o, e, hd⟩
  . refine ⟨⟨o, I.kIn p o hk, hc⟩, fun a e => ?_⟩
    cases e
    exact ⟨o, I.kIn _ o hk, hd⟩
  . have z : ∃ o, s.heap.get? p = some o /\ o.ExactDict := by
     rcases hk with ⟨kvs, hk⟩ | ⟨kvs, hk⟩
     . obtain ⟨_, _, _, _, o, _, _, e, ex, _⟩ := I.hok p _ hk
       exact ⟨o, e, ex⟩
     . obtain ⟨_, _, _, _, o, _, _, e, ex, _⟩ := I.hok p _ hk
       exact ⟨o, e, ex⟩
    obtain ⟨o, e, ex⟩ := z
    refine ⟨⟨o, e, ex.1⟩, fun a e2 => ?_⟩
    cases e2
    exact ⟨o, e, ex.2.1⟩
  . obtain ⟨o, _, _, _, e, ex, _⟩ := I.hok p _ hk
    refine ⟨⟨o, e, ex.1⟩, fun a e2 => ?_⟩
    cases e2
    exact ⟨o, e, ex.2.1⟩
 | _ => exact False.elim ty
def tBM (K : PySem.W.Frag) (T : String) (r : V -> List V -> Hp -> VK -> Prop) (to : TE) (t : TA) : TE := fun σ H Q => to σ H fun x H1 => tyV K T x H1 /\ t σ H1 fun xs H2 => r x xs H2 Q
variable {o e : Expr} {es : List Expr} {to : TE} {t : TA} {name : Str} {apos cpos : Pos} {T id : String} {r : V -> List V -> Hp -> VK -> Prop}
theorem Xi (pa : PlainAttrs T) (slot : Slot T name id) (hty : typeOf (.builtin id) = pure (.type "method_descriptor")) (hm : MtR X id r) (ho : PE X o to) (ha : PA X (e :: es) t)
 (hbase : attributeBase o name X.env (eval o X.env) = eval o X.env := by first | rfl | with_unfolding_all rfl)
 (hfew : ((backTo cpos (starEach (e :: es) X.env)).all (fun x => !x.1) && (backToKw cpos (keywordEach [] X.env)).all (fun x => x.1.isSome)
   && decide ((e :: es).length + ([] : List Keyword).length + (if ([] : List Keyword).isEmpty then 0 else 1) < 30)) = true := by first | rfl | with_unfolding_all rfl)
 (hline : (apos.endLine == cpos.line) = true := by first | rfl | with_unfolding_all rfl) (hs : starEach (e :: es) X.env = (false, eval e X.env) :: starEach es X.env := by first | rfl | with_unfolding_all rfl) (hplain : (backTo cpos (starEach es X.env)).any (·.1) = false := by first | rfl | with_unfolding_all rfl) :
 PE X (.Call (.Attribute o name apos) (e :: es) [] cpos) (tBM X.K T r to t) := by
 intro pins s σ H Q I h
 refine wpAny_Call_method_late hbase hfew hline rfl (thn (ho pins s σ H _ I h) fun v s1 ⟨x, H1, I1, r1, ty, q1⟩ => ?_)
 obtain ⟨h1, h2⟩ := tyV_is I1 r1 ty
 refine ⟨T, id, pa, slot, hty, h1, h2, ?_⟩
 have hA := ha cpos pins s1 σ H1 _ I1 q1
 rw [hs] at hA ⊢
 refine Calls.callWith_builtin (by show (false || (backTo cpos (starEach es X.env)).any (·.1)) = false; rw [hplain] <;> rfl) (Calls.evalArgs_plain ?_)
 exact thn hA fun us s2 ⟨vs, H2, I2, r2, q2⟩ => hm pins s2 σ H2 x vs v us Q I2 r1 r2 q2
end
end L2
namespace L2
open PySem PySem.Spec PyProof.Rows
def MtM (X : Cx) (id : String) (r : V -> List V -> Hp -> VK -> Prop) : Prop :=
 ∀ (pins : List (Addr × Obj)) (s : Shared) (σ : St) (H : Hp) (x : V) (xs : List V) (v : Value) (us : List Value) (Q : VK), Inv X pins σ H s -> RelV x v -> Vals xs us -> r x xs H Q ->
  wpAny (model X.prog X.w) X.A (call (.builtin id) (v :: us)) (EP X pins σ Q) X.xe s
theorem Vals.one : ∀ {x : V} {us : List Value}, Vals [x] us -> ∃ u, us = [u] /\ RelV x u
 | _, _, .cons r .nil => ⟨_, rfl, r⟩
theorem Vals.reverse {xs : List V} {us : List Value} (h : Vals xs us) : Vals xs.reverse us.reverse := by
 induction h with
 | nil => exact .nil
 | cons r t ih => rw [List.reverse_cons, List.reverse_cons]; exact Vals.append ih (.cons r .nil)
theorem Vals.rep {xs : List V} {us : List Value} (h : Vals xs us) : ∀ k : Nat, Vals (List.replicate k xs).flatten (List.replicate k us).flatten
 | 0 => .nil
 | k + 1 => by
  rw [List.replicate_succ, List.replicate_succ, List.flatten_cons, List.flatten_cons]
  exact Vals.append h (Vals.rep h k)
theorem foldl_rep (its : List Value) : ∀ (k : Nat) (acc : List Value),
 List.foldl (fun x1 x2 => x1 ++ x2) acc.toArray (List.replicate k its.toArray) = (acc ++ (List.replicate k its).flatten).toArray
 | 0, acc => by simp
 | k + 1, acc => by
  have e : acc.toArray ++ its.toArray = (acc ++ its).toArray := by simp
  have e2 : (acc ++ its) ++ (List.replicate k its).flatten = acc ++ (List.replicate (k + 1) its).flatten := by
   rw [List.replicate_succ, List.flatten_cons, List.append_assoc]
  rw [<- e2, <- foldl_rep its k (acc ++ its), <- e, List.replicate_succ, List.foldl_cons]
section
variable {X : Cx} {pins : List (Addr × Obj)} {σ : St} {H : Hp} {s : Shared} {l b : Addr} {xs ys zs : List V}
theorem Inv.lset {its its' : List Value} {n : Nat} {f : Array Value -> Array Value} {t' : Nat} (I : Inv X pins σ H s) (hH : H l = some (.lst xs))
 (e : s.heap.get? l = some { cls := .type "list", data := .seq its.toArray n }) (hf : f its.toArray = its'.toArray) (hv : Vals ys its') (hz : ys.length <= sizeLine) :
 Inv X pins σ (upd H l (.lst ys)) { s with heap := s.heap.update l (Obj.mapSeq f), toks := t' } := by
 have q := PySem.IsL.update e f
 rw [hf] at q
 refine I.write (x := l) (e := l) (by rw [hH]; exact trivial) (.inl rfl) (fun b' u hb hu => (Heap.get?_update_other s.heap (Obj.mapSeq f) (Ne.symm hb)).trans hu) ⟨_, q⟩ ?_
 exact ⟨hz, its', _, hv, q⟩
theorem Inv.lnew {its : List Value} {t' : Nat} (I : Inv X pins σ H s) (hv : Vals ys its) (hz : ys.length <= sizeLine) :
 Inv X pins σ (upd H s.heap.objs.size (.lst ys)) { s with heap := s.heap.push { cls := .type "list", data := .seq its.toArray }, toks := t' } :=
 I.laid (fun _ _ q => Heap.get?_push_of_some _ q) (Nat.le_refl _) ⟨hz, its, 0, hv, Heap.get?_push_size _ rfl⟩
theorem Inv.fresh (I : Inv X pins σ H s) : H s.heap.objs.size = none := I.hok.fresh (Nat.le_refl _)
theorem Inv.lstM (I : Inv X pins σ H s) (hH : H l = some (.lst xs)) : xs.length <= sizeLine /\ ∃ (its : List Value) (n : Nat), Vals xs its /\ xs.length = its.length /\ s.heap.get? l = some { cls := .type "list", data := .seq its.toArray n } := by
 obtain ⟨z, its, n, r, e⟩ := I.hok l _ hH
 exact ⟨z, its, n, r, r.length, e⟩
theorem Jk {n : Nat} (h : n <= sizeLine) : Builtin.List.listTooLong n = false := by
 unfold Builtin.List.listTooLong
 exact decide_eq_false (by omega)
end
section
variable {X : Cx}
def Qi : V -> List V -> Hp -> VK -> Prop := fun x vs H Q => ∃ l xs y, x = .ref l /\ vs = [y] /\ H l = some (.lst xs) /\ xs.length < sizeLine /\ Q .non (upd H l (.lst (xs ++ [y])))
theorem Pb : MtM X "list.append" Qi := by
 intro pins s σ H x vs v us Q I rx rv h
 obtain ⟨l, xs, y, rfl, rfl, hH, hz, q⟩ := h
 cases rx
 obtain ⟨u, rfl, ru⟩ := rv.one
 obtain ⟨z, its, n, r, hl, e⟩ := I.lstM hH
 refine call_meets F.slot_list_append ⟨_, e, rfl⟩ F.entry_list_append (F.args_list_append_2 _ _) (PySem.list_append l its.toArray n u (by rw [List.size_toArray]; omega)) ⟨e, ?_⟩
 refine ⟨.non, _, I.lset (its' := its ++ [u]) hH e (by simp) (r.append (.cons ru .nil)) ?_, rfl, q⟩
 rw [List.length_append, List.length_singleton]
 omega
def rCat : R2 := fun x y H Q => ∃ l b xs zs, x = .ref l /\ y = .ref b /\ H l = some (.lst xs) /\ H b = some (.lst zs) /\ xs.length + zs.length <= sizeLine /\ ∀ p, H p = none -> Q (.ref p) (upd H p (.lst (xs ++ zs)))
theorem op_cat : OpR X (binaryOp .Add) rCat := by
 intro pins s σ H x y v u Q I rx ry h
 obtain ⟨l, b, xs, zs, rfl, rfl, hH, hB, hz, q⟩ := h
 cases rx
 cases ry
 obtain ⟨z, its, n, r, hl, e⟩ := I.lstM hH
 obtain ⟨z2, its2, n2, r2, hl2, e2⟩ := I.lstM hB
 refine PySem.P.add_list e e2 ?_ (by rw [List.size_toArray, List.size_toArray]; omega)
 have ea : its.toArray ++ its2.toArray = (its ++ its2).toArray := by simp
 rw [ea]
 exact ⟨.ref _, _, I.lnew (t' := s.toks) (r.append r2) (by rw [List.length_append]; omega), rfl, q _ I.fresh⟩
def rRep : R2 := fun x y H Q => ∃ l k xs, x = .ref l /\ y = .int k /\ H l = some (.lst xs) /\ -(2 ^ 63) <= k /\ k < 2 ^ 63 /\ xs.length * k.toNat <= sizeLine /\
 ∀ p, H p = none -> Q (.ref p) (upd H p (.lst (List.replicate k.toNat xs).flatten))
theorem len_rep {α : Type} (xs : List α) (k : Nat) : (List.replicate k xs).flatten.length = k * xs.length := by
 induction k with
 | zero => simp
 | succ k ih => rw [List.replicate_succ, List.flatten_cons, List.length_append, ih, Nat.succ_mul, Nat.add_comm]
theorem op_rep : OpR X (binaryOp .Mult) rRep := by
 intro pins s σ H x y v u Q I rx ry h
 obtain ⟨l, k, xs, rfl, rfl, hH, h1, h2, hz, q⟩ := h
 cases rx
 obtain ⟨t, rfl⟩ := ry
 obtain ⟨z, its, n, r, hl, e⟩ := I.lstM hH
 have hlen : its.toArray.size * k.toNat <= sizeLine := by rw [List.size_toArray, <- hl]; exact hz
 have hcap : ¬ its.toArray.size * k.toNat > (2 ^ 63 - 1) / 8 := by
  have : (sizeLine : Nat) <= (2 ^ 63 - 1) / 8 := by decide
  omega
 have hfit : ¬ (!Builtin.List.listFitsIndex k) = true := by
  rw [fitsIndex_both h1 h2]
  exact Bool.false_ne_true
 have hlong : ¬ Builtin.List.listTooLong (its.toArray.size * k.toNat) = true := by
  rw [Jk hlen]
  exact Bool.false_ne_true
 have hnew : List.foldl (fun x1 x2 => x1 ++ x2) #[] (List.replicate (if its.toArray.isEmpty = true then 0 else k.toNat) its.toArray) = (List.replicate k.toNat its).flatten.toArray := by
  have f0 : ∀ m : Nat, List.foldl (fun x1 x2 => x1 ++ x2) #[] (List.replicate m its.toArray) = (List.replicate m its).flatten.toArray := fun m => by
   have := foldl_rep its m []
   rw [List.nil_append] at this
   exact this
  rw [f0]
  cases its with
  | nil => simp
  | cons a r' => rw [if_neg (by simp)]
 refine wpAny_binaryOp_repeat_ref (T := "list") (U := "int") (by decide) ⟨_, e, rfl⟩ (fun s' => typeIs_int s' k t) noFill_list_mul F.fills_int_mul F.slot_int_rmul repeat_list F.slot_int_index.lookup
  (call_meets F.slot_int_rmul (typeIs_int s k t) F.entry_int_rmul (F.args_int_rmul_2 _ _) (int___rmul___int_list k t l its.toArray n)
    ⟨e, rfl, ⟨_, e, rfl⟩, call_meets F.slot_list_mul ⟨_, e, rfl⟩ F.entry_list_mul (F.args_list_mul_2 _ _) (AutoListH.list___mul___list_int_3 l its.toArray n k t hfit hcap hlong) ⟨e, ?_⟩⟩)
 rw [hnew]
 exact ⟨.ref _, _, I.lnew (t' := s.toks) (r.rep k.toNat) (by rw [len_rep, Nat.mul_comm]; exact hz), rfl, q _ I.fresh⟩
end
end L2
namespace Att
open PySem PySem.W PySem.Calls PyProof.Rows
theorem Pd {P : Params} {h : Heap} : ∀ (ns : List Int) (vs : List Value), WellAll P h vs (ns.map WData.int) -> IntsAre vs ns := by
 intro ns
 induction ns with
 | nil =>
  intro vs w
  rw [List.map_nil] at w
  cases w
  exact .nil
 | cons n ns ih =>
  intro vs w
  rw [List.map_cons] at w
  cases w with
  | cons a b =>
   cases a
   exact .cons _ _ (ih _ b)
theorem Di {l : OpenLaw} {n : Nat} (hn : l.most = some n) {P : Params} {h : Heap} {args : List WData} {vals : List Value}
 (hpre : l.row.toRowW.claim.pre args = true) (hwl : WellAll P h vals args) :
 ∃ a vs ns, vals = [Value.ref a] /\ args = [WData.list (ns.map WData.int)] /\ h.get? a = some { cls := .type "list", data := .seq vs.toArray } /\ IntsAre vs ns /\ ns.length <= n := by
 have hsh : WShape.hasAll [] args [.list .int] = true := (pre_splitW hpre).1
 have hc : l.pre.holds [] { args := args } = true := (pre_splitW hpre).2
 obtain ⟨d, r, rfl, h1, h2⟩ := hasAllW_cons hsh
 obtain rfl := hasAllW_nil h2
 obtain ⟨xs, rfl, h3⟩ := hasW_list h1
 obtain ⟨ns, rfl⟩ := items_int h3
 have hlen : ns.length <= n := by
  unfold OpenLaw.pre at hc
  have h4 : (WTm.not (.lt (.lit (.int (n : Int))) (.len (.arg 0)))).holds [] { args := [.list (ns.map .int)] } = true := by
   have h4 := (holds_andW hc).1
   rw [hn] at h4
   exact h4
  have h5 := condW_of h4 (w_not (w_lt w_lit (w_len_list (w_arg rfl))))
  rw [List.length_map] at h5
  refine Nat.le_of_not_lt fun q => ?_
  have q' : (n : Int) < ((ns.length : Nat) : Int) := by omega
  first
   | (rw [decide_eq_true q'] at h5; exact absurd h5 (by decide))
   | (simp at h5; omega)
 cases hwl with
 | cons w1 w2 =>
  cases w2
  cases w1 with
  | list ho hall => exact ⟨_, _, ns, rfl, rfl, ho, Pd ns _ hall, hlen⟩
theorem Si (l : OpenLaw) (args : List WData) : l.row.toRowW.claim.post args (.bool true) args = true :=
 postW_of (r := l.row.toRowW) (X := (true == true))
  (show WShape.has [] (.bool true) .bool = true by first | rfl | decide | simp [WShape.has, WShape.arms, WShape.armsAll])
  (show (WTm.eq .res (.lit (.bool true))).value [] { args := args, res := some (.bool true), after := args } = some (.bool (true == true)) from w_eq_bool (w_res rfl) w_lit) rfl
theorem Ug {l : OpenLaw} {n : Nat} {q : Program} {loose : List Str} {XP : (Str -> Option Value) -> Heap -> Prop} {YP : World -> Heap -> Prop} {d : DefRec}
 (hn : l.most = some n) (hdf : d.params.defaults = [])
 (call : ∀ (w : World) (s₀ s₁ : Shared) (mg mb : Str -> Option Value) (fa : Addr) (o : Obj) (pm cd doc : Value) (a : Addr) (vs : List Value) (ns : List Int),
   Ground q loose [] XP w s₀ mg mb s₁.heap -> YP w s₁.heap ->
   s₁.heap.get? fa = some o -> o.data = .func (docDef d.name d.params d.body d.scope pm cd doc) -> s₁.heap.CodeRec cd d.name -> mg d.name = some (.ref fa) ->
   s₁.heap.get? a = some { cls := .type "list", data := .seq vs.toArray } -> IntsAre vs ns -> ns.length <= n -> s₁.gens = #[] ->
   codeAny (model l.prog w) callerA (.call (.ref fa) ⟨[.ref a], []⟩) (fun r s' => r = .ok (.ret (.bool true)) /\ OldK s₁.heap s'.heap /\ s'.os = s₁.os /\ AllBare s'.gens) s₁) :
 WalkO q loose XP YP l.row.toRowW d [] (fun f vs => PySem.call f vs) := by
 intro w s₀ s₁ mg mb G Y fa o pm cd doc dV kV ho hd hcd hD hmg hg args vals as hpre hlay hrd hwl hlo
 obtain rfl : dV = .none := Dflts.none hD hdf
 obtain rfl : kV = .none := Dflts.noKw hD
 obtain ⟨a, vs, ns, rfl, rfl, hobj, hints, hlen⟩ := Di hn hpre hwl
 refine enter_call (codeAny_mono (call w s₀ s₁ mg mb fa o pm cd doc a vs ns G Y ho (fd_plain hd) hcd hmg hobj hints hlen hg) fun r s' hq => ?_)
 obtain ⟨rfl, h2, h3, h4⟩ := hq
 exact ⟨.inl ⟨.bool true, .bool true, [], rfl, fun _ => rfl, .bool true, Si l _, fun _ => ⟨List.Pairwise.nil, fun _ hm => (nomatch hm)⟩⟩, h2, h3, h4⟩
section
variable {prog : Program} {w : World} {A : Around} {E : Value -> Shared -> Prop} {s : Shared} {K : Frag}
def ledger (h : Heap) (L d : Addr) : List (Addr × Obj) := (List.range h.objs.size).filterMap fun a => if a = L \/ a = d then none else (h.get? a).map fun o => (a, o)
end
end Att
namespace L2
open PySem PySem.Spec PyProof.Rows
theorem zf : ∀ {vs : List Value} {ns : List Int}, IntsAre vs ns -> Vals (ns.map V.int) vs
 | _, _, .nil => .nil
 | _, _, .cons n t h => .cons ⟨t, rfl⟩ (zf h)
def Only (H : Hp) : Prop := ∀ b, H b = none \/ ∃ o xs, H b = some (.frz o (.lst xs))
theorem Kk {P : Program} {w : World} {K : PySem.W.Frag} {mg mb : Str -> Option Value} {CX : CXT} {k : Nat} {fa a : Addr} {fd : FuncData} {x : Str} {sp : Sp} {s₁ : Shared} {vs : List Value} {ns : List Int}
 (KX : K.In s₁.heap) (hns : s₁.heap.Ns mainGlobals mg) (hb : s₁.heap.Ns builtinsNs mb) (hbb : ∀ x : Str, x ≠ "__name__" -> mb x = bootBuiltins x) (hlim : s₁.heap.NoLimit) (hg : s₁.gens = #[])
 (ha : s₁.heap.get? a = some { cls := .type "list", data := .seq vs.toArray }) (hi : IntsAre vs ns) (hl : ns.length <= sizeLine) (hr : Room k callerA)
 (F : ∀ base : Heap, K.In base -> base.Ns mainGlobals mg -> FnOk P w K mg base CX k fa fd [x] sp) (hbind : ∀ (s : Shared) (u : Value), BindsTo s fd ⟨[u], []⟩ [(x, u)])
 (hsp : ∀ H : Hp, Only H -> SqL K H a (ns.map V.int) -> sp [.ref a] H (fun v _ => v = .bl true) fun _ _ _ => False)
 (hCX : ∀ H e s', CX [] H s₁ (fun _ _ _ => False) e s' -> False) :
 codeAny (model P w) callerA (.call (.ref fa) ⟨[.ref a], []⟩) (fun r s' => r = .ok (.ret (.bool true)) /\ OldK s₁.heap s'.heap /\ s'.os = s₁.os /\ AllBare s'.gens) s₁ := by
 have rv := zf hi
 have lenV := hi.length
 have core : ∀ H : Hp, Only H -> SqL K H a (ns.map V.int) -> HOk P w H s₁.heap -> (∀ b, H b ≠ none -> b = a) -> (H a ≠ none -> K.lookup a = none) ->
  codeAny (model P w) callerA (.call (.ref fa) ⟨[.ref a], []⟩) (fun r s' => r = .ok (.ret (.bool true)) /\ OldK s₁.heap s'.heap /\ s'.os = s₁.os /\ AllBare s'.gens) s₁ := by
  intro H hO hS hok hA hK
  have base_of : ∀ {b : Addr} {o : Obj}, s₁.heap.get? b = some o -> H b = none -> (hidT s₁.heap H).get? b = some o := fun e n => Pk e n
  have noA : ∀ {b : Addr} {o : Obj} {es : Array DictEntry} {ep : Nat}, s₁.heap.get? b = some o -> o.data = .dict es ep -> H b = none := fun {b o es ep} e d => by
   cases q : H b with
   | none => rfl
   | some u =>
    have e' : b = a := hA b (by rw [q]; simp)
    subst e'
    rw [ha] at e; cases e
    have d' : Data.seq vs.toArray _ = Data.dict es ep := d
    cases d'
  have nsK : ∀ {b : Addr} {m : Str -> Option Value}, s₁.heap.Ns b m -> (hidT s₁.heap H).Ns b m := fun {b m} ⟨o, es, ep, e, d, r⟩ => ⟨o, es, ep, base_of e (noA e d), d, r⟩
  have hKb : K.In (hidT s₁.heap H) := fun b o e => base_of (KX b o e) (by
   cases q : H b with
   | none => rfl
   | some u =>
    have e' : b = a := hA b (by rw [q]; simp)
    subst e'
    rw [hK (by rw [q]; simp)] at e; cases e)
  have hM : Mod K mg (hidT s₁.heap H) := ⟨hKb, nsK hns, ⟨mb, nsK hb, hbb⟩, let ⟨mc, h1, h2⟩ := hlim; ⟨mc, nsK h1, h2⟩⟩
  have e0 : Env0 P w K mg (hidT s₁.heap H) callerA [] s₁ H := ⟨rfl, hM, fun b o e => Pm e, Nat.le_of_eq (pj _ _), trivial, fun b hb => absurd (show b ∈ ([] : List Addr) from hb) (by simp), hok, .of_eq hg⟩
  refine codeAny_mono ((F _ hKb (nsK hns)).run callerA [] s₁ H ⟨[.ref a], []⟩ [.ref a] [.ref a] _ _ hr e0 (hbind s₁ (.ref a)) (.cons rfl .nil) (hsp H hO hS)) fun r s' h => ?_
  cases r with
  | error e => exact (hCX H e s' h).elim
  | ok fl =>
   cases fl with
   | next => exact False.elim h
   | brk => exact False.elim h
   | cont => exact False.elim h
   | ret u =>
    obtain ⟨v, H', os, bare, un, hok', r', q⟩ := h
    have q' : v = .bl true := q
    subst q'
    obtain rfl : u = Value.bool true := r'
    refine ⟨rfl, OldK.of_keep fun b o e => ?_, os, bare⟩
    cases q : H b with
    | none => exact un.keep b o e q (by intro z; exact absurd (show b ∈ ([] : List Addr) from z) (by simp)) (by simp)
    | some u =>
     rcases hO b with z | ⟨ob, xs, z⟩
     . rw [q] at z; cases z
     . have z2 := un.frzs b ob _ z
       obtain ⟨e1, _⟩ := hok b _ z
       obtain ⟨e2, _⟩ := hok' b _ z2
       rw [e] at e1; cases e1
       exact e2
 cases hk : K.lookup a with
 | some o =>
  have e := KX a o hk
  rw [ha] at e
  cases e
  refine core (fun _ => none) (fun _ => .inl rfl) (.inr ⟨_, vs.toArray, _, hk, rfl, rfl, rfl, by rw [List.size_toArray, lenV]; exact hl, by simpa using rv⟩) (fun b u z => by have z' : (none : Option HO) = some u := z; cases z') (fun b z => absurd rfl z) fun z => absurd rfl z
 | none =>
  refine core (fun b => if b = a then some (.frz { cls := .type "list", data := .seq vs.toArray } (.lst (ns.map V.int))) else none) (fun b => ?_) (.inl (.inr ⟨{ cls := .type "list", data := .seq vs.toArray }, if_pos rfl⟩)) (fun b u z => ?_) (fun b z => ?_) fun _ => hk
  . by_cases hb : b = a
    . exact .inr ⟨_, _, if_pos hb⟩
    . exact .inl (if_neg hb)
  . by_cases hb : b = a
    . have z' := (if_pos hb).symm.trans z
      cases z'
      subst hb
      exact ⟨ha, by rw [List.length_map]; exact hl, vs, _, rv, ha⟩
    . have z' := (if_neg hb).symm.trans z
      cases z'
  . by_cases hb : b = a
    . exact hb
    . exact absurd (if_neg hb) z
end L2
namespace L2
open PySem PySem.Spec PyProof.Rows
abbrev KOf {K : PySem.W.Frag} {h : Heap} (_ : K.In h) : PySem.W.Frag := K
theorem Ul {l : PySem.W.OpenLaw} {n k : Nat} {q : Program} {loose : List Str} {XP : (Str -> Option Value) -> Heap -> Prop} {YP : World -> Heap -> Prop} {d : DefRec} {K : Params -> PySem.W.Frag} {CX : World -> CXT} {sp : World -> Sp} {x : Str}
 (hn : l.most = some n) (hn2 : n <= sizeLine) (hdf : d.params.defaults = []) (hr : Room k callerA)
 (hY : ∀ (w : World) (h : Heap), YP w h -> (K w.params).In h)
 (F : ∀ (w : World) (mg : Str -> Option Value) (fa : Addr) (h : Heap), (K w.params).In h -> h.Ns mainGlobals mg -> mg d.name = some (.ref fa) ->
   ∃ fd : FuncData, (∀ (s : Shared) (u : Value), BindsTo s fd ⟨[u], []⟩ [(x, u)]) /\
    ∀ base : Heap, (K w.params).In base -> base.Ns mainGlobals mg -> FnOk l.prog w (K w.params) mg base (CX w) k fa fd [x] (sp w))
 (hsp : ∀ (w : World) (H : Hp) (a : Addr) (ns : List Int), ns.length <= n -> Only H -> SqL (K w.params) H a (ns.map V.int) -> sp w [.ref a] H (fun v _ => v = .bl true) fun _ _ _ => False)
 (hCX : ∀ (w : World) (H : Hp) (s : Shared) (e : Value) (s' : Shared), CX w [] H s (fun _ _ _ => False) e s' -> False) :
 PySem.W.WalkO q loose XP YP l.row.toRowW d [] (fun f vs => PySem.call f vs) := by
 refine Att.Ug hn hdf fun w s₀ s₁ mg mb fa o pm cd doc a vs ns G Y ho hd hcd hmg hobj hints hlen hg => ?_
 have KX := hY w _ Y
 obtain ⟨fd, hb, hF⟩ := F w mg fa _ KX G.T.g hmg
 exact Kk KX G.T.g G.T.b G.T.builtins G.T.nolimit hg hobj hints (Nat.le_trans hlen hn2) hr hF hb (fun H hO hS => hsp w H a ns hlen hO hS) fun H e s' => hCX w H s₁ e s'
end L2
namespace L2
open PySem PySem.Spec PyProof.Rows
def Gb (s : Stmt) : Arguments := match s with
 | .FunctionDef _ a _ _ _ _ _ _ _ _ => a
 | _ => { posonlyargs := [], args := [], vararg := none, kwonlyargs := [], kw_defaults := [], kwarg := none, defaults := [] }
def za (s : Stmt) : List Stmt := match s with
 | .FunctionDef _ _ b _ _ _ _ _ _ _ => b
 | _ => []
def ua (s : Stmt) : Scope := match s with
 | .FunctionDef _ _ _ _ _ _ sc _ _ _ => sc
 | _ => { kind := .function, names := [], isGenerator := false, isCoroutine := false }
abbrev CX0 : CXT := fun _ _ _ _ _ _ => False
abbrev E0 : XK := fun _ _ _ => False
theorem pass0 {X : Cx} : Passes CX0 X E0 := fun _ _ _ _ _ _ _ h => h.elim
structure Fun (K : PySem.W.Frag) (x qual : Str) (st : Stmt) (f : Addr) (fd : FuncData) : Prop where
 ex : ∃ (oc : Value) (od : Option Addr) (kV doc pm : Value) (an : Option Addr) (cdv ct : Value) (osl : Array (Option Value)),
  fd = PySem.W.fnOf x qual (Gb st) (za st) (ua st) .none kV doc pm an cdv ct /\ K.lookup f = some ⟨oc, od, .func fd, osl⟩ /\ PySem.W.codeIn K cdv qual = true
 kp : PySem.W.keepIn K (.ref f) = true
section
variable {P : Program} {w : World} {K : PySem.W.Frag} {mg : Str -> Option Value} {base : Heap}
theorem Fun.ok {x qual : Str} {st : Stmt} {f : Addr} {fd : FuncData} {N ps : List Str} {k : Nat} {sp : Sp} (F : Fun K x qual st f fd) (S : Ga N ps (ua st)) (len : ∀ vs H Q E, sp vs H Q E -> vs.length = ps.length)
 (hbody : ∀ (cdv : Value) (A : Around) (outer : List Env) (s : Shared) (H : Hp) (vs : List V) (Q : VK) (E : XK), Room k (A.deeper (envOfC qual (ua st) s.heap.objs.size f cdv)) -> sp vs H Q E ->
   ∃ t, PSs (cxOf CX0 P w K mg base N qual (ua st) f cdv A outer s H E).nox (za st) t /\ t { nx := fun _ H' => Q .non H', rt := Q } (start N vs) H) : FnOk P w K mg base CX0 (k + 1) f fd ps sp := by
 obtain ⟨oc, od, kV, doc, pm, an, cdv, ct, osl, rfl, lk, hcd⟩ := F.ex
 refine fn_of lk hcd S len fun A outer s H vs Q E hr hsp => ?_
 obtain ⟨t, h, q⟩ := hbody cdv A outer s H vs Q E hr hsp
 exact ⟨t, h.nox, q⟩
theorem Fun.binds {x qual : Str} {st : Stmt} {f : Addr} {fd : FuncData} {ps : List Str} (F : Fun K x qual st f fd)
 (h : ∀ (kV doc pm : Value) (an : Option Addr) (cdv ct : Value) (us : List Value), us.length = ps.length -> bindArgs (PySem.W.fnOf x qual (Gb st) (za st) (ua st) .none kV doc pm an cdv ct) ⟨us, []⟩ = pure (ps.zip us)) : Binds K fd ps [] := by
 obtain ⟨oc, od, kV, doc, pm, an, cdv, ct, osl, rfl, lk, hcd⟩ := F.ex
 exact .all (h kV doc pm an cdv ct)
theorem fun_mk {x qual : Str} {st : Stmt} {f : Addr} {oc : Value} {od an : Option Addr} {osl : Array (Option Value)} {kV doc pm cdv ct : Value} (l : K.lookup f = some ⟨oc, od, .func (PySem.W.fnOf x qual (Gb st) (za st) (ua st) .none kV doc pm an cdv ct), osl⟩)
 (c : PySem.W.codeIn K cdv qual = true) (k : PySem.W.keepIn K (.ref f) = true) : Fun K x qual st f (PySem.W.fnOf x qual (Gb st) (za st) (ua st) .none kV doc pm an cdv ct) := ⟨⟨oc, od, kV, doc, pm, an, cdv, ct, osl, rfl, l, c⟩, k⟩
end
section
variable {X : Cx}
theorem pv (i : Nat) {x : Str} {pos : Pos} (hN : X.N[i]? = some x := by first | rfl | with_unfolding_all rfl) (hv : Vis X.env.scope x := by first | exact Or.inl rfl | exact Or.inr (Or.inl rfl) | exact Or.inr (Or.inr rfl) | with_unfolding_all exact Or.inl rfl | with_unfolding_all exact Or.inr (Or.inl rfl) | with_unfolding_all exact Or.inr (Or.inr rfl)) (hd : (x == ("__debug__" : Str)) = false := by decide)
 (hcd : (x == ("__classdict__" : Str)) = false := by decide) : PE X (.Name x pos) (tVar i) := pe_var hN hv hd hcd
end
theorem iteF {A B : Prop} (h : B) : if false = true then A else B := by
 rw [if_neg Bool.false_ne_true]
 exact h
theorem iteT {A B : Prop} (h : A) : if true = true then A else B := by
 rw [if_pos rfl]
 exact h
theorem ite2 {c A B : Prop} [Decidable c] (h1 : c -> A) (h2 : ¬ c -> B) : if c then A else B := by
 by_cases h : c
 . rw [if_pos h]
   exact h1 h
 . rw [if_neg h]
   exact h2 h
def Same (H H' : Hp) : Prop := ∀ b o, H b = some o -> H' b = some o
theorem Same.refl (H : Hp) : Same H H := fun _ _ h => h
theorem Same.free {H H' : Hp} (e : Same H H') {l : Addr} (h : H' l = Option.none) : H l = Option.none := by
 cases q : H l with
 | none => rfl
 | some o =>
  rw [e l o q] at h
  cases h
end L2
namespace L2
open PySem PySem.Spec PyProof.Rows
def Tame {α : Type} : Sem α -> Prop
 | .rule _ k => Tame (k ())
 | .at _ k => Tame (k ())
 | .load _ _ k => ∀ o, Tame (k o)
 | .update _ _ f k => (∀ o, (f o).dict = o.dict /\ (f o).isFreed = o.isFreed) /\ Tame (k ())
 | .alloc _ k => ∀ a, Tame (k a)
 | .loadIfAlive _ k => ∀ o, Tame (k o)
 | .point _ k => Tame (k ())
 | .fresh k => ∀ t, Tame (k t)
 | .ask k => ∀ x, Tame (k x)
 | .stack k => ∀ l, Tame (k l)
 | .handled _ k => ∀ x, Tame (k x)
 | .thread k => ∀ x, Tame (k x)
 | .choose _ _ _ => False
 | .os _ _ _ => False
 | .call _ _ _ _ _ => False
 | .genState _ _ => False
 | .newGen _ _ => False
 | .resume _ _ _ _ => False
 | _ => True
def Kd (h h' : Heap) : Prop := ∀ b o, h.get? b = some o -> ∃ o', h'.get? b = some o' /\ o'.dict = o.dict
theorem Kd.refl (h : Heap) : Kd h h := fun _ o e => ⟨o, e, rfl⟩
theorem Kd.trans {h1 h2 h3 : Heap} (a : Kd h1 h2) (b : Kd h2 h3) : Kd h1 h3 := fun x o e => by
 obtain ⟨o1, e1, d1⟩ := a x o e
 obtain ⟨o2, e2, d2⟩ := b x o1 e1
 exact ⟨o2, e2, d2.trans d1⟩
theorem Kd.keeps {h h' : Heap} (k : ∀ b o, h.get? b = some o -> h'.get? b = some o) : Kd h h' := fun b o e => ⟨o, k b o e, rfl⟩
theorem Wl {α : Type} {M : Model} {Γ : PySem.Ctx} {Q : α -> Pos -> Shared -> Prop} {E : Value -> Pos -> Shared -> Prop} {h0 : Heap} : ∀ (t : Sem α) (p : Pos) (s : Shared), Tame t -> Kd h0 s.heap -> Sem.wp M Γ t Q E p s ->
 Sem.wp M Γ t (fun a p' s' => Q a p' s' /\ Kd h0 s'.heap) (fun e p' s' => E e p' s' /\ Kd h0 s'.heap) p s := by
 intro t
 induction t with
 | pure a => intro p s T k h; rw [Sem.wp] at h ⊢; exact ⟨h, k⟩
 | raise e => intro p s T k h; rw [Sem.wp] at h ⊢; exact ⟨h, k⟩
 | unsupported => intro p s T k h; rw [Sem.wp] at h; exact h.elim
 | finish => intro p s T k h; rw [Sem.wp] at h; exact h.elim
 | rule _ _ ih => intro p s T k h; rw [Sem.wp] at h ⊢; exact ih _ _ _ (by simpa only [Tame] using T) k h
 | «at» _ _ ih => intro p s T k h; rw [Sem.wp] at h ⊢; exact ih _ _ _ (by simpa only [Tame] using T) k h
 | load a _ _ ih =>
  intro p s T k h
  rw [Sem.wp] at h ⊢
  obtain ⟨o, ho, h⟩ := h
  simp only [Tame] at T
  exact ⟨o, ho, ih _ _ _ (T o) k h⟩
 | update a _ f _ ih =>
  intro p s T k h
  rw [Sem.wp] at h ⊢
  simp only [Tame] at T
  refine ⟨h.1, ih _ _ _ T.2 (k.trans fun b o e => ?_) h.2⟩
  by_cases hb : b = a
  . subst hb
    have hf := (Heap.get?_some_iff.mp e).2
    exact ⟨f o, Heap.get?_update_self f e ((T.1 o).2.trans hf), (T.1 o).1⟩
  . exact ⟨o, (Heap.get?_update_other _ _ (Ne.symm hb)).trans e, rfl⟩
 | alloc o _ ih =>
  intro p s T k h
  rw [Sem.wp] at h ⊢
  simp only [Tame] at T
  exact ih _ _ _ (T _) (k.trans (.keeps fun b o' e => Heap.get?_push_of_some _ e)) h
 | loadIfAlive a _ ih => intro p s T k h; rw [Sem.wp] at h ⊢; simp only [Tame] at T; exact ih _ _ _ (T _) k h
 | point _ _ ih => intro p s T k h; rw [Sem.wp] at h ⊢; exact ih _ _ _ (by simpa only [Tame] using T) k h
 | register => intro p s T k h; rw [Sem.wp] at h; exact h.elim
 | fresh _ ih => intro p s T k h; rw [Sem.wp] at h ⊢; simp only [Tame] at T; exact ih _ _ _ (T _) k h
 | ask _ ih => intro p s T k h; rw [Sem.wp] at h ⊢; simp only [Tame] at T; exact ih _ _ _ (T _) k h
 | choose => intro p s T; exact (by simpa only [Tame] using T : False).elim
 | os => intro p s T; exact (by simpa only [Tame] using T : False).elim
 | call => intro p s T; exact (by simpa only [Tame] using T : False).elim
 | handled _ _ ih => intro p s T k h; rw [Sem.wp] at h ⊢; simp only [Tame] at T; exact ih _ _ _ (T _) k h
 | newGen => intro p s T; exact (by simpa only [Tame] using T : False).elim
 | genState => intro p s T; exact (by simpa only [Tame] using T : False).elim
 | resume => intro p s T; exact (by simpa only [Tame] using T : False).elim
 | «yield» => intro p s T k h; rw [Sem.wp] at h; exact h.elim
 | stack _ ih => intro p s T k h; rw [Sem.wp] at h ⊢; simp only [Tame] at T; exact ih _ _ _ (T _) k h
 | fork => intro p s T k h; rw [Sem.wp] at h; exact h.elim
 | thread _ ih => intro p s T k h; rw [Sem.wp] at h ⊢; simp only [Tame] at T; exact ih _ _ _ (T _) k h
 | await => intro p s T k h; rw [Sem.wp] at h; exact h.elim
theorem Lj {α : Type} {M : Model} {A : Around} {t : Sem α} {Q : α -> Shared -> Prop} {E : Value -> Shared -> Prop} {s : Shared} (T : Tame t) (h : wpAny M A t Q E s) : wpAny M A t (fun a s' => Q a s' /\ Kd s.heap s'.heap) (fun e s' => E e s' /\ Kd s.heap s'.heap) s :=
 fun Γ p hΓ => Wl t p s T (.refl _) (h Γ p hΓ)
theorem Tame.bind {α β : Type} : ∀ {m : Sem α} {f : α -> Sem β}, Tame m -> (∀ a, Tame (f a)) -> Tame (m >>= f) := by
 intro m f
 show Tame m -> _ -> Tame (m.bind f)
 induction m <;> intro T F <;> simp only [Sem.bind, Tame] at T ⊢ <;> first | exact F _ | trivial | exact T.elim | (rename_i ih; exact ih _ T F) | (rename_i ih; exact fun x => ih x (T x) F) | (rename_i ih; exact ⟨T.1, ih _ T.2 F⟩)
theorem Ha {α : Type} {a : α} : Tame (pure a : Sem α) := by show Tame (Sem.pure a); simp only [Tame]
theorem lb {α : Type} {w : String} : Tame (unsupported w : Sem α) := by show Tame (Sem.unsupported w); simp only [Tame]
theorem Ad {a : Addr} : Tame (load a) := by show Tame (Sem.load a none .pure); simp only [Tame]; exact fun _ => trivial
theorem Zg {a : Addr} {f : Obj -> Obj} (h : ∀ o, (f o).dict = o.dict /\ (f o).isFreed = o.isFreed) : Tame (update a f) := by show Tame (Sem.update a none f .pure); simp only [Tame]; exact ⟨h, trivial⟩
theorem yh {o : Obj} : Tame (alloc o) := by show Tame (Sem.alloc o .pure); simp only [Tame]; exact fun _ => trivial
theorem Jc : Tame stack := by show Tame (Sem.stack .pure); simp only [Tame]; exact fun _ => trivial
theorem Za {α : Type} {c : Prop} [Decidable c] {x y : Sem α} (h1 : Tame x) (h2 : Tame y) : Tame (if c then x else y) := by split <;> assumption
theorem cg (g : Array Value -> Array Value) (o : Obj) : (Obj.mapFields g o).dict = o.dict /\ (Obj.mapFields g o).isFreed = o.isFreed := by
 obtain ⟨c, d, dt, sl⟩ := o
 cases dt <;> exact ⟨rfl, rfl⟩
theorem Tb {v : Value} {i : Nat} : Tame (field v i) := by
 unfold field
 refine .bind ?_ fun vs => ?_
 . unfold fieldsOf
   split
   . refine .bind Ad fun o => ?_
     split
     . exact Ha
     . exact lb
   . exact lb
 . split
   . exact Ha
   . exact lb
theorem zb {v x : Value} {i : Nat} : Tame (setField v i x) := by
 unfold setField
 split
 . unfold updateField
   refine .bind Ad fun o => ?_
   split
   . exact Za (Zg (cg _)) lb
   . exact lb
 . exact lb
theorem jb {e : Value} {f : Option Addr} : Tame (setFlight e f) := by
 unfold setFlight
 exact .bind Tb fun _ => Za zb Ha
theorem ze : ∀ l : List Env, Tame (readyFrames l)
 | [] => by unfold readyFrames; exact Ha
 | env :: outer => by
  unfold readyFrames
  split
  . refine .bind Ad fun o => ?_
    refine Za Ha ?_
    refine .bind ?_ fun im => .bind ?_ fun bk => .bind (Zg fun o => ⟨rfl, ?_⟩) fun _ => ze outer
    . unfold behindIsImport
      exact Za Ha (Za Ha (.bind Tb fun _ => Ha))
    . unfold keptBack
      split
      . refine Za Ha ?_
        unfold underTheClaimsCaller
        exact .bind (.bind Jc fun _ => Ha) fun _ => Ha
      . exact Ha
    . obtain ⟨c, d, dt, sl⟩ := o
      cases dt <;> rfl
  . exact lb
theorem Ef {env : Env} : Tame (PySem.frameOf env) := by
 unfold PySem.frameOf
 refine .bind (.bind Jc fun _ => Ha) fun l => .bind ?_ fun r => ?_
 . unfold frameObject
   split
   . exact Ha
   . exact .bind (ze _) fun _ => Ha
 . split
   . exact Ha
   . exact lb
theorem vh {f : Addr} {b : Bool} : Tame (entryPlaceOf f b) := by
 unfold entryPlaceOf
 refine .bind Jc fun l => ?_
 split <;> exact Ha
theorem xh {a b c d e : Value} {l : List Value} : Tame (EntryCells.newEntry a b c d e l) := by
 unfold EntryCells.newEntry newFields newObj newObjAsIs
 dsimp only
 have k : ∀ o : Obj, Tame (do let a <- alloc o; pure (Value.ref a)) := fun o => .bind yh fun _ => Ha
 exact Za (.bind lb fun _ => k _) (k _)
theorem Df {e : Value} {env : Env} : Tame (noteFrame e env) := by
 unfold noteFrame
 split
 . refine .bind Tb fun hd => ?_
   have last : ∀ f, Tame (do let fr <- PySem.frameOf env; let pl <- entryPlaceOf f (hd != .none); let x <- EntryCells.newEntry hd fr .none (rawInt f) .none pl; setField e 1 x) := fun f =>
    .bind Ef fun _ => .bind vh fun _ => .bind xh fun _ => zb
   refine Za (.bind Tb fun _ => Za Ha (.bind zb fun _ => last _)) (last _)
 . exact lb
theorem Vc {env : Env} {e : Value} : Tame (leaving env e) := by
 unfold leaving
 exact .bind Df fun _ => jb
end L2
namespace L2
open PySem PySem.Spec PyProof.Rows
def pd (i j : Int) : Prop := CMul i j \/ ∃ m n : Nat, i.natAbs < 2 ^ m /\ j.natAbs < 2 ^ n /\ m + n <= 134217728
def Wg (_i j : Int) : Prop := 0 < j /\ ∃ n : Nat, j.natAbs < 2 ^ n /\ n <= 9000
section
variable {X : Cx}
theorem Jm : OpR X (binaryOp .Mult) (rI pd fun i j => .int (i * j)) := opI fun _ _ _ _ _ _ _ hc q => by
 rcases hc with hc | ⟨m, n, h1, h2, h3⟩
 . exact mul_int q hc.ok
 exact mul_int q (PySem.IntMulOk.of_le (PySem.intBits_le_iff.mpr h1) (PySem.intBits_le_iff.mpr h2) h3)
theorem Eb : OpR X (binaryOp .FloorDiv) (rI Wg fun i j => .int (i / j)) := opI fun i j _ _ _ _ _ hc q => by
 obtain ⟨h1, n, h2, h3⟩ := hc
 refine floordiv_int (by omega) (by rw [Int.fdiv_eq_ediv_of_nonneg i (by omega)]; exact q) (.inl (PyProof.noPylong_of_log2 ?_))
 exact (Nat.log2_lt (by omega)).mpr (Nat.lt_of_lt_of_le h2 (Nat.pow_le_pow_right (by decide) h3))
end
theorem pd.of {i j : Int} (m n : Nat) (h1 : i.natAbs < 2 ^ m) (h2 : j.natAbs < 2 ^ n) (h3 : m + n <= 134217728 := by decide) : pd i j := .inr ⟨m, n, h1, h2, h3⟩
theorem Wg.of {i j : Int} (n : Nat) (h1 : 0 < j) (h2 : j.natAbs < 2 ^ n) (h3 : n <= 9000 := by decide) : Wg i j := ⟨h1, n, h2, h3⟩
theorem Wg.small {i j : Int} (h1 : 0 < j) (h2 : j < 4294967296) : Wg i j := .of 32 h1 (by omega)
theorem pd.left {i j : Int} (h1 : -18446744073709551616 < i) (h2 : i < 18446744073709551616) : pd i j := .inl (.inl ⟨h1, h2⟩)
theorem pd.right {i j : Int} (h1 : -18446744073709551616 < j) (h2 : j < 18446744073709551616) : pd i j := .inl (.inr ⟨h1, h2⟩)
def rIsi (K : PySem.W.Frag) : List V -> Hp -> VK -> Prop := fun xs H Q => ∃ x n t b, xs = [x, .ty n] /\ TyOf K H x t /\ PySem.W.kitOne K t (.type n) = some b /\ Q (.bl b) H
def rAbs : List V -> Hp -> VK -> Prop := fun xs H Q => ∃ i, xs = [.int i] /\ Q (.int (if i < 0 then -i else i)) H
def rMin2 : List V -> Hp -> VK -> Prop := fun xs H Q => ∃ i j, xs = [.int i, .int j] /\ Q (.int (if j < i then j else i)) H
def rMax2 : List V -> Hp -> VK -> Prop := fun xs H Q => ∃ i j, xs = [.int i, .int j] /\ Q (.int (if j > i then j else i)) H
def rInt1 : List V -> Hp -> VK -> Prop := fun xs H Q => (∃ i, xs = [.int i] /\ Q (.int i) H) \/ ∃ k, xs = [.bl k] /\ Q (.int (if k then 1 else 0)) H
def rLen (K : PySem.W.Frag) : List V -> Hp -> VK -> Prop := fun xs H Q => ∃ p ys, xs = [.ref p] /\ (SqL K H p ys \/ SqT K H p ys) /\ Q (.int ys.length) H
def Ig (K : PySem.W.Frag) : List V -> Hp -> VK -> Prop := fun xs H Q => ∃ p ys, xs = [.ref p] /\ (SqL K H p ys \/ SqT K H p ys) /\ ∀ l, H l = none -> Q (.ref l) (upd H l (.lst ys))
section
variable {X : Cx}
theorem cl_isi : ib X (.builtin "isinstance") (rIsi X.K) := by
 intro pins s σ H xs us Q I r h
 obtain ⟨x, n, t, b, rfl, ty, e, q⟩ := h
 obtain ⟨u, c, rfl, ru, rc⟩ := vals2 r
 cases rc
 exact nj I ru ty e fun tk => ⟨.bl b, H, I.tok _, rfl, q⟩
theorem Pl : ib X (.builtin "abs") rAbs := Xk
theorem Td (hc : X.calm = true) : ib X (.builtin "min") rMin2 := zj hc
theorem wj (hc : X.calm = true) : ib X (.builtin "max") rMax2 := Aj hc
theorem xj : ib X (.type "int") rInt1 := Bj
theorem cl_len : ib X (.builtin "len") (rLen X.K) := rg
theorem jn : ib X (.type "list") (Ig X.K) := qg
end
theorem Ia : bootBuiltins "isinstance" = some (.builtin "isinstance") := by decide +kernel
theorem Rl : bootBuiltins "abs" = some (.builtin "abs") := by decide +kernel
theorem jd : bootBuiltins "len" = some (.builtin "len") := by decide +kernel
theorem ug : bootBuiltins "min" = some (.builtin "min") := by decide +kernel
theorem Ql : bootBuiltins "max" = some (.builtin "max") := by decide +kernel
theorem bt_all : bootBuiltins "all" = some (.builtin "all") := by decide +kernel
theorem Cj : bootBuiltins "int" = some (.type "int") := by decide +kernel
theorem Ej : bootBuiltins "bool" = some (.type "bool") := by decide +kernel
theorem Tg : bootBuiltins "list" = some (.type "list") := by decide +kernel
structure Up (K : PySem.W.Frag) (mg : Str -> Option Value) (x : Str) (st : Stmt) (ps : List Str) : Prop where
 ex : ∃ (f : Addr) (fd : FuncData), Fun K x x st f fd /\ mg x = some (.ref f) /\ Binds K fd ps []
structure Callee (P : Program) (w : World) (K : PySem.W.Frag) (mg : Str -> Option Value) (base : Heap) (k : Nat) (x : Str) (ps : List Str) (sp : Sp) : Prop where
 ex : ∃ (f : Addr) (fd : FuncData), FnOk P w K mg base CX0 k f fd ps sp /\ mg x = some (.ref f) /\ PySem.W.keepIn K (.ref f) = true /\ Binds K fd ps []
theorem Callee.of {P : Program} {w : World} {K : PySem.W.Frag} {mg : Str -> Option Value} {base : Heap} {x : Str} {st : Stmt} {N ps : List Str} {k : Nat} {sp : Sp} (U : Up K mg x st ps) (S : Ga N ps (ua st))
 (len : ∀ vs H Q E, sp vs H Q E -> vs.length = ps.length)
 (hbody : ∀ (f : Addr) (cdv : Value) (A : Around) (outer : List Env) (s : Shared) (H : Hp) (vs : List V) (Q : VK) (E : XK), Room k (A.deeper (envOfC x (ua st) s.heap.objs.size f cdv)) -> sp vs H Q E ->
   ∃ t, PSs (cxOf CX0 P w K mg base N x (ua st) f cdv A outer s H E).nox (za st) t /\ t { nx := fun _ H' => Q .non H', rt := Q } (start N vs) H) : Callee P w K mg base (k + 1) x ps sp := by
 obtain ⟨f, fd, F, hm, hb⟩ := U.ex
 exact ⟨f, fd, F.ok S len fun cdv A outer s H vs Q E hr h => hbody f cdv A outer s H vs Q E hr h, hm, F.kp, hb⟩
def tCl (sp : Sp) (t : TA) : TE := fun σ H Q => t σ H fun vs H1 => sp vs H1 Q E0
section
variable {X : Cx} {k : Nat} {ps : List Str} {sp : Sp} {x : Str} {p pos : Pos} {e : Expr} {es : List Expr} {t : TA}
theorem pe_c (C : Callee X.prog X.w X.K X.mg X.base k x ps sp) (hr : Room k X.A) (hg : Gl X x) (ha : PA X (e :: es) t) (hdb : (x == ("__debug__" : Str)) = false := by decide)
 (he : starEach (e :: es) X.env = (false, eval e X.env) :: starEach es X.env := by first | rfl | with_unfolding_all rfl) (hpl : (backTo pos (starEach es X.env)).any (·.1) = false := by first | rfl | with_unfolding_all rfl) : PE X (.Call (.Name x p) (e :: es) [] pos) (tCl sp t) := by
 obtain ⟨f, fd, F, hm, hk, hb⟩ := C.ex
 have h := Hm (p := p) (E := E0) F hr hg hm hk hb .nil pass0 ha hdb he hpl
 intro pins s σ H Q I q
 refine h pins s σ H Q I ?_
 unfold tCl at q
 unfold tCall
 simp only [List.append_nil]
 exact q
end
def tSeqM (t u : TS) : TS := fun D σ H => ∃ M : St -> Hp -> Prop, t { D with nx := M } σ H /\ ∀ σ' H', M σ' H' -> u D σ' H'
theorem Tf {X : Cx} {st : Stmt} {rest : List Stmt} {t u : TS} (h1 : PS X st t) (h2 : PSs X rest u) : PSs X (st :: rest) (tSeqM t u) := by
 intro pins s σ H D I h
 obtain ⟨M, ht, hu⟩ := h
 refine wpAny_execs_cons (thn (h1 pins s σ H _ I ht) fun f s1 q => ?_)
 cases f with
 | next =>
  obtain ⟨σ', H', I', m⟩ := q
  exact h2 pins s1 σ' H' D I' (hu σ' H' m)
 | brk => exact q
 | cont => exact q
 | ret u => exact q
end L2
namespace L2
open PySem PySem.Spec PyProof.Rows
section
variable {t u tb : TS} {n b c : St -> Hp -> Prop} {r : VK} {σ : St} {H : Hp} {D : Ends} {te ta tb' : TE} {tc td : TT} {g : TG} {Q : VK} {QB : Bool -> Hp -> Prop} {QA : List V -> Hp -> Prop} {QS : St -> Hp -> Prop} {i j : Nat} {v w x y : V} {tA tr : TA}
theorem r_seq (h : t ⟨u ⟨n, r, b, c⟩, r, b, c⟩ σ H) : tSeq t u ⟨n, r, b, c⟩ σ H := h
theorem Bl (M : St -> Hp -> Prop) (h : t ⟨M, r, b, c⟩ σ H) (h2 : ∀ σ' H', M σ' H' -> u ⟨n, r, b, c⟩ σ' H') : tSeqM t u ⟨n, r, b, c⟩ σ H := ⟨M, h, h2⟩
theorem r_next (h : n σ H) : tNext ⟨n, r, b, c⟩ σ H := h
theorem r_asg (h : te σ H fun x H1 => g x σ H1 n) : tAsg te g ⟨n, r, b, c⟩ σ H := h
theorem um (h : QS (σ.set i (some v)) H) : Xm i v σ H QS := h
theorem r_gsub {to ti : TE} {ts : TSet} (h : to σ H fun o H1 => ti σ H1 fun i H2 => ts o i v H2 fun H3 => QS σ H3) : gSub to ti ts v σ H QS := h
theorem r_gnil (h : QS σ H) : gNil [] σ H QS := ⟨rfl, h⟩
theorem vm {gs : TGs} {vs : List V} (h : g v σ H fun σ' H' => gs vs σ' H' QS) : gCons g gs (v :: vs) σ H QS := ⟨v, vs, rfl, h⟩
theorem r_gtup {K : PySem.W.Frag} {gs : TGs} {a : Addr} {xs : List V} {k : Nat} (h1 : H a = some (.tup xs)) (h2 : xs.length = k) (h : gs xs σ H QS) : gTup K k gs (.ref a) σ H QS := ⟨a, xs, rfl, SqT.of h1, h2, h⟩
theorem r_drop (h : te σ H fun _ H1 => n σ H1) : tDrop te ⟨n, r, b, c⟩ σ H := h
theorem r_ret (h : te σ H r) : tRet te ⟨n, r, b, c⟩ σ H := h
theorem r_ifs (h : tc σ H fun q H1 => if q = true then t D σ H1 else u D σ H1) : tIfS tc t u D σ H := h
theorem r_var (e : σ[i]? = some (some v)) (h : Q v H) : tVar i σ H Q := ⟨v, e, h⟩
theorem r_c (h : Q v H) : tC v σ H Q := h
theorem r_op {o : R2} (h : ta σ H fun x H1 => tb' σ H1 fun y H2 => o x y H2 Q) : tOp o ta tb' σ H Q := h
theorem r_un {o : V -> Hp -> VK -> Prop} (h : ta σ H fun x H1 => o x H1 Q) : tUn o ta σ H Q := h
theorem r_rU {f : Int -> V} {p : Int} (h : Q (f p) H) : rU f (.int p) H Q := ⟨p, rfl, h⟩
theorem jk {f : Int -> Int -> V} {p q : Int} (h : Q (f p q) H) : rI0 f (.int p) (.int q) H Q := ⟨p, q, rfl, rfl, h⟩
theorem r_rI {C : Int -> Int -> Prop} {f : Int -> Int -> V} {p q : Int} (hc : C p q) (h : Q (f p q) H) : rI C f (.int p) (.int q) H Q := ⟨p, q, rfl, rfl, hc, h⟩
theorem r_rEqI {p q : Int} (h : Q (.bl (decide (p = q))) H) : rEq (.int p) (.int q) H Q := ⟨rfl, by
 have e : decide (V.int p = V.int q) = decide (p = q) := by by_cases z : p = q <;> simp [z]
 rw [e]; exact h⟩
theorem r_rEqB {p q : Bool} (h : Q (.bl (p == q)) H) : rEq (.bl p) (.bl q) H Q := ⟨rfl, by
 have e : decide (V.bl p = V.bl q) = (p == q) := by cases p <;> cases q <;> rfl
 rw [e]; exact h⟩
theorem r_rEqS {p q : Str} (h : Q (.bl (decide (p = q))) H) : rEq (.str p) (.str q) H Q := ⟨rfl, by
 have e : decide (V.str p = V.str q) = decide (p = q) := by by_cases z : p = q <;> simp [z]
 rw [e]; exact h⟩
theorem r_rNeS {p q : Str} (h : Q (.bl (!decide (p = q))) H) : rNe (.str p) (.str q) H Q := ⟨rfl, by
 have e : decide (V.str p = V.str q) = decide (p = q) := by by_cases z : p = q <;> simp [z]
 rw [e]; exact h⟩
theorem r_test (h : te σ H fun x H' => ∃ k, x = .bl k /\ QB k H') : tTest te σ H QB := h
theorem r_bl {k : Bool} {P : Bool -> Prop} (h : P k) : ∃ k', V.bl k = .bl k' /\ P k' := ⟨k, rfl, h⟩
theorem r_and (h : tc σ H fun q H1 => if q = true then td σ H1 QB else QB false H1) : tAnd tc td σ H QB := h
theorem r_or (h : tc σ H fun q H1 => if q = true then QB true H1 else td σ H1 QB) : tOr tc td σ H QB := h
theorem r_not (h : tc σ H fun q H1 => QB (!q) H1) : tNot tc σ H QB := h
theorem r_andV (h : ta σ H fun x H1 => ∃ q, x = .bl q /\ if q = true then tb' σ H1 Q else Q (.bl false) H1) : tAndV ta tb' σ H Q := h
theorem r_orV (h : ta σ H fun x H1 => ∃ q, x = .bl q /\ if q = true then Q (.bl true) H1 else tb' σ H1 Q) : tOrV ta tb' σ H Q := h
theorem r_notV (h : ta σ H fun x H1 => ∃ q, x = .bl q /\ Q (.bl (!q)) H1) : tNotV ta σ H Q := h
theorem r_nil (h : QA [] H) : tNil σ H QA := h
theorem r_cons (h : te σ H fun x H1 => tr σ H1 fun xs H2 => QA (x :: xs) H2) : tCons te tr σ H QA := h
theorem r_tup (h : tA σ H fun xs H1 => xs.length <= sizeLine /\ ∀ p, H1 p = none -> Q (.ref p) (upd H1 p (.tup xs))) : tTup tA σ H Q := h
theorem r_lst (h : tA σ H fun xs H1 => xs.length <= sizeLine /\ ∀ p, H1 p = none -> Q (.ref p) (upd H1 p (.lst xs))) : tLst tA σ H Q := h
theorem r_cb {o : List V -> Hp -> VK -> Prop} (h : tA σ H fun vs H1 => o vs H1 Q) : tCB o tA σ H Q := h
theorem r_cl {sp : Sp} (h : tA σ H fun vs H1 => sp vs H1 Q E0) : tCl sp tA σ H Q := h
theorem r_abs {p : Int} (h : Q (.int (if p < 0 then -p else p)) H) : rAbs [.int p] H Q := ⟨p, rfl, h⟩
theorem r_min2 {p q : Int} (h : Q (.int (if q < p then q else p)) H) : rMin2 [.int p, .int q] H Q := ⟨p, q, rfl, h⟩
theorem r_max2 {p q : Int} (h : Q (.int (if q > p then q else p)) H) : rMax2 [.int p, .int q] H Q := ⟨p, q, rfl, h⟩
theorem tm {k : Bool} (h : Q (.int (if k then 1 else 0)) H) : rInt1 [.bl k] H Q := .inr ⟨k, rfl, h⟩
theorem r_isi {K : PySem.W.Frag} {s : String} {ty : Value} {k : Bool} (h1 : TyOf K H x ty) (h2 : PySem.W.kitOne K ty (.type s) = some k) (h : Q (.bl k) H) : rIsi K [x, .ty s] H Q := ⟨x, s, ty, k, rfl, h1, h2, h⟩
theorem r_lenL {K : PySem.W.Frag} {p : Addr} {xs : List V} (h1 : H p = some (.lst xs)) (h : Q (.int xs.length) H) : rLen K [.ref p] H Q := ⟨p, xs, rfl, .inl (SqL.of h1), h⟩
theorem r_lenT {K : PySem.W.Frag} {p : Addr} {xs : List V} (h1 : H p = some (.tup xs)) (h : Q (.int xs.length) H) : rLen K [.ref p] H Q := ⟨p, xs, rfl, .inr (SqT.of h1), h⟩
theorem Hg {K : PySem.W.Frag} {p : Addr} {xs : List V} (h1 : SqL K H p xs) (h : ∀ l, H l = none -> Q (.ref l) (upd H l (.lst xs))) : Ig K [.ref p] H Q := ⟨p, xs, rfl, .inl h1, h⟩
theorem r_ixL {K : PySem.W.Frag} {p : Addr} {xs : List V} {k : Int} (h1 : H p = some (.lst xs)) (h2 : atI xs k = some v) (h : Q v H) : rIxL K (.ref p) (.int k) H Q := ⟨p, xs, k, v, rfl, rfl, SqL.of h1, h2, h⟩
theorem r_ixT {K : PySem.W.Frag} {p : Addr} {xs : List V} {k : Int} (h1 : H p = some (.tup xs)) (h2 : atI xs k = some v) (h : Q v H) : rIxT K (.ref p) (.int k) H Q := ⟨p, xs, k, v, rfl, rfl, SqT.of h1, h2, h⟩
theorem r_setL {p : Addr} {xs : List V} {k : Int} {QH : Hp -> Prop} {m : Nat} (h1 : H p = some (.lst xs)) (h2 : ixN xs.length k = some m) (h : QH (upd H p (.lst (xs.set m v)))) : rSetL (.ref p) (.int k) v H QH := ⟨p, xs, k, m, rfl, rfl, h1, h2, h⟩
theorem r_bmL {K : PySem.W.Frag} {o : V -> List V -> Hp -> VK -> Prop} (h : te σ H fun x H1 => tyV K "list" x H1 /\ tA σ H1 fun xs H2 => o x xs H2 Q) : tBM K "list" o te tA σ H Q := h
theorem r_tyL {K : PySem.W.Frag} {p : Addr} {xs : List V} {R : Prop} (h1 : H p = some (.lst xs)) (h : R) : tyV K "list" (.ref p) H /\ R := ⟨.inl ⟨rfl, _, SqL.of h1⟩, h⟩
theorem cf {p : Addr} {xs : List V} (h1 : H p = some (.lst xs)) (h2 : xs.length < sizeLine) (h : Q .non (upd H p (.lst (xs ++ [y])))) : Qi (.ref p) [y] H Q := ⟨p, xs, y, rfl, rfl, h1, h2, h⟩
theorem va {p A B : Prop} [Decidable p] (h1 : p -> A) (h2 : ¬ p -> B) : if decide p = true then A else B := ite2 (fun z => h1 (of_decide_eq_true z)) fun z => h2 fun y => z (decide_eq_true y)
theorem Rf {p A B : Prop} [Decidable p] (h1 : ¬ p -> A) (h2 : p -> B) : if (!decide p) = true then A else B := by
 by_cases z : p
 . rw [decide_eq_true z]; exact iteF (h2 z)
 . rw [decide_eq_false z]; exact iteT (h1 z)
theorem rm {A B : Prop} (h : B) : if (!true) = true then A else B := iteF h
theorem sm {A B : Prop} (h : A) : if (!false) = true then A else B := iteT h
theorem jm {n : Nat} {R : Prop} (h1 : n <= sizeLine) (h : R) : n <= sizeLine /\ R := ⟨h1, h⟩
end
def ForR (vs : List V) (g : TG) (tb : TS) (D : Ends) (σ : St) (H : Hp) : Prop := ∃ j : Int, vs = [.int j] /\ -(2 ^ 62) <= j /\ j < 2 ^ 62 /\
 ∃ W : Nat -> Nat -> St -> Hp -> Prop, (∃ m, W 0 m σ H) /\ ∀ i m σ H, W i m σ H ->
  ((Itr 0 j.toNat).stop i H /\ D.nx σ H) \/ ((Itr 0 j.toNat).go i H /\ ∃ N : St -> Hp -> Prop, (∀ σ' H', N σ' H' -> ∃ m', m' < m /\ W (i + 1) m' σ' H') /\ ∀ x H', (Itr 0 j.toNat).yld i H x H' -> g x σ H' fun σ2 H2 => tb { D with nx := N, ct := N, bk := D.nx } σ2 H2)
theorem r_forR {tA : TA} {g : TG} {tb : TS} {D : Ends} {σ : St} {H : Hp} (h : tA σ H fun vs H1 => ForR vs g tb D σ H1) : tFor (iRng1 tA) g tb D σ H := h
theorem forR {j : Int} {g : TG} {tb : TS} {n b c : St -> Hp -> Prop} {r : VK} {σ : St} {H : Hp} (Pv : Nat -> St -> Hp -> Prop) (h1 : -(2 ^ 62) <= j) (h2 : j < 2 ^ 62) (h0 : Pv 0 σ H)
 (hs : ∀ (i : Nat) σ H, (i : Int) < j -> Pv i σ H -> g (.int (i : Int)) σ H fun σ2 H2 => tb ⟨Pv (i + 1), r, n, Pv (i + 1)⟩ σ2 H2) (hd : ∀ σ H, Pv j.toNat σ H -> n σ H) : ForR [.int j] g tb ⟨n, r, b, c⟩ σ H := by
 refine ⟨j, rfl, h1, h2, ?_⟩
 refine qj (lo := 0) (n := j.toNat) (D := ⟨n, r, b, c⟩) Pv h0 (fun i σ H hi p => ?_) hd
 rw [Int.zero_add]
 exact hs i σ H (by omega) p
def ForL (K : PySem.W.Frag) (x : V) (g : TG) (tb : TS) (D : Ends) (σ : St) (H : Hp) : Prop := ∃ a, x = .ref a /\ (∃ xs, SqL K H a xs) /\
 ∃ W : Nat -> Nat -> St -> Hp -> Prop, (∃ m, W 0 m σ H) /\ ∀ i m σ H, W i m σ H ->
  ((Itl K a).stop i H /\ D.nx σ H) \/ ((Itl K a).go i H /\ ∃ N : St -> Hp -> Prop, (∀ σ' H', N σ' H' -> ∃ m', m' < m /\ W (i + 1) m' σ' H') /\ ∀ x H', (Itl K a).yld i H x H' -> g x σ H' fun σ2 H2 => tb { D with nx := N, ct := N, bk := D.nx } σ2 H2)
theorem r_forL {K : PySem.W.Frag} {te : TE} {g : TG} {tb : TS} {D : Ends} {σ : St} {H : Hp} (h : te σ H fun x H1 => ForL K x g tb D σ H1) : tFor (Nk K te) g tb D σ H := h
def ForT (K : PySem.W.Frag) (x : V) (g : TG) (tb : TS) (D : Ends) (σ : St) (H : Hp) : Prop := ∃ a, x = .ref a /\ (∃ xs, SqT K H a xs) /\
 ∃ W : Nat -> Nat -> St -> Hp -> Prop, (∃ m, W 0 m σ H) /\ ∀ i m σ H, W i m σ H ->
  ((Itt K a).stop i H /\ D.nx σ H) \/ ((Itt K a).go i H /\ ∃ N : St -> Hp -> Prop, (∀ σ' H', N σ' H' -> ∃ m', m' < m /\ W (i + 1) m' σ' H') /\ ∀ x H', (Itt K a).yld i H x H' -> g x σ H' fun σ2 H2 => tb { D with nx := N, ct := N, bk := D.nx } σ2 H2)
theorem r_forT {K : PySem.W.Frag} {te : TE} {g : TG} {tb : TS} {D : Ends} {σ : St} {H : Hp} (h : te σ H fun x H1 => ForT K x g tb D σ H1) : tFor (iTup K te) g tb D σ H := h
theorem forT {K : PySem.W.Frag} {a : Addr} {xs : List V} {g : TG} {tb : TS} {n b c : St -> Hp -> Prop} {r : VK} {σ : St} {H : Hp} (Pv : Nat -> St -> Hp -> Prop) (h0 : Pv 0 σ H) (hl : ∀ i σ H, i <= xs.length -> Pv i σ H -> SqT K H a xs)
 (hs : ∀ i x σ H, xs[i]? = some x -> Pv i σ H -> g x σ H fun σ2 H2 => tb ⟨Pv (i + 1), r, n, Pv (i + 1)⟩ σ2 H2) (hd : ∀ σ H, Pv xs.length σ H -> n σ H) : ForT K (.ref a) g tb ⟨n, r, b, c⟩ σ H :=
 ⟨a, rfl, ⟨xs, hl 0 σ H (Nat.zero_le _) h0⟩, Ym (D := ⟨n, r, b, c⟩) Pv h0 hl hs hd⟩
def Fr1 (d : Addr) (H H' : Hp) : Prop := ∀ b o, H b = some o -> b ≠ d -> H' b = some o
theorem Fr1.refl (d : Addr) (H : Hp) : Fr1 d H H := fun _ _ h _ => h
theorem Fr1.trans {d : Addr} {H H1 H2 : Hp} (a : Fr1 d H H1) (b : Fr1 d H1 H2) : Fr1 d H H2 := fun c o h n => b c o (a c o h n) n
theorem Fr1.upd {d : Addr} {H H' : Hp} {o : HO} (a : Fr1 d H H') : Fr1 d H (upd H' d o) := fun b u h n => by rw [wa n]; exact a b u h n
theorem Fr1.new {d p : Addr} {H H' : Hp} {o : HO} (a : Fr1 d H H') (e : H' p = none) : Fr1 d H (L2.upd H' p o) := fun b u h n => by rw [wa (ka (a b u h n) e)]; exact a b u h n
theorem Fr1.get {d b : Addr} {H H' : Hp} {o : HO} (a : Fr1 d H H') (h : H b = some o) (n : b ≠ d) : H' b = some o := a b o h n
theorem Same.new {H H' : Hp} {p : Addr} {o : HO} (a : Same H H') (e : H' p = none) : Same H (upd H' p o) := fun b u h => by rw [wa (ka (a b u h) e)]; exact a b u h
theorem yb {H : Hp} {a b : Addr} {o u : HO} (n : b ≠ a) (h : H b = some u) : upd H a o b = some u := by rw [wa n]; exact h
end L2
namespace L2
open PySem PySem.Spec PyProof.Rows
inductive D where
 | v (x : V)
 | t (ds : List D)
 | l (ds : List D)
mutual
def IsD (K : PySem.W.Frag) (H : Hp) : D -> V -> Prop
 | .v x, y => md x = true /\ y = x
 | .t ds, y => ∃ p xs, y = .ref p /\ SqT K H p xs /\ IsDs K H ds xs
 | .l ds, y => ∃ p xs, y = .ref p /\ SqL K H p xs /\ IsDs K H ds xs
def IsDs (K : PySem.W.Frag) (H : Hp) : List D -> List V -> Prop
 | [], xs => xs = []
 | d :: ds, xs => ∃ x r, xs = x :: r /\ IsD K H d x /\ IsDs K H ds r
end
mutual
def eqD : D -> D -> Bool
 | .v a, .v b => eqV a b
 | .t as, .t bs => eqDs as bs
 | .l as, .l bs => eqDs as bs
 | _, _ => false
def eqDs : List D -> List D -> Bool
 | [], [] => true
 | a :: as, b :: bs => eqD a b && eqDs as bs
 | _, _ => false
end
mutual
def dep : D -> Nat
 | .v _ => 0
 | .t ds => deps ds + 1
 | .l ds => deps ds + 1
def deps : List D -> Nat
 | [] => 0
 | d :: ds => max (dep d) (deps ds)
end
theorem IsDs.length {K : PySem.W.Frag} {H : Hp} : ∀ {ds : List D} {xs : List V}, IsDs K H ds xs -> ds.length = xs.length
 | [], xs, h => by unfold IsDs at h; subst h; rfl
 | d :: ds, xs, h => by
  unfold IsDs at h
  obtain ⟨x, r, rfl, _, h2⟩ := h
  rw [List.length_cons, List.length_cons, IsDs.length h2]
theorem IsDs.get {K : PySem.W.Frag} {H : Hp} : ∀ {ds : List D} {xs : List V} {j : Nat} {x : V}, IsDs K H ds xs -> xs[j]? = some x -> ∃ d, ds[j]? = some d /\ IsD K H d x
 | [], xs, j, x, h, e => by unfold IsDs at h; subst h; simp at e
 | d :: ds, xs, j, x, h, e => by
  unfold IsDs at h
  obtain ⟨y, r, rfl, h1, h2⟩ := h
  cases j with
  | zero => simp at e; subst e; exact ⟨d, by simp, h1⟩
  | succ j => obtain ⟨d', q, h3⟩ := IsDs.get (j := j) (x := x) h2 (by simpa using e); exact ⟨d', by simpa using q, h3⟩
theorem Qd : ∀ {ds : List D} {j : Nat} {d : D}, ds[j]? = some d -> dep d <= deps ds
 | [], j, d, e => by simp at e
 | a :: ds, 0, d, e => by simp at e; subst e; unfold deps; exact Nat.le_max_left _ _
 | a :: ds, j + 1, d, e => by
  have := Qd (ds := ds) (j := j) (d := d) (by simpa using e)
  unfold deps
  exact Nat.le_trans this (Nat.le_max_right _ _)
def ng (ds es : List D) (j : Nat) : Bool := match ds[j]?, es[j]? with
 | some d, some e => eqD d e
 | _, _ => false
theorem Tc : ∀ (ds es : List D), ds.length = es.length -> (List.range ds.length).all (ng ds es) = eqDs ds es
 | [], [], _ => by simp [eqDs]
 | [], _ :: _, h => by simp at h
 | _ :: _, [], h => by simp at h
 | d :: ds, e :: es, h => by
  have ih := Tc ds es (by simpa using h)
  unfold eqDs
  rw [<- ih, List.length_cons, List.range_succ_eq_map, List.all_cons, List.all_map]
  have e1 : ng (d :: ds) (e :: es) 0 = eqD d e := by simp [ng]
  rw [e1]
  congr 1
theorem pf : ∀ (ds es : List D), ds.length ≠ es.length -> eqDs ds es = false
 | [], [], h => absurd rfl h
 | [], _ :: _, _ => by simp [eqDs]
 | _ :: _, [], _ => by simp [eqDs]
 | d :: ds, e :: es, h => by
  unfold eqDs
  rw [pf ds es (by simpa using h), Bool.and_false]
theorem Uk {x : V} (h : md x = true) : eqV x x = true := by
 cases x <;> simp [eqV] <;> cases h
mutual
theorem Vk {K : PySem.W.Frag} {H : Hp} : ∀ {d : D} {x : V}, IsD K H d x -> eqD d d = true
 | .v y, x, h => by unfold IsD at h; unfold eqD; exact Uk h.1
 | .t ds, x, h => by unfold IsD at h; obtain ⟨p, xs, _, _, h⟩ := h; unfold eqD; exact Ya h
 | .l ds, x, h => by unfold IsD at h; obtain ⟨p, xs, _, _, h⟩ := h; unfold eqD; exact Ya h
theorem Ya {K : PySem.W.Frag} {H : Hp} : ∀ {ds : List D} {xs : List V}, IsDs K H ds xs -> eqDs ds ds = true
 | [], _, _ => by unfold eqDs; rfl
 | d :: ds, xs, h => by
  unfold IsDs at h
  obtain ⟨x, r, _, h1, h2⟩ := h
  unfold eqDs
  rw [Vk h1, Ya h2]; rfl
end
section
variable {X : Cx} {pins : List (Addr × Obj)} {σ : St} {H : Hp} {s : Shared}
theorem Yb {a : Addr} {xs ys : List V} (I : Inv X pins σ H s) (h : SqL X.K H a xs) (h' : SqT X.K H a ys) : False := by
 obtain ⟨_, _, ⟨o, n, e, c, _⟩, _⟩ := I.list h
 obtain ⟨_, _, ⟨o', e', c', _⟩, _⟩ := I.tuple h'
 rw [e] at e'; cases e'
 rw [c] at c'
 injection c' with c'
 exact absurd c' (by decide)
mutual
theorem Og (I : Inv X pins σ H s) : ∀ {d e : D} {x : V}, IsD X.K H d x -> IsD X.K H e x -> d = e
 | .v y, e, x, h, h' => by
  unfold IsD at h
  obtain ⟨f, rfl⟩ := h
  cases e with
  | v z => unfold IsD at h'; rw [h'.2]
  | t es => unfold IsD at h'; obtain ⟨p, _, rfl, _⟩ := h'; cases f
  | l es => unfold IsD at h'; obtain ⟨p, _, rfl, _⟩ := h'; cases f
 | .t ds, e, x, h, h' => by
  unfold IsD at h
  obtain ⟨p, xs, rfl, hs, hd⟩ := h
  cases e with
  | v z => unfold IsD at h'; obtain ⟨f, q⟩ := h'; subst q; cases f
  | t es =>
   unfold IsD at h'
   obtain ⟨p', xs', q, hs', hd'⟩ := h'
   cases q
   have := I.Cf hs hs'
   subst this
   rw [jf I hd hd']
  | l es =>
   unfold IsD at h'
   obtain ⟨p', xs', q, hs', hd'⟩ := h'
   cases q
   exact (Yb I hs' hs).elim
 | .l ds, e, x, h, h' => by
  unfold IsD at h
  obtain ⟨p, xs, rfl, hs, hd⟩ := h
  cases e with
  | v z => unfold IsD at h'; obtain ⟨f, q⟩ := h'; subst q; cases f
  | t es =>
   unfold IsD at h'
   obtain ⟨p', xs', q, hs', hd'⟩ := h'
   cases q
   exact (Yb I hs hs').elim
  | l es =>
   unfold IsD at h'
   obtain ⟨p', xs', q, hs', hd'⟩ := h'
   cases q
   have := I.lh hs hs'
   subst this
   rw [jf I hd hd']
theorem jf (I : Inv X pins σ H s) : ∀ {ds es : List D} {xs : List V}, IsDs X.K H ds xs -> IsDs X.K H es xs -> ds = es
 | [], es, xs, h, h' => by
  unfold IsDs at h
  subst h
  cases es with
  | nil => rfl
  | cons e es => unfold IsDs at h'; obtain ⟨x, r, q, _⟩ := h'; cases q
 | d :: ds, es, xs, h, h' => by
  unfold IsDs at h
  obtain ⟨x, r, rfl, h1, h2⟩ := h
  cases es with
  | nil => unfold IsDs at h'; cases h'
  | cons e es =>
   unfold IsDs at h'
   obtain ⟨x', r', q, h3, h4⟩ := h'
   cases q
   rw [Og I h1 h3, jf I h2 h4]
end
theorem nh {A : Around} {ds es : List D} {xs ys : List V} {us vs : List Value} (hd : IsDs X.K H ds xs) (he : IsDs X.K H es ys) (rx : Vals xs us) (ry : Vals ys vs)
 (ih : ∀ d e x y u v, dep d <= deps ds -> IsD X.K H d x -> IsD X.K H e y -> RelV x u -> RelV y v -> SeqAt.EqAt A s u v (eqD d e)) :
 ∀ j (h1 : j < us.toArray.size) (h2 : j < vs.toArray.size), SeqAt.EqAt A s us.toArray[j] vs.toArray[j] (ng ds es j) := by
 intro j h1 h2
 have h1' : j < us.length := by simpa using h1
 have h2' : j < vs.length := by simpa using h2
 obtain ⟨x, ex⟩ : ∃ x, xs[j]? = some x := ⟨xs[j]'(by rw [rx.length]; exact h1'), List.getElem?_eq_getElem _⟩
 obtain ⟨y, ey⟩ : ∃ y, ys[j]? = some y := ⟨ys[j]'(by rw [ry.length]; exact h2'), List.getElem?_eq_getElem _⟩
 obtain ⟨u, eu, ru⟩ := rx.get ex
 obtain ⟨v, ev, rv⟩ := ry.get ey
 obtain ⟨d, ed, id1⟩ := hd.get ex
 obtain ⟨e, ee, id2⟩ := he.get ey
 have q1 : us.toArray[j] = u := by
  rw [List.getElem?_eq_getElem h1'] at eu
  simpa using Option.some.inj eu
 have q2 : vs.toArray[j] = v := by
  rw [List.getElem?_eq_getElem h2'] at ev
  simpa using Option.some.inj ev
 rw [q1, q2]
 have q3 : ng ds es j = eqD d e := by unfold ng; rw [ed, ee]
 rw [q3]
 exact ih d e x y u v (Qd ed) id1 id2 ru rv
theorem fh {A : Around} {ds es : List D} {xs ys : List V} {p q : Addr} (I : Inv X pins σ H s) (hp : SqL X.K H p xs) (hq : SqL X.K H q ys) (hd : IsDs X.K H ds xs) (he : IsDs X.K H es ys) (hu : A.units < cLine)
 (ih : ∀ d e x y u v, dep d <= deps ds -> IsD X.K H d x -> IsD X.K H e y -> RelV x u -> RelV y v -> SeqAt.EqAt A.in1 s u v (eqD d e)) : SeqAt.RcAt A s (.ref p) (.ref q) (eqDs ds es) /\ SeqAt.RcNeAt A s (.ref p) (.ref q) (!eqDs ds es) := by
 obtain ⟨us, rx, lp, _⟩ := I.list hp
 obtain ⟨vs, ry, lq, _⟩ := I.list hq
 have l1 := hd.length
 have l2 := he.length
 have l3 := rx.length
 have l4 := ry.length
 by_cases hl : ds.length = es.length
 . have it := nh (A := A.in1) hd he rx ry ih
   have sz : us.toArray.size = vs.toArray.size := by simp only [List.size_toArray]; omega
   have e1 : (List.range us.toArray.size).all (ng ds es) = eqDs ds es := by
    have : us.toArray.size = ds.length := by simp only [List.size_toArray]; omega
    rw [this]; exact Tc ds es hl
   have a := SeqAt.RcAt.lists lp.isList lq.isList sz hu it
   have b := SeqAt.RcNeAt.lists lp.isList lq.isList sz hu it
   rw [e1] at a b
   exact ⟨a, b⟩
 . have sz : (us.toArray.size != vs.toArray.size) = true := by
    simp only [List.size_toArray, bne_iff_ne, ne_eq]; omega
   rw [pf ds es hl]
   exact ⟨SeqAt.RcAt.lists_lengths lp.isList lq.isList sz hu, SeqAt.RcNeAt.lists_lengths lp.isList lq.isList sz hu⟩
theorem Pf {A : Around} {ds es : List D} {xs ys : List V} {p q : Addr} (I : Inv X pins σ H s) (hp : SqT X.K H p xs) (hq : SqT X.K H q ys) (hd : IsDs X.K H ds xs) (he : IsDs X.K H es ys) (hu : A.units < cLine)
 (ih : ∀ d e x y u v, dep d <= deps ds -> IsD X.K H d x -> IsD X.K H e y -> RelV x u -> RelV y v -> SeqAt.EqAt A.in1 s u v (eqD d e)) : SeqAt.RcAt A s (.ref p) (.ref q) (eqDs ds es) /\ SeqAt.RcNeAt A s (.ref p) (.ref q) (!eqDs ds es) := by
 obtain ⟨us, rx, lp, _⟩ := I.tuple hp
 obtain ⟨vs, ry, lq, _⟩ := I.tuple hq
 have l1 := hd.length
 have l2 := he.length
 have l3 := rx.length
 have l4 := ry.length
 have it := nh (A := A.in1) hd he rx ry ih
 have a := SeqAt.RcAt.tuples (A := A) (s := s) lp lq hu it
 have b := SeqAt.RcNeAt.tuples (A := A) (s := s) lp lq hu it
 have e1 : ((List.range (min us.toArray.size vs.toArray.size)).all (ng ds es) && us.toArray.size == vs.toArray.size) = eqDs ds es := by
  by_cases hl : ds.length = es.length
  . have q1 : min us.toArray.size vs.toArray.size = ds.length := by simp only [List.size_toArray]; omega
    have q2 : (us.toArray.size == vs.toArray.size) = true := by simp only [List.size_toArray, beq_iff_eq]; omega
    rw [q1, q2, Bool.and_true]
    exact Tc ds es hl
  . have q2 : (us.toArray.size == vs.toArray.size) = false := by simp only [List.size_toArray, beq_eq_false_iff_ne, ne_eq]; omega
    rw [q2, Bool.and_false, pf ds es hl]
 rw [e1] at a b
 exact ⟨a, b⟩
theorem fm {A : Around} {y x : V} {u v : Value} (ry : RelV y u) (rx : RelV x v) (fy : md y = true) (fx : md x = true) : SeqAt.RcAt A s u v (eqV y x) /\ SeqAt.RcNeAt A s u v (!eqV y x) := by
 cases y with
 | non =>
  cases ry
  cases x with
  | non => cases rx; exact ⟨SeqAt.RcAt.none_none, SeqAt.RcNeAt.none_none⟩
  | bl b => cases rx; exact ⟨SeqAt.RcAt.none_bool b, SeqAt.RcNeAt.none_bool b⟩
  | int b => obtain ⟨t, rfl⟩ := rx; exact ⟨SeqAt.RcAt.none_int b t, SeqAt.RcNeAt.none_int b t⟩
  | str b => obtain ⟨t, rfl⟩ := rx; exact ⟨SeqAt.RcAt.none_str b t, SeqAt.RcNeAt.none_str b t⟩
  | _ => exact absurd (show false = true from fx) Bool.false_ne_true
 | bl a =>
  cases ry
  cases x with
  | non => cases rx; exact ⟨SeqAt.RcAt.bool_none a, SeqAt.RcNeAt.bool_none a⟩
  | bl b => cases rx; exact ⟨SeqAt.RcAt.bool_bool a b, SeqAt.RcNeAt.bool_bool a b⟩
  | int b => obtain ⟨t, rfl⟩ := rx; exact ⟨SeqAt.RcAt.bool_int a b t, SeqAt.RcNeAt.bool_int a b t⟩
  | str b => obtain ⟨t, rfl⟩ := rx; exact ⟨SeqAt.RcAt.bool_str a b t, SeqAt.RcNeAt.bool_str a b t⟩
  | _ => exact absurd (show false = true from fx) Bool.false_ne_true
 | int a =>
  obtain ⟨t', rfl⟩ := ry
  cases x with
  | non => cases rx; exact ⟨SeqAt.RcAt.int_none a t', SeqAt.RcNeAt.int_none a t'⟩
  | bl b => cases rx; exact ⟨SeqAt.RcAt.int_bool a t' b, SeqAt.RcNeAt.int_bool a t' b⟩
  | int b => obtain ⟨t, rfl⟩ := rx; exact ⟨SeqAt.RcAt.int_int a t' b t, SeqAt.RcNeAt.int_int a t' b t⟩
  | str b => obtain ⟨t, rfl⟩ := rx; exact ⟨SeqAt.RcAt.int_str a t' b t, SeqAt.RcNeAt.int_str a t' b t⟩
  | _ => exact absurd (show false = true from fx) Bool.false_ne_true
 | str a =>
  obtain ⟨t', rfl⟩ := ry
  cases x with
  | non => cases rx; exact ⟨SeqAt.RcAt.str_none a t', SeqAt.RcNeAt.str_none a t'⟩
  | bl b => cases rx; exact ⟨SeqAt.RcAt.str_bool a t' b, SeqAt.RcNeAt.str_bool a t' b⟩
  | int b => obtain ⟨t, rfl⟩ := rx; exact ⟨SeqAt.RcAt.str_int a t' b t, SeqAt.RcNeAt.str_int a t' b t⟩
  | str b => obtain ⟨t, rfl⟩ := rx; exact ⟨SeqAt.RcAt.str_str a t' b t, SeqAt.RcNeAt.str_str a t' b t⟩
  | _ => exact absurd (show false = true from fx) Bool.false_ne_true
 | _ => exact absurd (show false = true from fy) Bool.false_ne_true
theorem Fb {A : Around} {p : Addr} {xs : List V} {x : V} {v : Value} (I : Inv X pins σ H s) (hp : SqT X.K H p xs) (rx : RelV x v) (fx : md x = true) (hu : A.units < cLine) : SeqAt.EqAt A s (.ref p) v false /\ SeqAt.EqAt A s v (.ref p) false := by
 obtain ⟨us, _, lp, _⟩ := I.tuple hp
 cases x with
 | non => cases rx; exact ⟨SeqAt.EqAt.tuple_none lp hu, SeqAt.EqAt.none_tuple lp hu⟩
 | bl b => cases rx; exact ⟨SeqAt.EqAt.tuple_bool b lp hu, SeqAt.EqAt.bool_tuple b lp hu⟩
 | int b => obtain ⟨t, rfl⟩ := rx; exact ⟨SeqAt.EqAt.tuple_int b t lp hu, SeqAt.EqAt.int_tuple b t lp hu⟩
 | str b => obtain ⟨t, rfl⟩ := rx; exact ⟨SeqAt.EqAt.tuple_str b t lp hu, SeqAt.EqAt.str_tuple b t lp hu⟩
 | _ => exact absurd (show false = true from fx) Bool.false_ne_true
theorem Qb {A : Around} {p : Addr} {xs : List V} {x : V} {v : Value} (I : Inv X pins σ H s) (hp : SqL X.K H p xs) (rx : RelV x v) (fx : md x = true) (hu : A.units < cLine) : SeqAt.EqAt A s (.ref p) v false /\ SeqAt.EqAt A s v (.ref p) false := by
 obtain ⟨us, _, lp, _⟩ := I.list hp
 cases x with
 | non => cases rx; exact ⟨SeqAt.EqAt.list_none lp.isList hu, SeqAt.EqAt.none_list lp.isList hu⟩
 | bl b => cases rx; exact ⟨SeqAt.EqAt.list_bool b lp.isList hu, SeqAt.EqAt.bool_list b lp.isList hu⟩
 | int b => obtain ⟨t, rfl⟩ := rx; exact ⟨SeqAt.EqAt.list_int b t lp.isList hu, SeqAt.EqAt.int_list b t lp.isList hu⟩
 | str b => obtain ⟨t, rfl⟩ := rx; exact ⟨SeqAt.EqAt.list_str b t lp.isList hu, SeqAt.EqAt.str_list b t lp.isList hu⟩
 | _ => exact absurd (show false = true from fx) Bool.false_ne_true
theorem Nl (I : Inv X pins σ H s) : ∀ (n : Nat) (d e : D) (x y : V) (u v : Value) (A : Around), dep d <= n -> A.units + n < cLine -> IsD X.K H d x -> IsD X.K H e y -> RelV x u -> RelV y v -> SeqAt.EqAt A s u v (eqD d e) := by
 intro n
 induction n with
 | zero =>
  intro d e x y u v A hn hu h h' ru rv
  cases d with
  | t ds => unfold dep at hn; omega
  | l ds => unfold dep at hn; omega
  | v x' =>
   unfold IsD at h
   obtain ⟨fx, rfl⟩ := h
   cases e with
   | v y' => unfold IsD at h'; obtain ⟨fy, rfl⟩ := h'; unfold eqD; exact Ml ru rv fx fy
   | t es => unfold IsD at h'; obtain ⟨p, ys, rfl, hs, _⟩ := h'; cases rv; unfold eqD; exact (Fb I hs ru fx (by omega)).2
   | l es => unfold IsD at h'; obtain ⟨p, ys, rfl, hs, _⟩ := h'; cases rv; unfold eqD; exact (Qb I hs ru fx (by omega)).2
 | succ n ihn =>
  intro d e x y u v A hn hu h h' ru rv
  have hin : A.in1.units = A.units + 1 := rfl
  cases d with
  | v x' =>
   unfold IsD at h
   obtain ⟨fx, rfl⟩ := h
   cases e with
   | v y' => unfold IsD at h'; obtain ⟨fy, rfl⟩ := h'; unfold eqD; exact Ml ru rv fx fy
   | t es => unfold IsD at h'; obtain ⟨p, ys, rfl, hs, _⟩ := h'; cases rv; unfold eqD; exact (Fb I hs ru fx (by omega)).2
   | l es => unfold IsD at h'; obtain ⟨p, ys, rfl, hs, _⟩ := h'; cases rv; unfold eqD; exact (Qb I hs ru fx (by omega)).2
  | t ds =>
   have hd0 := h
   unfold IsD at h
   obtain ⟨p, xs, rfl, hs, hd⟩ := h
   cases ru
   unfold dep at hn
   cases e with
   | v y' => unfold IsD at h'; obtain ⟨fy, rfl⟩ := h'; unfold eqD; exact (Fb I hs rv fy (by omega)).1
   | t es =>
    have hd0' := h'
    unfold IsD at h'
    obtain ⟨q, ys, rfl, hs', hd'⟩ := h'
    cases rv
    unfold eqD
    by_cases hpq : p = q
    . subst hpq
      have e1 := Og I hd0 hd0'
      injection e1 with e1
      subst e1
      rw [Ya hd]
      exact SeqAt.EqAt.same _
    . exact .of_refs hpq (Pf I hs hs' hd hd' (by omega) fun d e x y u v hj h1 h2 r1 r2 => ihn d e x y u v A.in1 (by omega) (by omega) h1 h2 r1 r2).1
   | l es =>
    unfold IsD at h'
    obtain ⟨q, ys, rfl, hs', hd'⟩ := h'
    cases rv
    unfold eqD
    obtain ⟨_, _, lp, _⟩ := I.tuple hs
    obtain ⟨_, _, lq, _⟩ := I.list hs'
    exact SeqAt.EqAt.tuple_list lp lq.isList (by omega)
  | l ds =>
   have hd0 := h
   unfold IsD at h
   obtain ⟨p, xs, rfl, hs, hd⟩ := h
   cases ru
   unfold dep at hn
   cases e with
   | v y' => unfold IsD at h'; obtain ⟨fy, rfl⟩ := h'; unfold eqD; exact (Qb I hs rv fy (by omega)).1
   | l es =>
    have hd0' := h'
    unfold IsD at h'
    obtain ⟨q, ys, rfl, hs', hd'⟩ := h'
    cases rv
    unfold eqD
    by_cases hpq : p = q
    . subst hpq
      have e1 := Og I hd0 hd0'
      injection e1 with e1
      subst e1
      rw [Ya hd]
      exact SeqAt.EqAt.same _
    . exact .of_refs hpq (fh I hs hs' hd hd' (by omega) fun d e x y u v hj h1 h2 r1 r2 => ihn d e x y u v A.in1 (by omega) (by omega) h1 h2 r1 r2).1
   | t es =>
    unfold IsD at h'
    obtain ⟨q, ys, rfl, hs', hd'⟩ := h'
    cases rv
    unfold eqD
    obtain ⟨_, _, lp, _⟩ := I.list hs
    obtain ⟨_, _, lq, _⟩ := I.tuple hs'
    exact SeqAt.EqAt.list_tuple lp.isList lq (by omega)
def Zj : D -> D -> Bool
 | .v _, .v _ => true
 | .t _, .t _ => true
 | .l _, .l _ => true
 | _, _ => false
def rEqD (K : PySem.W.Frag) (neg : Bool) : R2 := fun x y H Q => ∃ d e, Zj d e = true /\ dep d <= 40 /\ IsD K H d x /\ IsD K H e y /\ Q (.bl (if neg then !eqD d e else eqD d e)) H
theorem rc_D (I : Inv X pins σ H s) {d e : D} {x y : V} {u v : Value} {A : Around} (hk : Zj d e = true) (hn : dep d <= 40) (hu : A.units + 64 < cLine) (h : IsD X.K H d x) (h' : IsD X.K H e y) (ru : RelV x u) (rv : RelV y v) :
 SeqAt.RcAt A s u v (eqD d e) /\ SeqAt.RcNeAt A s u v (!eqD d e) := by
 have hin : A.in1.units = A.units + 1 := rfl
 cases d with
 | v x' =>
  cases e with
  | v y' => unfold IsD at h h'; obtain ⟨fx, rfl⟩ := h; obtain ⟨fy, rfl⟩ := h'; unfold eqD; exact fm ru rv fx fy
  | t es => cases hk
  | l es => cases hk
 | t ds =>
  cases e with
  | v y' => cases hk
  | l es => cases hk
  | t es =>
   unfold IsD at h h'
   obtain ⟨p, xs, rfl, hs, hd⟩ := h
   obtain ⟨q, ys, rfl, hs', hd'⟩ := h'
   cases ru
   cases rv
   unfold dep at hn
   unfold eqD
   exact Pf I hs hs' hd hd' (by omega) fun d e x y u v hj h1 h2 r1 r2 => Nl I 40 d e x y u v A.in1 (by omega) (by omega) h1 h2 r1 r2
 | l ds =>
  cases e with
  | v y' => cases hk
  | t es => cases hk
  | l es =>
   unfold IsD at h h'
   obtain ⟨p, xs, rfl, hs, hd⟩ := h
   obtain ⟨q, ys, rfl, hs', hd'⟩ := h'
   cases ru
   cases rv
   unfold dep at hn
   unfold eqD
   exact fh I hs hs' hd hd' (by omega) fun d e x y u v hj h1 h2 r1 r2 => Nl I 40 d e x y u v A.in1 (by omega) (by omega) h1 h2 r1 r2
end
section
variable {X : Cx}
theorem op_eqD (hu : X.A.units + 64 < cLine) : OpR X (compareOp .Eq) (rEqD X.K false) := by
 intro pins s σ H x y v u Q I rx ry h
 obtain ⟨d, e, hk, hn, h1, h2, q⟩ := h
 exact (rc_D I hk hn hu h1 h2 rx ry).1 _ _ _ _ ⟨.bl (eqD d e), H, I, rfl, q⟩
theorem op_neD (hu : X.A.units + 64 < cLine) : OpR X (compareOp .NotEq) (rEqD X.K true) := by
 intro pins s σ H x y v u Q I rx ry h
 obtain ⟨d, e, hk, hn, h1, h2, q⟩ := h
 exact (rc_D I hk hn hu h1 h2 rx ry).2 _ _ _ _ ⟨.bl (!eqD d e), H, I, rfl, q⟩
def uk (K : PySem.W.Frag) : R2 := fun x y H Q => rI0 (fun i j => .int (i + j)) x y H Q \/ rCat x y H Q \/ rCatT K x y H Q \/ (∃ i j, x = .str i /\ y = .str j /\ i.length + j.length <= sizeLine /\ Q (.str (i ++ j)) H)
theorem Mm : OpR X (binaryOp .Add) (uk X.K) := op_add.or (op_cat.or (bj.or Gh))
def Am : R2 := fun x y H Q => rI pd (fun i j => .int (i * j)) x y H Q \/ rRep x y H Q
theorem Ob : OpR X (binaryOp .Mult) Am := Jm.or op_rep
def rEqA (K : PySem.W.Frag) : R2 := fun x y H Q => rEq x y H Q \/ rEqD K false x y H Q
theorem op_eqA (hu : X.A.units + 64 < cLine) : OpR X (compareOp .Eq) (rEqA X.K) := op_eq.or (op_eqD hu)
def rNeA (K : PySem.W.Frag) : R2 := fun x y H Q => rNe x y H Q \/ rEqD K true x y H Q
theorem op_neA (hu : X.A.units + 64 < cLine) : OpR X (compareOp .NotEq) (rNeA X.K) := op_ne.or (op_neD hu)
def rIx2 (K : PySem.W.Frag) : R2 := fun x y H Q => rIxL K x y H Q \/ rIxT K x y H Q
theorem ix_2 : IxR X (rIx2 X.K) := Sm.or ix_tup
end
section
variable {K : PySem.W.Frag} {H : Hp} {Q : VK} {v : V}
theorem r_addI {p q : Int} (h : Q (.int (p + q)) H) : uk K (.int p) (.int q) H Q := .inl (jk h)
theorem r_addL {a b : Addr} {xs ys : List V} (h1 : H a = some (.lst xs)) (h2 : H b = some (.lst ys)) (h3 : xs.length + ys.length <= sizeLine) (h : ∀ p, H p = none -> Q (.ref p) (upd H p (.lst (xs ++ ys)))) : uk K (.ref a) (.ref b) H Q := .inr (.inl ⟨a, b, xs, ys, rfl, rfl, h1, h2, h3, h⟩)
theorem r_mulI {p q : Int} (hc : pd p q) (h : Q (.int (p * q)) H) : Am (.int p) (.int q) H Q := .inl (r_rI hc h)
theorem r_eqI {p q : Int} (h : Q (.bl (decide (p = q))) H) : rEqA K (.int p) (.int q) H Q := .inl (r_rEqI h)
theorem r_eqB {p q : Bool} (h : Q (.bl (p == q)) H) : rEqA K (.bl p) (.bl q) H Q := .inl (r_rEqB h)
theorem r_eqS {p q : Str} (h : Q (.bl (decide (p = q))) H) : rEqA K (.str p) (.str q) H Q := .inl (r_rEqS h)
theorem r_neS {p q : Str} (h : Q (.bl (!decide (p = q))) H) : rNeA K (.str p) (.str q) H Q := .inl (r_rNeS h)
theorem r_eqDt {x y : V} (d e : D) (hk : Zj d e = true) (hn : dep d <= 40) (h1 : IsD K H d x) (h2 : IsD K H e y) (h : Q (.bl (eqD d e)) H) : rEqA K x y H Q := .inr ⟨d, e, hk, hn, h1, h2, h⟩
theorem Li {x y : V} (d e : D) (hk : Zj d e = true) (hn : dep d <= 40) (h1 : IsD K H d x) (h2 : IsD K H e y) (h : Q (.bl (!eqD d e)) H) : rNeA K x y H Q := .inr ⟨d, e, hk, hn, h1, h2, h⟩
theorem Qf {p : Addr} {xs : List V} {k : Int} (h1 : H p = some (.lst xs)) (h2 : atI xs k = some v) (h : Q v H) : rIx2 K (.ref p) (.int k) H Q := .inl (r_ixL h1 h2 h)
theorem xb {p : Addr} {xs : List V} {k : Int} (h1 : H p = some (.tup xs)) (h2 : atI xs k = some v) (h : Q v H) : rIx2 K (.ref p) (.int k) H Q := .inr (r_ixT h1 h2 h)
end
def tTru (K : PySem.W.Frag) (ta : TE) : TT := fun σ H Q => ta σ H fun x H' => ∃ k, TruV K x H' k /\ Q k H'
theorem pt_tru {X : Cx} {a : Expr} {ta : TE} (ha : PE X a ta) (he : ∀ whole, isTrue a X.env whole = (do let v <- whole; standAt a.pos; holding [v] (truthy v)) := by intro _; first | rfl | with_unfolding_all rfl) : PT X a (tTru X.K ta) := wk ha he
section
variable {K : PySem.W.Frag} {H : Hp} {σ : St} {QB : Bool -> Hp -> Prop} {te : TE}
theorem r_tru (h : te σ H fun x H' => ∃ k, TruV K x H' k /\ QB k H') : tTru K te σ H QB := h
theorem r_truB {b : Bool} {P : Bool -> Prop} (h : P b) : ∃ k, TruV K (.bl b) H k /\ P k := ⟨b, rfl, h⟩
end
def uc (ns : List Int) : List D := ns.map fun n => D.v (.int n)
theorem Od {K : PySem.W.Frag} {H : Hp} : ∀ (ns : List Int), IsDs K H (uc ns) (ns.map V.int)
 | [] => by unfold uc IsDs; rfl
 | n :: ns => by
  show IsDs K H (D.v (.int n) :: uc ns) (V.int n :: ns.map V.int)
  unfold IsDs
  exact ⟨_, _, rfl, by unfold IsD; exact ⟨rfl, rfl⟩, Od ns⟩
theorem kg : ∀ (ns ms : List Int), eqDs (uc ns) (uc ms) = decide (ns = ms)
 | [], [] => by simp [uc, eqDs]
 | [], _ :: _ => by simp [uc, eqDs]
 | _ :: _, [] => by simp [uc, eqDs]
 | n :: ns, m :: ms => by
  show eqDs (D.v (.int n) :: uc ns) (D.v (.int m) :: uc ms) = _
  unfold eqDs
  rw [kg ns ms]
  unfold eqD eqV
  by_cases h1 : n = m <;> by_cases h2 : ns = ms <;> simp [h1, h2]
theorem og : ∀ (ns : List Int), deps (uc ns) = 0
 | [] => by simp [uc, deps]
 | n :: ns => by
  show deps (D.v (.int n) :: uc ns) = 0
  unfold deps
  rw [og ns]
  simp [dep]
end L2
namespace L2
open PySem PySem.Spec PyProof.Rows
section
variable {H : Hp} {Q : VK}
theorem mm (h : Q (.int 1000000000000000000) H) : rI CPow (fun i j => .int (i ^ j.toNat)) (.int 10) (.int 18) H Q := ⟨10, 18, rfl, rfl, ⟨by decide, by decide, by decide⟩, h⟩
end
theorem Nd {H : Hp} {a b : Addr} {o u : HO} (h : H a = some o) (h' : H b = some u) (d : o ≠ u) : a ≠ b := ne_of h h' d
theorem zd {xs ys : List V} : HO.tup xs ≠ HO.lst ys := fun h => HO.noConfusion h
theorem rh {α : Type} {xs : List α} {i : Int} (h0 : 0 <= i) (h1 : i < xs.length) : atI xs i = xs[i.toNat]? := by
 unfold atI ixN
 rw [if_pos h0, if_pos h1]; rfl
theorem el {ns : List Int} {i : Int} (h0 : 0 <= i) (h1 : i < ns.length) : atI (ns.map V.int) i = some (.int (ns.getD i.toNat 0)) := by
 rw [rh h0 (by rw [List.length_map]; exact h1), List.getElem?_map, List.getD_eq_getElem?_getD]
 have : i.toNat < ns.length := by omega
 rw [List.getElem?_eq_getElem this]; rfl
theorem up_mk {K : PySem.W.Frag} {h : Heap} {mg : Str -> Option Value} {x : Str} {st : Stmt} {ps : List Str} {f : Addr} {oc : Value} {od an : Option Addr} {osl : Array (Option Value)} {kV doc pm cdv ct : Value} (X : K.In h) (G : h.Ns mainGlobals mg)
 (a : PySem.W.nsIn K mainGlobals x = some (some (.ref f))) (l : K.lookup f = some ⟨oc, od, .func (PySem.W.fnOf x x (Gb st) (za st) (ua st) .none kV doc pm an cdv ct), osl⟩)
 (c : PySem.W.codeIn K cdv x = true) (k : PySem.W.keepIn K (.ref f) = true)
 (b : ∀ (kV doc pm : Value) (an : Option Addr) (cdv ct : Value) (us : List Value), us.length = ps.length -> bindArgs (PySem.W.fnOf x x (Gb st) (za st) (ua st) .none kV doc pm an cdv ct) ⟨us, []⟩ = pure (ps.zip us)) : Up K mg x st ps := by
 have F := fun_mk (x := x) (qual := x) (st := st) l c k
 exact ⟨f, _, F, PySem.W.mg_of X G a, F.binds b⟩
def vi (K : PySem.W.Frag) : Sp := fun vs H Q _ => ∃ (a : Addr) (ns : List Int), vs = [.ref a] /\ SqL K H a (ns.map V.int) /\ ns.length <= 63 /\ ∀ H', Q (.bl true) H'
theorem ui {K : PySem.W.Frag} {vs : List V} {H : Hp} {Q : VK} {E : XK} (h : vi K vs H Q E) : vs.length = 1 := by
 obtain ⟨a, ns, rfl, _⟩ := h; rfl
theorem walkC {l : PySem.W.OpenLaw} {k : Nat} {q : Program} {loose : List Str} {XP : (Str -> Option Value) -> Heap -> Prop} {YP : World -> Heap -> Prop} {d : DefRec} {K : Params -> PySem.W.Frag} {x : Str} (hn : l.most = some 63) (hdf : d.params.defaults = []) (hr : Room k callerA)
 (hY : ∀ (w : World) (h : Heap), YP w h -> (K w.params).In h)
 (F : ∀ (w : World) (mg : Str -> Option Value) (fa : Addr) (h : Heap), (K w.params).In h -> h.Ns mainGlobals mg -> mg d.name = some (.ref fa) ->
   ∃ fd : FuncData, (∀ (s : Shared) (u : Value), BindsTo s fd ⟨[u], []⟩ [(x, u)]) /\ ∀ base : Heap, (K w.params).In base -> base.Ns mainGlobals mg -> FnOk l.prog w (K w.params) mg base CX0 k fa fd [x] (vi (K w.params))) :
 PySem.W.WalkO q loose XP YP l.row.toRowW d [] (fun f vs => PySem.call f vs) :=
 L2.Ul (n := 63) (k := k) (x := x) (CX := fun _ => CX0) (sp := fun w => vi (K w.params)) hn (by decide) hdf hr hY F (fun _ _ a ns hl _ hS => ⟨a, ns, rfl, hS, hl, fun _ => rfl⟩) fun _ _ _ _ _ z => z
theorem law_fn {P : Program} {w : World} {K : PySem.W.Frag} {mg : Str -> Option Value} {fa : Addr} {k : Nat} {x p : Str} {st : Stmt} (U : Up K mg x st [p]) (hfa : mg x = some (.ref fa)) {sp : Sp}
 (C : ∀ base : Heap, K.In base -> base.Ns mainGlobals mg -> ∀ (f : Addr) (fd : FuncData), Fun K x x st f fd -> FnOk P w K mg base CX0 k f fd [p] sp)
 (hb : ∀ (kV doc pm : Value) (an : Option Addr) (cdv ct : Value) (s : Shared) (u : Value), BindsTo s (PySem.W.fnOf x x (Gb st) (za st) (ua st) .none kV doc pm an cdv ct) ⟨[u], []⟩ [(p, u)]) :
 ∃ fd : FuncData, (∀ (s : Shared) (u : Value), BindsTo s fd ⟨[u], []⟩ [(p, u)]) /\ ∀ base : Heap, K.In base -> base.Ns mainGlobals mg -> FnOk P w K mg base CX0 k fa fd [p] sp := by
 obtain ⟨f, fd, F, hm, _⟩ := U.ex
 have e := hfa.symm.trans hm
 cases e
 refine ⟨fd, fun s u => ?_, fun base kb nb => C base kb nb _ fd F⟩
 obtain ⟨oc, od, kV, doc, pm, an, cdv, ct, osl, rfl, _⟩ := F.ex
 exact hb kV doc pm an cdv ct s u
end L2
namespace HT
open PySem PyProof.Rows
def lexLe : List Int -> List Int -> Bool
 | [], _ => true
 | _ :: _, [] => false
 | x :: xs, y :: ys => if x = y then lexLe xs ys else decide (x <= y)
theorem Ph (x y : Int) (xs ys : List Int) : lexLe (x :: xs) (y :: ys) = if x = y then lexLe xs ys else decide (x <= y) := rfl
theorem lj (ys : List Int) : lexLe [] ys = true := by cases ys <;> rfl
theorem ue (x : Int) (xs : List Int) : lexLe (x :: xs) [] = false := rfl
theorem fk (A : Around) (s : Shared) (a : Int) (t : Tok) (c : Int) (u : Tok) (prog : Program) (w : World) (E : Value -> Shared -> Prop) (Q : Value -> Shared -> Prop) (h : Q (.bool (decide (a <= c))) s) :
 wpAny (model prog w) A (richCompare .LtE (.int a t) (.int c u)) Q E s :=
 (PyProof.Rows.le_int h : wpAny (model prog w) A (compareOp .LtE (.int a t) (.int c u)) Q E s)
section
open PySem.SeqAt
open PySem.AutoSeq1 (wpAny_loadPart')
open PySem.MeetsSeq PySem.MeetsSeq2 PySem.MeetsSeq3
theorem Pe (l b : Addr) (items items2 : Array Value) (n n2 : Nat) (dd dd2 : Option Addr) (sl sl2 : Array (Option Value)) (ns ms : List Int) (hi : IntsAre items.toList ns) (hj : IntsAre items2.toList ms) :
 Meets (Builtin.«tuple.__le__» ⟨[.ref l, .ref b], []⟩)
  (fun _ R s => s.heap.get? l = some { cls := .type "tuple", dict := dd, data := .seq items n, slots := sl } /\ s.heap.get? b = some { cls := .type "tuple", dict := dd2, data := .seq items2 n2, slots := sl2 } /\
    R (.ok (.ret (.bool (lexLe ns ms)))) s) :=
 .of_wp fun prog w A R s h => by
  obtain ⟨hp, g, d, tk, os⟩ := s; obtain ⟨hl, hb, h⟩ := h
  have f2 := AutoSeq1.sub_tuple_tuple
  have z1 : items.size = ns.length := by rw [<- hi.length]; simp
  have z2 : items2.size = ms.length := by rw [<- hj.length]; simp
  wp_walk using wpAny_loadPart' hl, wpAny_loadPart' hb, wpAny_forIn_list _ (fun rest b s' => b.1 = none /\ s' = ⟨hp, g, d, tk, os⟩ /\ ∃ (vs ws : List Value) (ns' ms' : List Int), rest = vs.zip ws /\
   IntsAre vs ns' /\ IntsAre ws ms' /\ ns'.length + items2.size = ms'.length + items.size /\ R (.ok (.ret (.bool (lexLe ns' ms')))) ⟨hp, g, d, tk, os⟩) _
  case turn =>
   rintro ⟨y, x⟩ rest b s' ⟨hb', rfl, vs, ws, ns', ms', hz, hvi, hwi, hlen, hR⟩
   cases hvi with
   | nil => rw [List.zip_nil_left] at hz; cases hz
   | cons a t hvi' =>
    cases hwi with
    | nil => rw [List.zip_nil_right] at hz; cases hz
    | cons c u hwi' =>
     rw [List.zip_cons_cons] at hz
     injection hz with hyx hrest
     injection hyx with hy hx
     subst hy hx
     rw [Ph] at hR
     simp only [List.length_cons] at hlen
     obtain ⟨e, he, hiff⟩ := oh A.in1 ⟨hp, g, d, tk, os⟩ a t c u
     refine wpAny_bind (he prog w _ _ ?_)
     cases e with
     | true =>
      rw [if_pos (hiff.mp rfl)] at hR
      wp_walk
      exact ⟨rfl, rfl, _, _, _, _, hrest, hvi', hwi', by omega, hR⟩
     | false =>
      rw [if_neg (fun q => absurd (hiff.mpr q) Bool.false_ne_true)] at hR
      have hri := fk A.in1 ⟨hp, g, d, tk, os⟩ a t c u prog w
      wp_walk using hri
      exact ⟨_, rfl, by simpa using hR⟩
  case fin =>
   rintro ⟨b1, b2⟩ s' ⟨hb', rfl, vs, ws, ns', ms', hz, hvi, hwi, hlen, hR⟩
   simp only at hb'
   subst hb'
   have hv : lexLe ns' ms' = decide (items.size <= items2.size) := by
    cases hvi with
    | nil =>
     rw [lj]
     simp only [List.length_nil] at hlen
     exact (decide_eq_true (by omega)).symm
    | cons a t hv =>
     cases hwi with
     | nil =>
      simp only [List.length_nil, List.length_cons] at hlen
      rw [ue]
      exact (decide_eq_false (by omega)).symm
     | cons c u hw =>
      rw [List.zip_cons_cons] at hz
      cases hz
   rw [hv] at hR
   wp_walk
   exact ⟨_, rfl, by simpa [Builtin.Tuple.tupleCompareSizes] using hR⟩
  case h =>
   exact ⟨rfl, rfl, items.toList, items2.toList, ns, ms, rfl, hi, hj, by omega, h⟩
end
section
variable {prog : Program} {w : World} {A : Around} {E : Value -> Shared -> Prop} {s : Shared}
theorem Rh {l b : Addr} {items items2 : Array Value} {ns ms : List Int} {Q : Value -> Shared -> Prop} (hl : IsTup s.heap l items) (hb : IsTup s.heap b items2) (hi : IntsAre items.toList ns) (hj : IntsAre items2.toList ms)
 (hu : A.units < cLine) (h : Q (.bool (lexLe ns ms)) s) : wpAny (model prog w) A (compareOp .LtE (.ref l) (.ref b)) Q E s := by
 obtain ⟨⟨cls, dd, data, sl⟩, ho, hc, n, hd⟩ := id hl
 obtain ⟨⟨cls2, dd2, data2, sl2⟩, ho2, hc2, n2, hd2⟩ := id hb
 simp only at hc hd hc2 hd2
 subst hc hd hc2 hd2
 exact richCompare_meets_room (op := .LtE) ⟨_, ho, rfl⟩ ⟨_, ho2, rfl⟩ PySem.F.slot_tuple_le PySem.F.entry_tuple_le (PySem.F.args_tuple_le_2 _ _) (Pe l b items items2 n n2 dd dd2 sl sl2 ns ms hi hj)
  ⟨ho, ho2, show Value.bool (lexLe ns ms) ≠ Value.notImplemented /\ Q (.bool (lexLe ns ms)) s from ⟨(fun x => nomatch x), h⟩⟩ hu
end
end HT
namespace L2
open PySem PySem.Spec PyProof.Rows
section
variable {X : Cx}
def rLeT (K : PySem.W.Frag) : R2 := fun x y H Q => ∃ a b ns ms, x = .ref a /\ y = .ref b /\ SqT K H a (ns.map V.int) /\ SqT K H b (ms.map V.int) /\ Q (.bl (HT.lexLe ns ms)) H
theorem op_leT (hu : X.A.units < cLine) : OpR X (compareOp .LtE) (rLeT X.K) := by
 intro pins s σ H x y v u Q I rx ry h
 obtain ⟨a, b, ns, ms, rfl, rfl, ha, hb, q⟩ := h
 cases rx
 cases ry
 obtain ⟨its, r1, p1, _⟩ := I.tuple ha
 obtain ⟨its2, r2, p2, _⟩ := I.tuple hb
 have i1 : IntsAre its.toArray.toList ns := intsAre_of r1
 have i2 : IntsAre its2.toArray.toList ms := intsAre_of r2
 exact HT.Rh p1 p2 i1 i2 hu ⟨.bl (HT.lexLe ns ms), H, I, rfl, q⟩
theorem hu0 (hu : X.A.units + 64 < cLine) : X.A.units < cLine := by omega
def rLeA (K : PySem.W.Frag) : R2 := fun x y H Q => rI0 (fun i j => .bl (decide (i <= j))) x y H Q \/ rLeT K x y H Q
theorem op_leA (hu : X.A.units + 64 < cLine) : OpR X (compareOp .LtE) (rLeA X.K) := op_le.or (op_leT (hu0 hu))
def rLtA (K : PySem.W.Frag) : R2 := fun x y H Q => rI0 (fun i j => .bl (decide (i < j))) x y H Q \/ rLtT K x y H Q
theorem op_ltA (hu : X.A.units + 64 < cLine) : OpR X (compareOp .Lt) (rLtA X.K) := op_lt.or (op_ltT (hu0 hu))
def Oi : R2 := fun x y H Q => y = .non /\ Q (.bl (!decide (x = .non))) H
theorem Ak : OpR X (compareOp .IsNot) Oi := Im
end
section
variable {K : PySem.W.Frag} {H : Hp} {Q : VK}
theorem r_leI {p q : Int} (h : Q (.bl (decide (p <= q))) H) : rLeA K (.int p) (.int q) H Q := .inl (jk h)
theorem r_ltI {p q : Int} (h : Q (.bl (decide (p < q))) H) : rLtA K (.int p) (.int q) H Q := .inl (jk h)
theorem pk (h : Q (.bl false) H) : Oi .non .non H Q := ⟨rfl, h⟩
theorem nk {p : Int} (h : Q (.bl true) H) : Oi (.int p) .non H Q := ⟨rfl, h⟩
end
end L2
namespace L2
open PySem PySem.Spec PyProof.Rows
def cxIn (X : Cx) (scope : Scope) (cl : List (Str × Addr)) (C : Addr) (N : List Str) (s₀ : Shared) (H₀ : Hp) (ex : List Addr) : Cx :=
 { X with env := compEnvC scope cl C X.env, N := N, s₀ := s₀, H₀ := H₀, outer := X.stack, stack := X.stack, ex := ex, fn := fun x => scope.names.lookup x == some .cell, pn := [], xe := fun _ _ => False }
def PTs (X : Cx) (ifs : List Expr) (t : TT) : Prop :=
 ∀ (pins : List (Addr × Obj)) (s : Shared) (σ : St) (H : Hp) (Q : Bool -> Hp -> Prop), Inv X pins σ H s -> t σ H Q ->
  wpAny (model X.prog X.w) X.A (forIn ifs true fun c r => if r = true then do let ok <- isTrue c X.env (eval c X.env); pure (ForInStep.yield ok) else pure (ForInStep.yield r)) (TP X pins σ Q) X.xe s
def tYes : TT := fun _ H Q => Q true H
theorem Jg {X : Cx} : PTs X [] tYes := fun _ _ _ H _ I h => wpAny_tests_nil ⟨H, I, h⟩
def ve (X : Cx) (env' : Env) : List Str -> List Nat -> Prop
 | [], [] => True
 | x :: xs, j :: js => (X.N[j]? = some x /\ Vis X.env.scope x /\ X.env.kindOf x ≠ some .local /\ (env'.kindOf x = some .cell \/ env'.kindOf x = some .free) /\ env'.cells.lookup x = X.env.cells.lookup x) /\ ve X env' xs js
 | _, _ => False
theorem ve.len {X : Cx} {e : Env} : ∀ {xs : List Str} {js : List Nat}, ve X e xs js -> xs.length = js.length
 | [], [], _ => rfl
 | _ :: _, _ :: _, ⟨_, h⟩ => by rw [List.length_cons, List.length_cons, ve.len h]
 | [], _ :: _, h => h.elim
 | _ :: _, [], h => h.elim
theorem ve.get {X : Cx} {e : Env} : ∀ {xs : List Str} {js : List Nat} {i : Nat} {x : Str}, ve X e xs js -> xs[i]? = some x -> ∃ j, js[i]? = some j /\ X.N[j]? = some x /\ Vis X.env.scope x /\ X.env.kindOf x ≠ some .local /\ (e.kindOf x = some .cell \/ e.kindOf x = some .free) /\ e.cells.lookup x = X.env.cells.lookup x
 | [], [], i, x, _, h => by simp at h
 | y :: xs, j :: js, 0, x, ⟨h1, _⟩, h => by simp at h; subst h; exact ⟨j, by simp, h1⟩
 | y :: xs, j :: js, i + 1, x, ⟨_, h2⟩, h => by
  obtain ⟨k, a, b⟩ := ve.get (i := i) (x := x) h2 (by simpa using h)
  exact ⟨k, by simpa using a, b⟩
 | [], _ :: _, _, _, h, _ => h.elim
 | _ :: _, [], _, _, h, _ => h.elim
def cap (σ : St) (js : List Nat) (nt : Nat) : St := js.map (fun j => σ.getD j none) ++ List.replicate nt none
def mi (js : List Nat) (nt : Nat) (wi : TI) (g : TG) (tt : TT) (te : TE) : TE := fun σ H Q => wi σ H fun J H1 => ∃ W : Nat -> Nat -> List V -> St -> Hp -> Prop, (∃ m, W 0 m [] (cap σ js nt) H1) /\
 ∀ i m ys σ' H', W i m ys σ' H' -> ys.length < sizeLine /\ ((J.stop i H' /\ ∀ D, H' D = none -> Q (.ref D) (upd H' D (.lst ys))) \/
  (J.go i H' /\ ∃ N : List V -> St -> Hp -> Prop, (∀ ys σ' H', N ys σ' H' -> ∃ m', m' < m /\ W (i + 1) m' ys σ' H') /\ ∀ x H2, J.yld i H' x H2 -> g x σ' H2 fun σ3 H3 => tt σ3 H3 fun ok H4 => if ok = true then te σ3 H4 fun y H5 => N (ys ++ [y]) σ3 H5 else N ys σ3 H4))
theorem Xb {prog : Program} {w : World} {A : Around} {R : Result -> Shared -> Prop} {s : Shared} {elt target iter : Expr} {ifs : List Expr} {scope : Scope} {pos : Pos} {it acc : Value} {env : Env} (I : Nat -> Shared -> Prop)
 (turn : ∀ n s, I n s -> wpAny (model prog w) A (pyNext it) (fun r s₁ => match r with
   | none => R (.ok .next) s₁
   | some v => wpAny (model prog w) A (letOwnedTupleGo target it v) (fun _ s₁' => wpAny (model prog w) A (assign target env v) (fun _ s₂ =>
    wpAny (model prog w) A (forIn ifs true fun c r => if r = true then do let ok <- isTrue c env (eval c env); pure (ForInStep.yield ok) else pure (ForInStep.yield r)) (fun ok s₃ =>
     if ok = true then wpAny (model prog w) A (eval elt env) (fun x s₄ =>
      wpAny (model prog w) A (call (.builtin "list.append") [acc, x]) (fun _ s₅ => ∃ m, m < n /\ I m s₅) (notedBy (model prog w) A env fun e s' => R (.error e) s') s₄) (notedBy (model prog w) A env fun e s' => R (.error e) s') s₃
     else ∃ m, m < n /\ I m s₃) (notedBy (model prog w) A env fun e s' => R (.error e) s') s₂) (notedBy (model prog w) A env fun e s' => R (.error e) s') s₁') (notedBy (model prog w) A env fun e s' => R (.error e) s') s₁) (notedBy (model prog w) A env fun e s' => R (.error e) s') s)
 (n : Nat) (h : I n s) :
 codeAny (model prog w) A (.compLoop (.ListComp elt [⟨target, iter, ifs, 0⟩] scope pos) 0 it acc env) R s := by
 refine codeAny_loop rfl I (fun n s hI => ?_) n h
 show wpAny _ A ((compTurn (.ListComp elt [⟨target, iter, ifs, 0⟩] scope pos) 0 it acc env).onRaise (fun x => do noteFrame x env; theTreesLotGoes x)) _ _ s
 refine wpAny_noted ?_
 rw [compTurn_list]
 refine wpAny_bind (wpAny_standAt (wpAny_bind (wpAny_mono (turn n s hI) (fun r s₁ h₁ => ?_) fun _ _ h' => h')))
 cases r with
 | none => exact wpAny_pure h₁
 | some v =>
  refine wpAny_bind (wpAny_mono h₁ (fun _ s₁' h₁' => ?_) fun _ _ h' => h')
  refine wpAny_bind (wpAny_mono h₁' (fun _ s₂ h₂ => wpAny_bind (wpAny_mono h₂ (fun ok s₃ h₃ => ?_) fun _ _ h' => h')) fun _ _ h' => h')
  cases ok with
  | false => exact wpAny_pure ⟨rfl, h₃⟩
  | true =>
   exact wpAny_bind (wpAny_bind (wpAny_mono h₃ (fun x s₄ h₄ => wpAny_bind (wpAny_mono h₄ (fun _ s₅ h₅ => wpAny_pure (wpAny_pure ⟨rfl, h₅⟩)) fun _ _ h' => h')) fun _ _ h' => h'))
section
variable {X : Cx} {pins : List (Addr × Obj)} {σ : St} {H H' : Hp} {s : Shared}
theorem HOk.fi {P : Program} {w : World} {h : Heap} {a : Addr} {o : HO} (x : HOk P w H h) (hn : H a = none) (new : fb P w (upd H a o) h a o) : HOk P w (upd H a o) h := fun b u e => by
 by_cases hb : b = a
 . subst hb; rw [la] at e; cases e; exact new
 . rw [wa hb] at e
   exact (x b u e).stay (fun c v _ q => q) (fun c q => by rw [wa (ka q hn)]; exact q) fun c xs q => by rw [wa (ka q hn)]; exact q
theorem HOk.other {P : Program} {w : World} {h h' : Heap} {C : Addr} (x : HOk P w H h) (hn : H C = none) (k : ∀ b o, b ≠ C -> h.get? b = some o -> h'.get? b = some o) : HOk P w H h' := fun b u e =>
 (x b u e).stay (fun c v hc q => k c v (by
  rintro rfl
  rcases hc with rfl | hc
  . rw [hn] at e; cases e
  . rw [hn] at hc; cases hc) q) (fun _ q => q) fun _ _ q => q
theorem vb : ∀ {names : List (Str × NameKind)} {n : Nat} {acc : List (Str × Addr)}, (∀ y ∈ names, y.2 ≠ .cell) -> cellsFrom n names acc = acc
 | [], _, _, _ => rfl
 | (x, k) :: r, n, acc, h => by
  unfold cellsFrom
  rw [if_neg (by simpa using h (x, k) List.mem_cons_self)]
  exact vb fun y hy => h y (List.mem_cons_of_mem _ hy)
theorem Vd : ∀ (names : List (Str × NameKind)) (h : Heap) (acc : List (Str × Addr)) (x : Str) (c : Addr), (cellsFrom h.objs.size names acc).lookup x = some c -> acc.lookup x = some c \/ ((pushCells h names).IsCell c none /\ h.objs.size <= c)
 | [], _, _, _, _, e => .inl e
 | (y, k) :: r, h, acc, x, c, e => by
  unfold cellsFrom at e
  unfold pushCells
  split at e
  . rename_i hk
    rw [if_pos hk]
    have e' : (cellsFrom (h.push { cls := .type "cell", data := .cell none }).objs.size r ((y, h.objs.size) :: acc)).lookup x = some c := by rw [Heap.size_push]; exact e
    rcases Vd r _ _ x c e' with z | ⟨z1, z2⟩
    . rw [List.lookup_cons] at z
      split at z
      . cases z
        exact .inr ⟨⟨_, pushCells_keeps _ _ _ _ (Heap.get?_push_size _ rfl), rfl⟩, Nat.le_refl _⟩
      . exact .inl z
    . rw [Heap.size_push] at z2
      exact .inr ⟨z1, Nat.le_of_succ_le z2⟩
  . rename_i hk
    rw [if_neg hk]
    exact Vd r h acc x c e
theorem Xd : ∀ (names : List (Str × NameKind)) (n : Nat) (acc : List (Str × Addr)), (∀ x y c, acc.lookup x = some c -> acc.lookup y = some c -> x = y) -> (∀ x c, acc.lookup x = some c -> c < n) -> ∀ x y c, (cellsFrom n names acc).lookup x = some c -> (cellsFrom n names acc).lookup y = some c -> x = y
 | [], _, _, h, _ => h
 | (z, k) :: r, n, acc, h, hl => by
  unfold cellsFrom
  split
  . refine Xd r (n + 1) _ (fun x y c e1 e2 => ?_) fun x c e => ?_
    . rw [List.lookup_cons] at e1 e2
      split at e1 <;> split at e2
      . rename_i _ a _ b; rw [beq_iff_eq.mp a, beq_iff_eq.mp b]
      . cases e1; exact absurd (hl _ _ e2) (Nat.lt_irrefl _)
      . cases e2; exact absurd (hl _ _ e1) (Nat.lt_irrefl _)
      . exact h x y c e1 e2
    . rw [List.lookup_cons] at e
      split at e
      . cases e; exact Nat.lt_succ_self _
      . exact Nat.lt_succ_of_lt (hl x c e)
  . exact Xd r n acc h hl
theorem ph {x : Str} {lo : Nat} : ∀ (names : List (Str × NameKind)) (n : Nat) (acc : List (Str × Addr)), lo <= n -> ((∀ c, acc.lookup x = some c -> lo <= c) \/ names.lookup x = some .cell) -> ∀ c, (cellsFrom n names acc).lookup x = some c -> lo <= c
 | [], _, _, _, h => h.elim id fun z => nomatch z
 | (z, k) :: r, n, acc, hl, h => by
  have h2 : ∀ acc' : List (Str × Addr), (∀ c, acc'.lookup x = some c -> lo <= c) \/ r.lookup x = some .cell -> ∀ m, lo <= m -> ∀ c, (cellsFrom m r acc').lookup x = some c -> lo <= c := fun acc' q m hm => ph r m acc' hm q
  unfold cellsFrom
  rw [List.lookup_cons] at h
  split
  . refine h2 _ ?_ _ (Nat.le_succ_of_le hl)
    by_cases hx : x == z
    . refine .inl fun c e => ?_
      rw [List.lookup_cons, hx] at e
      cases e; exact hl
    . simp only [hx] at h
      refine h.imp (fun q c e => ?_) id
      rw [List.lookup_cons] at e
      simp only [hx] at e
      exact q c e
  . rename_i hk
    refine h2 _ ?_ _ hl
    by_cases hx : x == z
    . simp only [hx] at h
      refine .inl (h.elim id fun q => absurd q ?_)
      intro e
      rw [Option.some.inj e] at hk
      exact hk rfl
    . simp only [hx] at h
      exact h
theorem Ac {M : Model} {A : Around} {E : Value -> Shared -> Prop} {s : Shared} {scope : Scope} {g : Addr} {cl : List (Str × Addr)} {q : Str} {env : Env} {Q : Env -> Shared -> Prop}
 (h : Q { scope, locals := s.heap.objs.size, globals := g, cells := cellsFrom (s.heap.objs.size + 1) scope.names cl, qual := q, func := none, code := env.code, frame := env.frame, builtins := env.builtins }
   { s with heap := pushCells (s.heap.push { cls := .type "dict", data := .dict #[] }) scope.names }) : wpAny M A (newFunctionEnv scope g cl [] q none .none (some env)) Q E s := by
 simp only [newFunctionEnv, Option.isSome_some, if_true]
 refine wpAny_bind (wpAny_alloc (wpAny_bind (wpAny_layCells _ (fun name kind cells => by cases hkc : kind == NameKind.cell <;> simp [hkc]) _ _ _ _ ?_)))
 rw [show ({ s with heap := s.heap.push { cls := .type "dict", data := .dict #[] } } : Shared).heap.objs.size = s.heap.objs.size + 1 from Heap.size_push ..]
 refine wpAny_bind ?_
 rw [List.forIn_nil]
 exact wpAny_pure (wpAny_pure h)
theorem gn {scope : Scope} {cl : List (Str × Addr)} {C : Addr} {N : List Str} {s₀ : Shared} {ex : List Addr} (I : Inv X pins σ H s₀) (hC : C = s₀.heap.objs.size) (hkind : scope.kind = .function)
 (hinj : ∀ x y c, cl.lookup x = some c -> cl.lookup y = some c -> x = y) (hcl : ∀ x c, cl.lookup x = some c -> X.env.cells.lookup x = some c \/ s₀.heap.objs.size <= c) (hcab : ∀ x c, scope.names.lookup x = some .cell -> cl.lookup x = some c -> s₀.heap.objs.size <= c) (hhas : ∀ x, ((compEnvC scope cl C X.env).kindOf x = some .cell \/ (compEnvC scope cl C X.env).kindOf x = some .free) -> ∃ c, cl.lookup x = some c)
 (hex : ∀ b ∈ ex, b < s₀.heap.objs.size /\ b ∉ frs X.stack /\ (∀ x c, X.env.cells.lookup x = some c -> c ≠ b) /\ X.base.get? b = none) : (cxIn X scope cl C N s₀ H ex).Ok := by
 refine ⟨I.ok.mod, hkind, I.ok.glob, I.ok.blt, ?_, hinj, hhas, fun x c h => hcab x c (beq_iff_eq.mp h), I.ok.hd, I.ok.frames, .inl rfl, fun b hb => ⟨?_, fun x c h => ?_⟩, I.bs, Nat.le_trans I.ok.bsz I.sz, fun b o e hb => ?_, fun b hb => (hex b hb).2.1, I.stack, I.Kc⟩
 . show s₀.heap.objs.size <= C
   rw [hC]; exact Nat.le_refl _
 . show b ≠ C
   rw [hC]; exact Nat.ne_of_lt (hex b hb).1
 . rcases hcl x c h with z | z
   . exact (hex b hb).2.2.1 x c z
   . exact fun e => absurd (Nat.lt_of_lt_of_le (hex b hb).1 (e ▸ z)) (Nat.lt_irrefl _)
 . have e' : X.base.get? b = some o := e
   rw [(hex b hb).2.2.2] at e'; cases e'
theorem rn (σ : St) (js : List Nat) (nt : Nat) : (cap σ js nt).length = js.length + nt := by
 unfold cap; rw [List.length_append, List.length_map, List.length_replicate]
theorem vn {σ : St} {js : List Nat} {nt i : Nat} {v : V} (h : (cap σ js nt)[i]? = some (some v)) : ∃ j, js[i]? = some j /\ σ[j]? = some (some v) := by
 unfold cap at h
 by_cases hi : i < js.length
 . rw [List.getElem?_append_left (by rw [List.length_map]; exact hi), List.getElem?_map] at h
   obtain ⟨j, hj⟩ : ∃ j, js[i]? = some j := ⟨_, List.getElem?_eq_getElem hi⟩
   rw [hj] at h
   refine ⟨j, hj, ?_⟩
   have e : σ.getD j none = some v := Option.some.inj h
   rw [List.getD_eq_getElem?_getD] at e
   cases q : σ[j]? with
   | none => rw [q] at e; cases e
   | some z => rw [q] at e; have : z = some v := e; rw [this]
 . rw [List.getElem?_append_right (by rw [List.length_map]; omega), List.getElem?_replicate] at h
   split at h <;> cases h
end
theorem gh {X : Cx} {elt tg iter : Expr} {ifs : List Expr} {scope : Scope} {pos : Pos} {cl : List (Str × Addr)} {cs : Addr -> List (Str × Addr)} {cN tN : List Str} {js : List Nat} {wi : TI} {g : TG} {tt : TT} {te : TE}
 (hc : X.calm = true) (hi : PI X tg iter wi)
 (hclos : closureFor scope X.env = pure cl) (hcs : ∀ C, cellsFrom (C + 1) scope.names cl = cs C) (hkind : scope.kind = .function) (hnames : ∀ y ∈ scope.names, y.2 = .local -> scope.names.lookup y.1 = some .local)
 (hcl : ∀ p ∈ cl, X.env.cells.lookup p.1 = some p.2) (hhas : ∀ C x, ((compEnvC scope (cs C) C X.env).kindOf x = some .cell \/ (compEnvC scope (cs C) C X.env).kindOf x = some .free) -> ∃ c, (cs C).lookup x = some c)
 (hcap : ∀ C, ve X (compEnvC scope (cs C) C X.env) cN js)
 (hg : ∀ C s₀ H₀ ex, PG (cxIn X scope (cs C) C (cN ++ tN) s₀ H₀ ex) tg g) (ht : ∀ C s₀ H₀ ex, PTs (cxIn X scope (cs C) C (cN ++ tN) s₀ H₀ ex) ifs tt) (he : ∀ C s₀ H₀ ex, PE (cxIn X scope (cs C) C (cN ++ tN) s₀ H₀ ex) elt te)
 (hs : ∀ x, foldedSetIterable iter X.env x = pure x := by intro _; first | rfl | with_unfolding_all rfl) :
 PE X (.ListComp elt [⟨tg, iter, ifs, 0⟩] scope pos) (mi js tN.length wi g tt te) := by
 intro pins s σ H Q I h
 rw [eval_ListComp]
 refine wpAny_comprehension_free (use := none) rfl hs hclos hkind hnames (thn (hi pins s σ H _ I h) fun v s1 h1 => thn h1 fun itv s2 h2 => ?_)
 obtain ⟨it, fp, tn, J, H2, e, I2, T, st2, f2, W, ⟨m0, w0⟩, turn⟩ := h2
 subst e
 refine wpAny_newObj_type (Ac ?_)
 dsimp only
 generalize hH3 : s2.heap.push { cls := .type "list", dict := none, data := .seq ([] : List Value).toArray } = h3
 rw [hcs]
 have hns4 : (pushCells (h3.push { cls := .type "dict", data := .dict #[] }) scope.names).Ns h3.objs.size fun _ => none := (Heap.Ns.new h3 (.type "dict")).keeps (pushCells_keeps _ _)
 have hnew : ∀ x c, (cs h3.objs.size).lookup x = some c -> cl.lookup x = some c \/ ((pushCells (h3.push { cls := .type "dict", data := .dict #[] }) scope.names).IsCell c none /\ h3.objs.size + 1 <= c) := fun x c e => by
  have := Vd scope.names (h3.push { cls := .type "dict", data := .dict #[] }) cl x c (by rw [Heap.size_push, hcs]; exact e)
  rw [Heap.size_push] at this; exact this
 have up4 : ∀ b o, h3.get? b = some o -> (pushCells (h3.push { cls := .type "dict", data := .dict #[] }) scope.names).get? b = some o := fun b o q => pushCells_keeps _ _ _ _ (Heap.get?_push_of_some _ q)
 generalize pushCells (h3.push { cls := .type "dict", data := .dict #[] }) scope.names = h4 at hns4 hnew up4 ⊢
 have hD : h3.get? s2.heap.objs.size = some { cls := .type "list", data := .seq ([] : List Value).toArray } := by rw [<- hH3]; exact Heap.get?_push_size _ rfl
 have up3 : ∀ b o, s2.heap.get? b = some o -> h3.get? b = some o := fun b o q => by rw [<- hH3]; exact Heap.get?_push_of_some _ q
 have sz3 : h3.objs.size = s2.heap.objs.size + 1 := by rw [<- hH3, Heap.size_push]
 have I3 : Inv X pins σ H2 { s2 with heap := h3 } := I2.kept (t' := s2.toks) up3
 have hDC : s2.heap.objs.size ≠ h3.objs.size := by rw [sz3]; exact Nat.ne_of_lt (Nat.lt_succ_self _)
 have hfpx : ∀ b ∈ s2.heap.objs.size :: fp, b < h3.objs.size /\ b ∉ frs X.stack /\ (∀ x c, X.env.cells.lookup x = some c -> c ≠ b) /\ X.base.get? b = none := fun b hb => by
  rcases List.mem_cons.mp hb with rfl | hb
  . refine ⟨by rw [sz3]; exact Nat.lt_succ_self _, fun z => ?_, fun x c q z => ?_, ?_⟩
    . rcases List.mem_cons.mp (I2.bh _ z) with y | y
      . exact absurd (Nat.lt_of_lt_of_eq I2.lt y) (Nat.lt_irrefl _)
      . exact I2.nofs (Nat.le_refl _) y
    . obtain ⟨v, r⟩ := I2.cell x c q
      exact absurd (Nat.lt_of_lt_of_eq r.lt z.symm) (Nat.lt_irrefl _)
    . cases q : X.base.get? s2.heap.objs.size with
      | none => rfl
      | some o => exact absurd (Heap.lt_size (I2.bk _ o q)) (Nat.lt_irrefl _)
  . obtain ⟨f0, f1, f3, f4, f5, f6⟩ := f2 b hb
    obtain ⟨o, ho, _⟩ := T.obj _ _ st2 b hb
    refine ⟨Nat.lt_trans (Heap.lt_size ho) (by rw [sz3]; exact Nat.lt_succ_self _), fun z => ?_, f5, ?_⟩
    . rcases List.mem_cons.mp (I2.bh _ z) with y | y
      . exact f1 y
      . exact f3 y
    . cases q : X.base.get? b with
      | none => rfl
      | some o' =>
       rcases f4 with z | z
       . exact absurd z (I2.ok.noex b o' q)
       . exact absurd (Nat.lt_of_lt_of_le (Heap.lt_size (I2.ok.bs b o' q).1) z) (Nat.lt_irrefl _)
 have hclL : ∀ x c, cl.lookup x = some c -> X.env.cells.lookup x = some c := fun x c q => hcl (x, c) (PySem.mem_of_lookup q)
 have hinj : ∀ x y c, (cs h3.objs.size).lookup x = some c -> (cs h3.objs.size).lookup y = some c -> x = y := by
  rw [<- hcs]
  exact Xd _ _ _ (fun x y c e1 e2 => I2.ok.inj x y c (hclL x c e1) (hclL y c e2)) fun x c e => by
   obtain ⟨v, r⟩ := I3.cell x c (hclL x c e)
   exact Nat.lt_succ_of_lt r.lt
 have hcl3 : ∀ x c, (cs h3.objs.size).lookup x = some c -> X.env.cells.lookup x = some c \/ h3.objs.size <= c := fun x c e => (hnew x c e).imp (hclL x c) fun z => Nat.le_of_succ_le z.2
 have hclx : ∀ b ∈ s2.heap.objs.size :: fp, ∀ x c, (cs h3.objs.size).lookup x = some c -> c ≠ b := fun b hb x c e => by
  rcases hcl3 x c e with z | z
  . exact (hfpx b hb).2.2.1 x c z
  . exact fun e => absurd (Nat.lt_of_lt_of_le (hfpx b hb).1 (e ▸ z)) (Nat.lt_irrefl _)
 have ok : (cxIn X scope (cs h3.objs.size) h3.objs.size (cN ++ tN) { s2 with heap := h3 } H2 (s2.heap.objs.size :: fp)).Ok := gn I3 rfl hkind hinj hcl3 (fun x c h q => Nat.le_of_succ_le (ph scope.names (h3.objs.size + 1) cl (Nat.le_refl _) (.inr h) c (by rw [hcs]; exact q))) (hhas _) hfpx
 have hg' := hg h3.objs.size { s2 with heap := h3 } H2 (s2.heap.objs.size :: fp)
 have ht' := ht h3.objs.size { s2 with heap := h3 } H2 (s2.heap.objs.size :: fp)
 have he' := he h3.objs.size { s2 with heap := h3 } H2 (s2.heap.objs.size :: fp)
 generalize hY : cxIn X scope (cs h3.objs.size) h3.objs.size (cN ++ tN) { s2 with heap := h3 } H2 (s2.heap.objs.size :: fp) = Y at ok hg' ht' he'
 have yP : Y.prog = X.prog := by rw [<- hY]; rfl
 have yw : Y.w = X.w := by rw [<- hY]; rfl
 have yK : Y.K = X.K := by rw [<- hY]; rfl
 have yA : Y.A = X.A := by rw [<- hY]; rfl
 have yc : Y.calm = true := by rw [<- hY]; exact hc
 have yx : Y.xe = fun _ _ => False := by rw [<- hY]; rfl
 have yl : Y.env.locals = h3.objs.size := by rw [<- hY]; rfl
 have ye : Y.env = compEnvC scope (cs h3.objs.size) h3.objs.size X.env := by rw [<- hY]; rfl
 have yfs : Y.fs = frs X.stack := by rw [<- hY]; rfl
 have yex : Y.ex = s2.heap.objs.size :: fp := by rw [<- hY]; rfl
 have ycl : Y.env.cells = cs h3.objs.size := by rw [<- hY]; rfl
 have ys0 : Y.s₀ = { s2 with heap := h3 } := by rw [<- hY]; rfl
 have yH0 : Y.H₀ = H2 := by rw [<- hY]; rfl
 have ypn : Y.pn = [] := by rw [<- hY]; rfl
 have yN : Y.N = cN ++ tN := by rw [<- hY]; rfl
 have hH2D : H2 s2.heap.objs.size = none := I2.hok.fresh (Nat.le_refl _)
 have pinD : ∀ {H' : Hp} {h : Heap} {ys : List Value} {n : Nat}, h.get? s2.heap.objs.size = some { cls := .type "list", data := .seq ys.toArray n } -> H' s2.heap.objs.size = none ->
  ∀ p ∈ ([(s2.heap.objs.size, ({ cls := .type "list", data := .seq ys.toArray n } : Obj))] : List (Addr × Obj)), h.get? p.1 = some p.2 /\ H' p.1 = none /\ p.1 ≠ Y.env.locals /\ p.1 ∉ Y.fs /\ ∀ v, p.2.data ≠ .cell v := fun {H' h ys n} q1 q2 p hp => by
  rw [List.mem_singleton.mp hp]
  exact ⟨q1, q2, by rw [yl]; exact hDC, by rw [yfs]; exact (hfpx _ List.mem_cons_self).2.1, fun v z => nomatch z⟩
 have I4 : Inv Y [] (cap σ js tN.length) H2 { s2 with heap := h4 } := by
  refine ⟨ok, by rw [ys0], I2.bare, ?_, ⟨_, by rw [yl]; exact hns4, fun i x v e1 e2 e3 => ?_⟩, fun x c q => ?_, ?_, fun x c q => ?_, fun p hp => ?_, ?_, ?_⟩
  . rw [ys0, yH0]; exact Un.kept up4
  . rw [yN] at e1
    obtain ⟨j, hj, hv⟩ := vn e2
    have hi' : i < cN.length := by
     rw [(hcap h3.objs.size).len]
     exact (List.getElem?_eq_some_iff.mp hj).1
    rw [List.getElem?_append_left hi'] at e1
    obtain ⟨j', hj', n1, n2, n3, n4, n5⟩ := (hcap h3.objs.size).get e1
    rw [hj] at hj'; cases hj'
    obtain ⟨m, hn, hl⟩ := I2.loc
    obtain ⟨u, ru, lk⟩ := hl j x v n1 hv n2
    refine ⟨u, ru, ?_⟩
    rcases lk with ⟨k1, _⟩ | ⟨k1, c, k2, k3⟩
    . exact absurd k1 n3
    . refine .inr ⟨by rw [ye]; exact n4, c, by rw [ye, n5]; exact k2, ?_⟩
      obtain ⟨o, ho, hd⟩ := k3
      exact ⟨o, up4 _ _ (up3 _ _ ho), hd⟩
  . rw [ycl] at q
    rcases hnew x c q with q | q
    . obtain ⟨v, o, ho, hd⟩ := I2.cell x c (hclL x c q)
      exact ⟨v, o, up4 _ _ (up3 _ _ ho), hd⟩
    . exact ⟨none, q.1⟩
  . rw [yl]; exact I3.hok.fresh (Nat.le_refl _)
  . rw [ycl] at q
    rcases hcl3 x c q with q | q
    . exact I2.freeC x c q
    . exact I3.hok.fresh q
  . rw [ypn] at hp
    exact absurd hp (by simp)
  . rw [yP, yw]
    exact I3.hok.kept up4
  . rw [rn, yN, List.length_append, (hcap h3.objs.size).len]
 have fpY : ∀ {H' : Hp} {ps : List (Addr × Obj)}, (∀ b ∈ fp, H' b = none) -> (∀ p ∈ ps, p.1 = s2.heap.objs.size) -> ∀ b ∈ fp, FpOk Y ps H' b := fun {H' ps} hn hps b hb => by
  obtain ⟨a1, a2, a3, a4⟩ := hfpx b (List.mem_cons_of_mem _ hb)
  obtain ⟨o, ho, _⟩ := T.obj _ _ st2 b hb
  refine ⟨hn b hb, by rw [yl]; exact Nat.ne_of_lt a1, by rw [yfs]; exact a2, .inl (by rw [yex]; exact List.mem_cons_of_mem _ hb), fun x c q => by rw [ycl] at q; exact hclx b (List.mem_cons_of_mem _ hb) x c q, fun p hp => ?_⟩
  rw [ypn] at hp
  rw [hps p hp]
  exact (Nat.ne_of_lt (Heap.lt_size ho)).symm
 have st4 : tn 0 h4 := T.keep _ _ _ st2 fun b hb o q => up4 _ _ (up3 _ _ q)
 have loop : codeAny (model X.prog X.w) X.A (.compLoop (.ListComp elt [⟨tg, iter, ifs, 0⟩] scope pos) 0 (.ref it) (.ref s2.heap.objs.size) (compEnvC scope (cs h3.objs.size) h3.objs.size X.env))
  (compPost (model X.prog X.w) X.A X.xe none (EP X pins σ Q) (.ref s2.heap.objs.size) h3.objs.size) { s2 with heap := h4 } := by
  refine Xb (fun n s' => ∃ (i : Nat) (σ' : St) (H' : Hp) (ys : List V) (us : List Value) (k : Nat), Inv Y [] σ' H' s' /\ tn i s'.heap /\ (∀ b ∈ fp, H' b = none) /\ H' s2.heap.objs.size = none /\ Vals ys us /\
   s'.heap.get? s2.heap.objs.size = some { cls := .type "list", data := .seq us.toArray k } /\ W i n ys σ' H') ?_ m0
   ⟨0, _, H2, [], [], 0, I4, st4, fun b hb => (f2 b hb).1, hH2D, .nil, up4 _ _ hD, w0⟩
  rintro n s5 ⟨i, σ5, H5, ys, us, k, I5, st5, fr5, hD5, rv5, ho5, w5⟩
  obtain ⟨hsz, step⟩ := turn i n ys σ5 H5 w5
  have I5p := I5.Jd (pins' := [(s2.heap.objs.size, ({ cls := .type "list", data := .seq us.toArray k } : Obj))]) (pinD ho5 hD5)
  have onlyD : ∀ p ∈ ([(s2.heap.objs.size, ({ cls := .type "list", data := .seq us.toArray k } : Obj))] : List (Addr × Obj)), p.1 = s2.heap.objs.size := fun p hp => by rw [List.mem_singleton.mp hp]
  rcases step with ⟨stop, fin⟩ | ⟨go, N, hN, step⟩
  ·
   have dn := T.done Y yP yw yK yc i _ s5 σ5 H5 (notedBy (model X.prog X.w) X.A (compEnvC scope (cs h3.objs.size) h3.objs.size X.env) fun e s' => compPost (model X.prog X.w) X.A X.xe none (EP X pins σ Q) (.ref s2.heap.objs.size) h3.objs.size (.error e) s') I5p (fpY fr5 onlyD) st5 stop
   rw [yA] at dn
   refine thn dn fun r s6 ⟨hr, I6⟩ => ?_
   subst hr
   obtain ⟨m6, hn6, _⟩ := I6.loc
   rw [yl] at hn6
   refine ⟨m6, hn6, fun h7 hs7 => ?_⟩
   have u6 : Un (frs X.stack) (s2.heap.objs.size :: fp) H2 H5 h3 s6.heap := by
    have := I6.base
    rw [yfs, yex, yH0, ys0] at this
    exact this
   have D6 := (I6.pin _ (List.mem_append_right _ (List.mem_singleton.mpr rfl))).1
   have C6 : H5 h3.objs.size = none := by have := I6.free; rw [yl] at this; exact this
   have k7 : ∀ b o, b ≠ h3.objs.size -> s6.heap.get? b = some o -> h7.get? b = some o := fun b o hb q => hs7.extBut b o hb q
   have neC : ∀ b o, s2.heap.get? b = some o -> b ≠ h3.objs.size := fun b o q => Nat.ne_of_lt (Heap.lt_size (up3 b o q))
   have neD : ∀ b o, s2.heap.get? b = some o -> b ≠ s2.heap.objs.size := fun b o q => Nat.ne_of_lt (Heap.lt_size q)
   have exn : ∀ b o, s2.heap.get? b = some o -> b ∉ fp -> b ∉ s2.heap.objs.size :: fp := fun b o q hb z => by
    rcases List.mem_cons.mp z with z | z
    . exact neD b o q z
    . exact hb z
   have un7 : Un (frs X.stack) fp H2 (upd H5 s2.heap.objs.size (.lst ys)) s2.heap h7 := by
    refine ⟨fun b o q nb hb hx => k7 b o (neC b o q) (u6.keep b o (up3 _ _ q) nb hb (exn b o q hx)), fun b o q nb hb hx => ?_, fun b o q nb hx => ?_, fun b o q hx => ?_, fun b xs q => ?_, fun b o xs q => ?_, fun b ps q => ?_⟩
    . obtain ⟨sl, z⟩ := u6.slot b o (up3 _ _ q) nb hb (exn b o q hx)
      exact ⟨sl, k7 b _ (neC b o q) z⟩
    . rw [wa (neD b o q)]
      exact u6.free b o (up3 _ _ q) nb (exn b o q hx)
    . obtain ⟨o', z⟩ := u6.there b o (up3 _ _ q) (exn b o q hx)
      exact ⟨o', k7 b o' (neC b o q) z⟩
    . have z := u6.tups b xs q
      rw [wa (ka z hD5)]; exact z
    . have z := u6.frzs b o xs q
      rw [wa (ka z hD5)]; exact z
    . obtain ⟨more, z⟩ := u6.tbls b ps q
      exact ⟨more, by rw [wa (ka z hD5)]; exact z⟩
   have hok7 : HOk X.prog X.w (upd H5 s2.heap.objs.size (.lst ys)) h7 := by
    have z := I6.hok
    rw [yP, yw] at z
    refine (z.other C6 k7).fi hD5 ?_
    exact ⟨Nat.le_of_lt hsz, us, k, rv5, k7 _ _ hDC D6⟩
   obtain ⟨hh6, gg6, dd6, tt6, os6⟩ := s6
   have eos : os6 = s2.os := by have := I6.os; rw [ys0] at this; exact this
   subst eos
   have I7 : Inv X pins σ (upd H5 s2.heap.objs.size (.lst ys)) { s2 with heap := h7, gens := gg6, drawn := dd6, toks := tt6 } :=
    I2.call un7 hok7 I6.bare fun b hb => ⟨(f2 b hb).2.2.2.1, (f2 b hb).2.1, (f2 b hb).2.2.2.2.1, (f2 b hb).2.2.2.2.2⟩
   exact ⟨.ref s2.heap.objs.size, _, I7, rfl, fin _ hD5⟩
  ·
   have im := T.item Y yP yw yK yc i _ s5 σ5 H5 (notedBy (model X.prog X.w) X.A (compEnvC scope (cs h3.objs.size) h3.objs.size X.env) fun e s' => compPost (model X.prog X.w) X.A X.xe none (EP X pins σ Q) (.ref s2.heap.objs.size) h3.objs.size (.error e) s') I5p (fpY fr5 onlyD) st5 go
   rw [yA] at im
   refine thn im fun r s6 ⟨u, hr, h6⟩ => ?_
   subst hr
   refine thn h6 fun _ s7 ⟨x, H7, I7, r7, y7, st7, fr7⟩ => ?_
   have I7' := I7.pinned (fpY fr7 onlyD) (T.obj _ _ st7)
   have tog := hg' _ s7 σ5 H7 x u _ I7' r7 (step x H7 y7)
   rw [yP, yw, yA, yx, ye] at tog
   refine wpAny_mono tog (fun _ s8 ⟨σ8, H8, I8, q8⟩ => ?_) fun _ _ z => z.elim
   have tot := ht' _ s8 σ8 H8 _ I8 q8
   rw [yP, yw, yA, yx, ye] at tot
   refine wpAny_mono tot (fun okb s9 ⟨H9, I9, q9⟩ => ?_) fun _ _ z => z.elim
   have back : ∀ {H' : Hp} {s' : Shared}, Inv Y ([(s2.heap.objs.size, ({ cls := .type "list", data := .seq us.toArray k } : Obj))] ++ Vf fp s7.heap) σ8 H' s' -> tn (i + 1) s'.heap /\ (∀ b ∈ fp, H' b = none) /\ H' s2.heap.objs.size = none /\ s'.heap.get? s2.heap.objs.size = some { cls := .type "list", data := .seq us.toArray k } := fun {H' s'} I' => by
    refine ⟨T.keep _ _ _ st7 fun b hb o e => (I'.pin (b, o) (List.mem_append_right _ (List.mem_append_right _ (Vb hb e)))).1, fun b hb => ?_, ?_, ?_⟩
    . obtain ⟨o, e, d⟩ := T.obj _ _ st7 b hb
      exact (I'.pin (b, o) (List.mem_append_right _ (List.mem_append_right _ (Vb hb e)))).2.1
    . exact (I'.pin _ (List.mem_append_right _ (List.mem_append_left _ (List.mem_singleton.mpr rfl)))).2.1
    . exact (I'.pin _ (List.mem_append_right _ (List.mem_append_left _ (List.mem_singleton.mpr rfl)))).1
   cases okb with
   | false =>
    rw [if_neg Bool.false_ne_true] at q9 ⊢
    obtain ⟨m', hm', w9⟩ := hN _ _ _ q9
    obtain ⟨b1, b2, b3, b4⟩ := back I9
    exact ⟨m', hm', i + 1, σ8, H9, ys, us, k, I9.Jd (fun p hp => absurd hp (by simp)), b1, b2, b3, rv5, b4, w9⟩
   | true =>
    rw [if_pos rfl] at q9 ⊢
    have toe := he' _ s9 σ8 H9 _ I9 q9
    rw [yP, yw, yA, yx, ye] at toe
    refine wpAny_mono toe (fun yv s10 ⟨yy, H10, I10, r10, q10⟩ => ?_) fun _ _ z => z.elim
    obtain ⟨m', hm', w10⟩ := hN _ _ _ q10
    obtain ⟨b1, b2, b3, b4⟩ := back I10
    have hus : us.length = ys.length := rv5.length.symm
    refine append_at b4 (fun h11 hs11 ho11 => ?_) (by rw [List.size_toArray, hus]; exact Nat.le_of_lt hsz)
    have I10' : Inv Y [] σ8 H10 s10 := I10.Jd (fun p hp => absurd hp (by simp))
    have I11 : Inv Y [] σ8 H10 { s10 with heap := h11 } := I10'.turned (t' := s10.toks) (it := s2.heap.objs.size) (fun b o hb q => hs11.extBut b o hb q) b3 (by rw [yl]; exact hDC) (.inl (by rw [yex]; exact List.mem_cons_self))
     (fun x c q => by rw [ycl] at q; exact hclx _ List.mem_cons_self x c q) (fun p hp => by rw [ypn] at hp; exact absurd hp (by simp))
    refine ⟨m', hm', i + 1, σ8, H10, ys ++ [yy], us ++ [yv], k + 1, I11, T.keep _ _ _ b1 fun b hb o q => hs11.extBut b o (fun z => ?_) q, b2, b3, Vals.append rv5 (.cons r10 .nil), ?_, w10⟩
    . have z' : b = s2.heap.objs.size := z
      obtain ⟨o', ho', _⟩ := T.obj _ _ st2 b hb
      exact absurd (z' ▸ Heap.lt_size ho') (Nat.lt_irrefl _)
    . rw [ho11, List.push_toArray]
 exact codeAny_compStart_list loop (T.self _ 0 _ _ _ st4 loop)
def En (J : It) (js : List Nat) (nt : Nat) (g : TG) (tt : TT) (te : TE) (σ : St) (H : Hp) (Q : VK) : Prop := ∃ W : Nat -> Nat -> List V -> St -> Hp -> Prop, (∃ m, W 0 m [] (cap σ js nt) H) /\
 ∀ i m ys σ' H', W i m ys σ' H' -> ys.length < sizeLine /\ ((J.stop i H' /\ ∀ D, H' D = none -> Q (.ref D) (upd H' D (.lst ys))) \/
  (J.go i H' /\ ∃ N : List V -> St -> Hp -> Prop, (∀ ys σ' H', N ys σ' H' -> ∃ m', m' < m /\ W (i + 1) m' ys σ' H') /\ ∀ x H2, J.yld i H' x H2 -> g x σ' H2 fun σ3 H3 => tt σ3 H3 fun ok H4 => if ok = true then te σ3 H4 fun y H5 => N (ys ++ [y]) σ3 H5 else N ys σ3 H4))
theorem ym {K : PySem.W.Frag} {tl : TE} {js : List Nat} {nt : Nat} {g : TG} {tt : TT} {te : TE} {σ : St} {H : Hp} {Q : VK} (h : tl σ H fun x H1 => ∃ a, x = .ref a /\ (∃ xs, SqL K H1 a xs) /\ En (Itl K a) js nt g tt te σ H1 Q) : mi js nt (Nk K tl) g tt te σ H Q := h
theorem r_yes {σ : St} {H : Hp} {QB : Bool -> Hp -> Prop} (h : QB true H) : tYes σ H QB := h
theorem compL {K : PySem.W.Frag} {a : Addr} {xs : List V} {js : List Nat} {g : TG} {tt : TT} {te : TE} {σ : St} {H : Hp} {Q : VK} (caps : St) (Pv : Nat -> List V -> Hp -> Prop) (hcaps : cap σ js 1 = caps ++ [none]) (hsz : xs.length < sizeLine) (h0 : Pv 0 [] H)
 (hl : ∀ i ys H, i <= xs.length -> Pv i ys H -> SqL K H a xs) (hlen : ∀ i ys H, Pv i ys H -> ys.length <= i)
 (hs : ∀ (i : Nat) x ys z H, xs[i]? = some x -> Pv i ys H -> g x (caps ++ [z]) H fun σ3 H3 => tt σ3 H3 fun ok H4 => if ok = true then te σ3 H4 fun y H5 => Pv (i + 1) (ys ++ [y]) H5 /\ ∃ z, σ3 = caps ++ [z] else Pv (i + 1) ys H4 /\ ∃ z, σ3 = caps ++ [z])
 (hd : ∀ ys H, Pv xs.length ys H -> ∀ D, H D = none -> Q (.ref D) (upd H D (.lst ys))) : ∃ a', V.ref a = .ref a' /\ (∃ xs, SqL K H a' xs) /\ En (Itl K a') js 1 g tt te σ H Q := by
 refine ⟨a, rfl, ⟨xs, hl 0 [] H (Nat.zero_le _) h0⟩, fun i m ys σ' H' => m = xs.length - i /\ i <= xs.length /\ Pv i ys H' /\ ∃ z, σ' = caps ++ [z], ⟨xs.length, by simp, Nat.zero_le _, h0, none, hcaps⟩, ?_⟩
 rintro i m ys σ' H' ⟨rfl, hi, p, z, rfl⟩
 refine ⟨by have := hlen i ys H' p; omega, ?_⟩
 have q := hl i ys H' hi p
 by_cases hlt : i < xs.length
 . refine .inr ⟨⟨xs, xs[i], q, by simp [hlt]⟩, fun ys σ' H' => Pv (i + 1) ys H' /\ ∃ z, σ' = caps ++ [z], fun ys σ' H' ⟨p', q'⟩ => ⟨xs.length - (i + 1), by omega, rfl, hlt, p', q'⟩, fun x H2 y => ?_⟩
   obtain ⟨e, y⟩ := y
   subst e
   exact hs i x ys z _ (y xs q) p
 . have e : i = xs.length := by omega
   subst e
   exact .inl ⟨⟨xs, q, Nat.le_refl _⟩, hd ys H' p⟩
end L2
namespace L2
open PySem PySem.Spec PyProof.Rows
def rAll (K : PySem.W.Frag) : List V -> Hp -> VK -> Prop := fun xs H Q => ∃ (p : Addr) (bs : List Bool), xs = [.ref p] /\ SqL K H p (bs.map V.bl) /\ Q (.bl (bs.all id)) H
theorem we : ∀ {bs : List Bool} {us : List Value}, Vals (bs.map V.bl) us -> us = bs.map Value.bool
 | [], us, r => by rw [List.map_nil] at r; cases r; rfl
 | b :: bs, us, r => by
  rw [List.map_cons] at r
  cases r with
  | cons r1 r2 => rw [we r2, show _ = Value.bool b from r1]; rfl
theorem range_all : ∀ (bs : List Bool), (List.range bs.length).all (fun i => bs.getD i false) = bs.all id
 | [] => rfl
 | b :: bs => by
  rw [List.length_cons, List.range_succ_eq_map, List.all_cons, List.all_map, List.all_cons, <- range_all bs]
  rfl
section
variable {X : Cx}
theorem Yk {bs : List Bool} {i : Nat} {v : Value} (h : (bs.map Value.bool).toArray[i]? = some v) : v = .bool (bs.getD i false) := by
 rw [List.getElem?_toArray, List.getElem?_map] at h
 cases q : bs[i]? with
 | none => rw [q] at h; cases h
 | some b => rw [q] at h; rw [List.getD_eq_getElem?_getD, q]; exact (Option.some.inj h).symm
theorem cl_all (hc : X.calm = true) : ib X (.builtin "all") (rAll X.K) := by
 intro pins s σ H xs us Q I r h
 obtain ⟨p, bs, rfl, hq, q⟩ := h
 obtain ⟨u, rfl, rx⟩ := vals1 r
 cases rx
 obtain ⟨its, r', pl, hz⟩ := I.list hq
 have e := we r'
 subst e
 have hl := pl.isList
 have hlt : p < s.heap.objs.size := by obtain ⟨_, e, _⟩ := hl; exact Heap.lt_size e
 refine PySem.call_all_walk (wpAny_pyIter_list hl ?_)
 refine ⟨_, _, _, _, _, _, fun i => bs.getD i false, rfl, Walks.list (A := X.A.in1) (I.ok.hd hc) s.heap.objs.size p (Nat.ne_of_lt hlt) _, ⟨⟨_, Heap.get?_push_size _ rfl, rfl, rfl⟩, hl.push _⟩, ?_, fun h' tk hk => ?_⟩
 . intro i v s' Q' E' hP hQ'
   rw [Yk hP]
   exact wpAny_truthy_bool hQ'
 . refine ⟨.bl (bs.all id), H, ?_, ?_, q⟩
   . exact I.kept (t' := tk) fun b o e => hk b o (fun z => absurd (Heap.lt_size e) (by rw [List.mem_singleton.mp z]; exact Nat.lt_irrefl _)) (Heap.get?_push_of_some _ e)
   . show Value.bool _ = Value.bool _
     rw [show (bs.map Value.bool).toArray.size = bs.length by simp, range_all]
end
section
variable {K : PySem.W.Frag} {H : Hp} {Q : VK}
theorem r_all {p : Addr} {bs : List Bool} (h1 : H p = some (.lst (bs.map V.bl))) (h : Q (.bl (bs.all id)) H) : rAll K [.ref p] H Q := ⟨p, bs, rfl, SqL.of h1, h⟩
end
def CellsOk (X : Cx) : List (Str × Addr) -> Prop
 | [] => True
 | p :: r => X.env.cells.lookup p.1 = some p.2 /\ CellsOk X r
theorem CellsOk.all {X : Cx} : ∀ {cl : List (Str × Addr)}, CellsOk X cl -> ∀ p ∈ cl, X.env.cells.lookup p.1 = some p.2
 | [], _, p, h => by cases h
 | q :: r, ⟨h1, h2⟩, p, h => by
  rcases List.mem_cons.mp h with rfl | h
  . exact h1
  . exact CellsOk.all h2 p h
theorem cap1 {X : Cx} {e : Env} {x : Str} {j : Nat} (h1 : X.N[j]? = some x) (h2 : X.env.scope.names.lookup x = some .cell) (h3 : e.scope.names.lookup x = some .cell) (h4 : e.cells.lookup x = X.env.cells.lookup x) :
 X.N[j]? = some x /\ Vis X.env.scope x /\ X.env.kindOf x ≠ some .local /\ (e.kindOf x = some .cell \/ e.kindOf x = some .free) /\ e.cells.lookup x = X.env.cells.lookup x :=
 ⟨h1, .inr (.inl h2), (fun h => by have h' : X.env.scope.names.lookup x = some .local := h; rw [h2] at h'; cases h'), .inl h3, h4⟩
theorem gb {env : Env} : ∀ {names : List (Str × NameKind)} {x : Str} {k' : NameKind},
 (names.map fun (n, k) => if (k == NameKind.free && env.scope.kind == .function && env.kindOf n == some .cell) then (n, NameKind.cell) else (n, k)).lookup x = some k' -> ∃ k, (x, k) ∈ names /\ (k' = k \/ k = .free)
 | [], _, _, h => by simp at h
 | (n, k) :: r, x, k', h => by
  rw [List.map_cons] at h
  dsimp only at h
  by_cases hx : x = n
  . subst hx
    refine ⟨k, List.mem_cons_self, ?_⟩
    by_cases c : (k == NameKind.free && env.scope.kind == .function && env.kindOf x == some .cell) = true
    . right
      simp only [Bool.and_eq_true, beq_iff_eq] at c
      exact c.1.1
    . rw [if_neg c] at h
      simp only [List.lookup_cons_self, Option.some.injEq] at h
      exact .inl h.symm
  . have hx' : (x == n) = false := by simpa using hx
    have h2 : (r.map fun (n, k) => if (k == NameKind.free && env.scope.kind == .function && env.kindOf n == some .cell) then (n, NameKind.cell) else (n, k)).lookup x = some k' := by
     by_cases c : (k == NameKind.free && env.scope.kind == .function && env.kindOf n == some .cell) = true
     . rw [if_pos c, List.lookup_cons, hx'] at h; exact h
     . rw [if_neg c, List.lookup_cons, hx'] at h; exact h
    obtain ⟨k0, m, e⟩ := gb h2
    exact ⟨k0, List.mem_cons_of_mem _ m, e⟩
theorem Hl {X : Cx} {scope : Scope} {cl : List (Str × Addr)} (hcell : ∀ y ∈ scope.names, y.2 ≠ .cell) (h : (scope.names.all fun y => y.2 != .free || (cl.lookup y.1).isSome) = true) :
 ∀ C x, ((compEnvC scope cl C X.env).kindOf x = some .cell \/ (compEnvC scope cl C X.env).kindOf x = some .free) -> ∃ c, cl.lookup x = some c := by
 intro C x hx
 obtain ⟨k', hk, e⟩ : ∃ k', (relabel scope X.env).names.lookup x = some k' /\ (k' = .cell \/ k' = .free) := by
  rcases hx with hx | hx
  . exact ⟨_, hx, .inl rfl⟩
  . exact ⟨_, hx, .inr rfl⟩
 obtain ⟨k, m, e2⟩ := gb hk
 have hf : k = .free := by
  rcases e2 with e2 | e2
  . subst e2
    rcases e with e | e
    . exact absurd e (hcell _ m)
    . exact e
  . exact e2
 have z := List.all_eq_true.mp h _ m
 rw [hf] at z
 have z' : (cl.lookup x).isSome = true := by simpa using z
 exact Option.isSome_iff_exists.mp z'
theorem pe_lc {X : Cx} {elt tg iter : Expr} {ifs : List Expr} {scope : Scope} {pos : Pos} {cl : List (Str × Addr)} {wi : TI} {g : TG} {tt : TT} {te : TE} (cN tN : List Str) (js : List Nat)
 (hclos : closureFor scope X.env = pure cl) (hc : X.calm = true) (hx0 : X.xe = fun _ _ => False) (hi : PI X tg iter wi)
 (hcell : ∀ y ∈ scope.names, y.2 ≠ .cell) (hkind : scope.kind = .function) (hnames : ∀ y ∈ scope.names, y.2 = .local -> scope.names.lookup y.1 = some .local)
 (hcl : CellsOk X cl) (hall : (scope.names.all fun y => y.2 != .free || (cl.lookup y.1).isSome) = true) (hcap : ∀ C, ve X (compEnvC scope cl C X.env) cN js)
 (hg : ∀ C s₀ H₀ ex, PG (cxIn X scope cl C (cN ++ tN) s₀ H₀ ex) tg g) (ht : ∀ C s₀ H₀ ex, PTs (cxIn X scope cl C (cN ++ tN) s₀ H₀ ex) ifs tt) (he : ∀ C s₀ H₀ ex, PE (cxIn X scope cl C (cN ++ tN) s₀ H₀ ex) elt te)
 (hs : ∀ x, foldedSetIterable iter X.env x = pure x := by intro _; first | rfl | with_unfolding_all rfl) :
 PE X (.ListComp elt [⟨tg, iter, ifs, 0⟩] scope pos) (mi js tN.length wi g tt te) :=
 gh hc hi hclos (fun _ => vb hcell) hkind hnames hcl.all (Hl hcell hall) hcap hg ht he hs
end L2
namespace HT
open PySem PyProof.Rows
section
variable {prog : Program} {w : World} {A : Around} {E : Value -> Shared -> Prop} {s : Shared}
theorem qc {t sl : Addr} {items : Array Value} {vl vu : Value} {lo hi : Option Int} {Q : Value -> Shared -> Prop} (ht : IsTup s.heap t items) (hs : s.heap.IsSliceOf sl vl vu .none) (pl : IsPart vl lo) (pu : IsPart vu hi)
 (hw : sIx items.size 0 lo = 0 /\ sIx items.size items.size hi = items.size) (h : Q (.ref t) s) : wpAny (model prog w) A (getItem (.ref t) (.ref sl)) Q E s := by
 obtain ⟨os, hos, hcs, hds⟩ := id hs
 have hTs : s.TypeIs (.ref sl) "slice" := ⟨os, hos, hcs⟩
 unfold getItem
 try with_reducible refine wpAny_holding ?_
 first | refine wpAny_bind (wpAny_pure ?_) | skip
 refine wpAny_bind (wpAny_sequenceKey ht.typeIs (by decide) ?_)
 refine wpAny_bind (wpAny_callSpecial?_slot (name := Str.ofString "__getitem__") ht.typeIs PyProof.Rows.slot_tuple_getitem
  (wpAny_call_entry PyProof.Rows.slot_tuple_getitem ht.typeIs entry_tuple_getitem ?_ (args_tuple_getitem _ _)))
 show wpAny _ _ (Builtin.Tuple.tupleItemsOf (.ref t) >>= _) _ _ s
 refine wpAny_bind (tupleItemsOf_ ht ?_)
 refine wpAny_bind (wpAny_typeOf hTs ?_)
 rw [if_pos (by decide)]
 refine wpAny_bind (Kb hs pl pu ?_)
 have hyes : (((sIx items.size 0 lo : Nat) : Int) == 0 && (1 : Int) == 1 && (sIx items.size items.size hi - sIx items.size 0 lo) == items.size) = true := by
  rw [hw.1, hw.2]; simp
 show wpAny _ _ (if (((sIx items.size 0 lo : Nat) : Int) == 0 && (1 : Int) == 1 && (sIx items.size items.size hi - sIx items.size 0 lo) == items.size) = true then _ else _) _ _ s
 rw [if_pos hyes]
 unfold Builtin.Tuple.tupleIsExact
 refine wpAny_bind (wpAny_bind (wpAny_typeOf ht.typeIs (wpAny_pure ?_)))
 rw [if_pos (by decide)]
 first
  | exact wpAny_bind (wpAny_rule (wpAny_bind (wpAny_pure (wpAny_pure ⟨_, rfl, wpAny_pure h⟩))))
  | exact wpAny_bind (wpAny_rule (wpAny_bind (wpAny_pure ⟨_, rfl, wpAny_pure h⟩)))
  | exact wpAny_bind (wpAny_rule (wpAny_pure ⟨_, rfl, wpAny_pure h⟩))
theorem Wk {t b : Addr} {ws : List Value} {Q : Value -> Shared -> Prop} (ht : IsTup s.heap t ([] : List Value).toArray) (hb : IsTup s.heap b ws.toArray) (h : Q (.ref b) s) : wpAny (model prog w) A (binaryOp .Add (.ref t) (.ref b)) Q E s := by
 obtain ⟨⟨cls, dd, data, sl⟩, ho, hc, n, hd⟩ := id ht
 obtain ⟨⟨cls2, dd2, data2, sl2⟩, ho2, hc2, n2, hd2⟩ := id hb
 simp only at hc hd hc2 hd2
 subst hc hd hc2 hd2
 exact concat_meets ⟨_, ho, rfl⟩ ⟨_, ho2, rfl⟩ noFill_tuple_add seq_tuple_add PySem.F.slot_tuple_add PySem.F.entry_tuple_add (PySem.F.args_tuple_add_2 _ _)
  (tuple_addW0 t b _ ws.toArray n n2 dd dd2 sl sl2 rfl) ⟨ho, ho2, h⟩
end
end HT
namespace L2
open PySem PySem.Spec PyProof.Rows
section
variable {X : Cx}
def rSlTt : V -> Option Int -> Option Int -> Hp -> VK -> Prop := fun x lo hi H Q => ∃ a xs, x = .ref a /\ H a = some (.tup xs) /\ ∀ p H', Same H H' -> H' p = some (.tup (cutV xs lo hi)) -> Q (.ref p) H'
theorem Xl : SlR X rSlTt := by
 intro pins s σ H x v vl vu lo hi sl Q I rx hs pl pu h
 obtain ⟨a, xs, rfl, hx, q⟩ := h
 by_cases hw : HT.sIx xs.length 0 lo = 0 /\ HT.sIx xs.length xs.length hi = xs.length
 . cases rx
   obtain ⟨its, r, ht, hz⟩ := I.tuple (SqT.of hx)
   have hlen : its.toArray.size = xs.length := by rw [List.size_toArray]; exact r.length.symm
   refine ⟨"tuple", _, PyProof.Rows.slot_tuple_getitem.lookup, ht.typeIs, ?_⟩
   refine HT.qc ht hs pl pu (by rw [hlen]; exact hw) ⟨.ref a, H, I, rfl, q a H (Same.refl H) ?_⟩
   rw [hx]
   unfold cutV
   rw [hw.1, hw.2, List.drop_zero, Nat.sub_zero, List.take_length]
 . exact sl_tup pins s σ H (.ref a) v vl vu lo hi sl Q I rx hs pl pu ⟨a, xs, rfl, SqT.of hx, hw, fun p hp => q p _ ((Same.refl H).new hp) la⟩
def rSl2 (K : PySem.W.Frag) : V -> Option Int -> Option Int -> Hp -> VK -> Prop := fun x lo hi H Q => rSlL K x lo hi H Q \/ rSlTt x lo hi H Q
theorem sl_2 : SlR X (rSl2 X.K) := Yl.or Xl
def El : R2 := fun x y H Q => ∃ a b xs ys, x = .ref a /\ y = .ref b /\ H a = some (.tup xs) /\ H b = some (.tup ys) /\ xs.length + ys.length <= sizeLine /\ ∀ p H', Same H H' -> H' p = some (.tup (xs ++ ys)) -> Q (.ref p) H'
theorem Bk : OpR X (binaryOp .Add) El := by
 intro pins s σ H x y v u Q I rx ry h
 obtain ⟨a, b, xs, ys, rfl, rfl, ha, hb, hz, q⟩ := h
 by_cases hx : xs = []
 . subst hx
   cases rx
   cases ry
   obtain ⟨its, r1, p1, _⟩ := I.tuple (SqT.of ha)
   obtain ⟨its2, r2, p2, _⟩ := I.tuple (SqT.of hb)
   cases r1
   exact HT.Wk p1 p2 ⟨.ref b, H, I, rfl, q b H (Same.refl H) hb⟩
 . refine bj pins s σ H _ _ v u Q I rx ry ⟨a, b, xs, ys, rfl, rfl, SqT.of ha, SqT.of hb, hx, hz, fun e => ?_, fun e p hp => q p _ ((Same.refl H).new hp) la⟩
   subst e
   exact q a H (Same.refl H) (by rw [List.append_nil]; exact ha)
def sk (K : PySem.W.Frag) : R2 := fun x y H Q => uk K x y H Q \/ El x y H Q
theorem Lm : OpR X (binaryOp .Add) (sk X.K) := Mm.or Bk
end
section
variable {K : PySem.W.Frag} {H : Hp} {Q : VK} {σ : St}
theorem zm {p q : Int} (h : Q (.int (p + q)) H) : sk K (.int p) (.int q) H Q := .inl (r_addI h)
theorem Ni {a b : Addr} {xs ys : List V} (h1 : H a = some (.lst xs)) (h2 : H b = some (.lst ys)) (h3 : xs.length + ys.length <= sizeLine) (h : ∀ p, H p = none -> Q (.ref p) (upd H p (.lst (xs ++ ys)))) : sk K (.ref a) (.ref b) H Q := .inl (r_addL h1 h2 h3 h)
theorem gm {r : V -> Option Int -> Option Int -> Hp -> VK -> Prop} {te : TE} {tl th : TO} (h : te σ H fun x H1 => tl σ H1 fun l H2 => th σ H2 fun u H3 => r x l u H3 Q) : tSl r te tl th σ H Q := h
theorem qk {QO : Option Int -> Hp -> Prop} (h : QO none H) : ki σ H QO := h
theorem r_part {te : TE} {QO : Option Int -> Hp -> Prop} (h : te σ H fun x H1 => ∃ i, x = .int i /\ QO (some i) H1) : tPart te σ H QO := h
theorem om {p : Int} {P : Int -> Prop} (h : P p) : ∃ i, V.int p = .int i /\ P i := ⟨p, rfl, h⟩
theorem r_sl2L {a : Addr} {xs : List V} {lo hi : Option Int} (h1 : H a = some (.lst xs)) (h : ∀ p, H p = none -> Q (.ref p) (upd H p (.lst (cutV xs lo hi)))) : rSl2 K (.ref a) lo hi H Q := .inl ⟨a, xs, rfl, SqL.of h1, h⟩
end
end L2
namespace L2
open PySem PySem.Spec PyProof.Rows
section
variable {X : Cx} {K : PySem.W.Frag}
theorem ixK (h : X.K = K) : IxR X (rIx2 K) := by subst h; exact ix_2
theorem addK (h : X.K = K) : OpR X (binaryOp .Add) (sk K) := by subst h; exact Lm
theorem eqK (h : X.K = K) (hu : X.A.units + 64 < cLine) : OpR X (compareOp .Eq) (rEqA K) := by subst h; exact op_eqA hu
theorem neK (h : X.K = K) (hu : X.A.units + 64 < cLine) : OpR X (compareOp .NotEq) (rNeA K) := by subst h; exact op_neA hu
theorem ltK (h : X.K = K) (hu : X.A.units + 64 < cLine) : OpR X (compareOp .Lt) (rLtA K) := by subst h; exact op_ltA hu
theorem leK (h : X.K = K) (hu : X.A.units + 64 < cLine) : OpR X (compareOp .LtE) (rLeA K) := by subst h; exact op_leA hu
theorem isiK (h : X.K = K) : ib X (.builtin "isinstance") (rIsi K) := by subst h; exact cl_isi
theorem lenK (h : X.K = K) : ib X (.builtin "len") (rLen K) := by subst h; exact cl_len
theorem listK (h : X.K = K) : ib X (.type "list") (Ig K) := by subst h; exact jn
theorem allK (h : X.K = K) (hc : X.calm = true) : ib X (.builtin "all") (rAll K) := by subst h; exact cl_all hc
theorem truK {a : Expr} {ta : TE} (h : X.K = K) (ha : PE X a ta) (he : ∀ whole, isTrue a X.env whole = (do let v <- whole; standAt a.pos; holding [v] (truthy v)) := by intro _; first | rfl | with_unfolding_all rfl) : PT X a (tTru K ta) := by subst h; exact pt_tru ha he
theorem piLK {tg l : Expr} {tl : TE} (h : X.K = K) (hl : PE X l tl) : PI X tg l (Nk K tl) := by subst h; exact Fm hl
theorem piTK {tg l : Expr} {tl : TE} (h : X.K = K) (hl : PE X l tl) : PI X tg l (iTup K tl) := by subst h; exact pi_tup hl
theorem slK (h : X.K = K) : SlR X (rSl2 K) := by subst h; exact sl_2
theorem Th {es : List Expr} {k : Nat} {t : TGs} {n : Nat} {pos : Pos} (hk : X.K = K) (hc : X.calm = true) (h : PGs X es t)
 (hn : (assignEach es X.env).length = n := by first | rfl | with_unfolding_all rfl) (hst : (assignEach es X.env).findIdx? (·.1) = none := by first | rfl | with_unfolding_all rfl) : PG X (.Tuple es k pos) (gTup K n t) := by subst hk; exact pg_tup hc h hn hst
end
end L2
namespace L2
open PySem PySem.Spec PyProof.Rows
@[reducible] def rc : Value -> Value
 | .int c _ => .ref c.toNat
 | v => v
@[reducible] def dk : Value -> Option Addr
 | .int _ t => some t
 | _ => none
def Dk (cls : Value) (ea : Addr) (h : Heap) : Prop := ∀ dx, dk cls = some dx -> ∃ o, h.get? ea = some o /\ o.dict = some dx
theorem Dk.kd {cls : Value} {ea : Addr} {h h' : Heap} (x : Dk cls ea h) (k : Kd h h') : Dk cls ea h' := fun dx e => by
 obtain ⟨o, h1, h2⟩ := x dx e
 obtain ⟨o', h3, h4⟩ := k ea o h1
 exact ⟨o', h3, h4.trans h2⟩
theorem Bd {M : Model} {A : Around} {E : Value -> Shared -> Prop} {s : Shared} {t : Sem Unit} {P : Heap -> Prop} {Q : Unit -> Shared -> Prop} (T : Tame t) (h : ∀ Q' : Unit -> Shared -> Prop, (∀ h', P h' -> Q' () { s with heap := h' }) -> wpAny M A t Q' E s)
 (q : ∀ h', P h' -> Kd s.heap h' -> Q () { s with heap := h' }) : wpAny M A t Q E s :=
 wpAny_mono (Lj T (h (fun _ s' => ∃ h', s' = { s with heap := h' } /\ P h') fun h' p => ⟨h', rfl, p⟩)) (fun _ s' z => by
  obtain ⟨⟨h', e, p⟩, k⟩ := z
  subst e
  exact q h' p k) fun _ _ z => z.1
def CXF (P : Program) (w : World) : CXT := fun outer H s E e s' => ∃ (ea : Addr) (cls : Value) (H' : Hp) (B : Heap) (a0 : Value), e = .ref ea /\ s'.os = s.os /\ AllBare s'.gens /\ Un (frs outer) [] H H' s.heap s'.heap /\ HOk P w H' s'.heap /\
 Heap.FlyingW B outer ea (rc cls) a0 s'.heap /\ Dk cls ea s'.heap /\ (∀ b o, s.heap.get? b = some o -> b ∉ frs outer -> ∃ o', B.get? b = some o') /\ (∀ b u, H' b = some u -> ∃ o', B.get? b = some o') /\ H' ea = none /\ E cls (some ea) H'
theorem HOk.in {P : Program} {w : World} {H : Hp} {h : Heap} (x : HOk P w H h) {b : Addr} {u : HO} (e : H b = some u) : ∃ o, h.get? b = some o := by
 have q := x b u e
 cases u with
 | lst xs => obtain ⟨_, _, _, _, z⟩ := q; exact ⟨_, z⟩
 | tup xs => obtain ⟨_, _, _, o, z, _⟩ := q; exact ⟨_, z⟩
 | dK kvs => obtain ⟨_, _, _, _, o, _, _, z, _⟩ := q; exact ⟨_, z⟩
 | dT kvs => obtain ⟨_, _, _, _, o, _, _, z, _⟩ := q; exact ⟨_, z⟩
 | set S n => obtain ⟨o, _, _, _, z, _⟩ := q; exact ⟨_, z⟩
 | ins C dx fs => obtain ⟨_, _, _, z, _⟩ := q; exact ⟨_, z⟩
 | own y => exact q
 | xd fs => obtain ⟨_, ⟨_, _, _, z, _⟩, _⟩ := q; exact ⟨_, z⟩
 | rng lo hi => obtain ⟨_, _, _, z⟩ := q; exact ⟨_, z⟩
 | frz ob u => obtain ⟨z, _⟩ := q; exact ⟨_, z⟩
 | tbl ps => exact ⟨_, (show h.get? b = some _ from q)⟩
 | met f y => exact ⟨_, (show h.get? b = some _ from q)⟩
 | ext φ => obtain ⟨_, z, _⟩ := q; exact z
theorem HOk.tracked {P : Program} {w : World} {H : Hp} {h h' : Heap} (x : HOk P w H h) (k : ∀ b u o, H b = some u -> h.get? b = some o -> h'.get? b = some o) : HOk P w H h' := fun b u e =>
 (x b u e).stay (fun c v hc q => by
  rcases hc with rfl | hc
  . exact k _ _ _ e q
  . exact k _ _ _ hc q) (fun _ q => q) fun _ _ q => q
theorem Rm {l : List Env} {env : Env} {a : Addr} (h : env ∈ l) (hf : env.frame = some a) : a ∈ frs l := List.mem_filterMap.mpr ⟨env, h, hf⟩
section
variable {P : Program} {w : World} {K : PySem.W.Frag} {mg : Str -> Option Value} {base : Heap} {N : List Str} {qual : Str} {scope : Scope} {f : Addr} {cd : Value} {A : Around} {outer : List Env} {s : Shared} {H : Hp} {E : XK}
theorem Qh {pins : List (Addr × Obj)} {σ : St} {H1 H2 : Hp} {s1 : Shared} {h' : Heap} {tk : Nat} {e : Addr} {cls a0 : Value} {oe : Obj} {vs : Array Value} (I : Inv (cxOf (CXF P w) P w K mg base N qual scope f cd A outer s H E) pins σ H1 s1)
 (up1 : ∀ b o, s1.heap.get? b = some o -> h'.get? b = some o) (hnew : s1.heap.get? e = none) (he : h'.get? e = some oe) (hcls : oe.cls = rc cls) (hd : oe.data = .fields vs) (h0 : vs[0]? = some a0) (h1 : vs[1]? = some .none) (hdk : ∀ dx, dk cls = some dx -> oe.dict = some dx)
 (hok : HOk P w H2 h') (hH : ∀ b u, H1 b = some u -> H2 b = some u) (hH2 : ∀ b u, H2 b = some u -> H1 b = some u \/ s1.heap.get? b = none) (hHe : H2 e = none) (hE : E cls (some e) H2) :
 (cxOf (CXF P w) P w K mg base N qual scope f cd A outer s H E).xe (.ref e) { s1 with heap := h', toks := tk } := by
 have stk := I.stack
 have fr0 : frs (envOfC qual scope s.heap.objs.size f cd :: outer) = s.heap.objs.size :: frs outer := rfl
 have frd : ∀ b, b ∈ frs (envOfC qual scope s.heap.objs.size f cd :: outer) -> ∃ o, s1.heap.get? b = some o /\ ∀ vs, o.data ≠ .fields vs := fun b hb => (stk.mem hb).2
 have ene : e ∉ frs (envOfC qual scope s.heap.objs.size f cd :: outer) := fun z => by
  obtain ⟨o, q, _⟩ := frd e z
  rw [hnew] at q; cases q
 have stk' : h'.FunFrames _ (envOfC qual scope s.heap.objs.size f cd :: outer) := stk.of_keeps fun b o hb _ => ⟨o, up1 b o hb, rfl⟩
 have hin : ∀ env ∈ (envOfC qual scope s.heap.objs.size f cd :: outer), ∀ a, env.frame = some a -> a ∈ e :: frs (envOfC qual scope s.heap.objs.size f cd :: outer) := fun env he a ha => List.mem_cons_of_mem _ (Rm he ha)
 have hfl := PySem.W.funFrames_hide (as := e :: frs (envOfC qual scope s.heap.objs.size f cd :: outer)) stk' hin
 have inB : ∀ b o, h'.get? b = some o -> b ≠ e -> b ∉ frs (envOfC qual scope s.heap.objs.size f cd :: outer) -> (PySem.W.hideAll h' (e :: frs (envOfC qual scope s.heap.objs.size f cd :: outer))).get? b = some o := fun b o q hb hf => PySem.W.hideAll_get _ q fun z => by
  rcases List.mem_cons.mp z with z | z
  . exact hb z
  . exact hf z
 have hide : (PySem.W.hideAll h' (e :: frs (envOfC qual scope s.heap.objs.size f cd :: outer))).get? e = none := PySem.W.hideAll_none _ List.mem_cons_self
 have nL : ∀ b o, s.heap.get? b = some o -> b ∉ frs outer -> b ∉ frs (envOfC qual scope s.heap.objs.size f cd :: outer) := fun b o q hb z => by
  rw [fr0] at z
  rcases List.mem_cons.mp z with z | z
  . exact absurd (z ▸ Heap.lt_size q) (Nat.lt_irrefl _)
  . exact hb z
 have old : ∀ b o, s1.heap.get? b = some o -> b ≠ e := fun b o q z => by rw [z, hnew] at q; cases q
 have base1 : Un (frs outer) [] H H1 s.heap s1.heap := I.base
 refine Bd Vc (P := fun h3 => Heap.FlyingW (PySem.W.hideAll h' (e :: frs (envOfC qual scope s.heap.objs.size f cd :: outer))) outer e (rc cls) a0 h3 /\ h'.UpToSlots h3) (fun Q' hq => ?_) fun h'' ⟨fl, up⟩ kd => ?_
 . refine wpAny_leaving_firstW (a0 := a0) (base := PySem.W.hideAll h' (e :: frs (envOfC qual scope s.heap.objs.size f cd :: outer))) I.ok.frames hfl rfl he (fun b o q => PySem.W.of_hideAll _ q) hide hd h1 h0 fun h3 hL => ?_
   obtain ⟨k1, ⟨_, _, k2⟩, k3, k4⟩ := hL
   exact hq h3 ⟨⟨k1, hide, k2, hcls ▸ k3⟩, k4⟩
 have keep : ∀ b o, s1.heap.get? b = some o -> b ∉ frs (envOfC qual scope s.heap.objs.size f cd :: outer) -> h''.get? b = some o := fun b o q hb => fl.1 b o (inB b o (up1 b o q) (old b o q) hb)
 have slots : ∀ b o, s1.heap.get? b = some o -> (∀ vs, o.data ≠ .fields vs) -> ∃ sl, h''.get? b = some { o with slots := sl } := fun b o q hd => up b o (up1 b o q) hd
 have frd' : ∀ b, b ∈ frs outer -> ∃ o, s1.heap.get? b = some o /\ ∀ vs, o.data ≠ .fields vs := fun b hb => frd b (by rw [fr0]; exact List.mem_cons_of_mem _ hb)
 have nf : ∀ b u, H2 b = some u -> b ∉ frs (envOfC qual scope s.heap.objs.size f cd :: outer) := fun b u q m => by
  rcases hH2 b u q with z | z
  . have := I.Kc b m
    rw [this] at z; cases z
  . obtain ⟨o, q2, _⟩ := frd b m
    rw [z] at q2; cases q2
 have H21 : ∀ b, b < s1.heap.objs.size -> s1.heap.get? b ≠ none -> H1 b = none -> H2 b = none := fun b _ hb n => by
  cases q : H2 b with
  | none => rfl
  | some u =>
   rcases hH2 b u q with z | z
   . rw [n] at z; cases z
   . exact absurd z hb
 refine ⟨e, cls, H2, _, a0, rfl, I.os, I.bare, ⟨fun b o q n hb hx' => ?_, fun b o q n hb hx' => ?_, fun b o q n hx' => ?_, fun b o q hx' => ?_, fun b xs q => hH _ _ (base1.tups b xs q), fun b o u q => hH _ _ (base1.frzs b o u q), fun b ps q => ?_⟩, ?_, fl, fun dx q => ?_, fun b o q hb => ?_, fun b u q => ?_, hHe, hE⟩
 . exact keep b o (base1.keep b o q n hb hx') (nL b o q hb)
 . obtain ⟨sl, z⟩ := base1.slot b o q n hb hx'
   obtain ⟨o2, z2, d2⟩ := frd' b hb
   rw [z] at z2; cases z2
   obtain ⟨sl2, z3⟩ := slots b _ z d2
   exact ⟨sl2, z3⟩
 . obtain ⟨o', z⟩ := base1.there b o q hx'
   exact H21 b (Heap.lt_size z) (by rw [z]; exact fun y => nomatch y) (base1.free b o q n hx')
 . obtain ⟨o', z⟩ := base1.there b o q hx'
   by_cases hb : b ∈ frs outer
   . obtain ⟨o2, z2, d2⟩ := frd' b hb
     obtain ⟨sl, z3⟩ := slots b _ z2 d2
     exact ⟨_, z3⟩
   . exact ⟨o', keep b o' z (nL b o q hb)⟩
 . obtain ⟨more, z⟩ := base1.tbls b ps q
   exact ⟨more, hH _ _ z⟩
 . refine hok.tracked fun b u o q z => fl.1 b o (inB b o z (ka q hHe) (nf b u q))
 . obtain ⟨o', z, d'⟩ := kd e oe he
   exact ⟨o', z, d'.trans (hdk dx q)⟩
 . obtain ⟨o', z⟩ := base1.there b o q (by simp)
   exact ⟨o', inB b o' (up1 b o' z) (old b o' z) (nL b o q hb)⟩
 . obtain ⟨o', z⟩ := hok.in q
   exact ⟨o', inB b o' z (ka q hHe) (nf b u q)⟩
theorem Zi : Passes (CXF P w) (cxOf (CXF P w) P w K mg base N qual scope f cd A outer s H E) E := by
 intro pins σ H1 s1 e s2 I hq
 obtain ⟨ea, cls, H2, B, a0, rfl, os, bare, un, hok, fl, hdk, covO, covH, hea, hE⟩ := hq
 have un : Un (frs (envOfC qual scope s.heap.objs.size f cd :: outer)) [] H1 H2 s1.heap s2.heap := un
 have fl : Heap.FlyingW B (envOfC qual scope s.heap.objs.size f cd :: outer) ea (rc cls) a0 s2.heap := fl
 have base1 : Un (frs outer) [] H H1 s.heap s1.heap := I.base
 have fr0 : frs (envOfC qual scope s.heap.objs.size f cd :: outer) = s.heap.objs.size :: frs outer := rfl
 have nL : ∀ b o, s.heap.get? b = some o -> b ∉ frs outer -> b ∉ frs (envOfC qual scope s.heap.objs.size f cd :: outer) := fun b o q hb z => by
  rw [fr0] at z
  rcases List.mem_cons.mp z with z | z
  . exact absurd (z ▸ Heap.lt_size q) (Nat.lt_irrefl _)
  . exact hb z
 refine Bd Vc (P := fun h3 => Heap.FlyingW B outer ea (rc cls) a0 h3 /\ s2.heap.UpToSlots h3) (fun Q' hq => wpAny_leaves_onW (L := s.heap.objs.size) I.ok.frames rfl fl fun h3 a b => hq h3 ⟨a, b⟩) fun h3 ⟨fl3, up⟩ kd => ?_
 have keepB : ∀ b o, s2.heap.get? b = some o -> (∃ o', B.get? b = some o') -> h3.get? b = some o := fun b o q ⟨o', z⟩ => by
  have z2 := fl.1 b o' z
  rw [q] at z2; cases z2
  exact fl3.1 b o z
 have frd : ∀ b, b ∈ frs outer -> ∃ o, s1.heap.get? b = some o /\ ∀ vs, o.data ≠ .fields vs := fun b hb => (I.funs.mem hb).2
 have sub : ∀ b, b ∈ frs outer -> b ∈ frs (envOfC qual scope s.heap.objs.size f cd :: outer) := fun b hb => by rw [fr0]; exact List.mem_cons_of_mem _ hb
 refine ⟨ea, cls, H2, B, a0, rfl, os.trans I.os, bare, ⟨fun b o q n hb hx' => ?_, fun b o q n hb hx' => ?_, fun b o q n hx' => ?_, fun b o q hx' => ?_, fun b xs q => un.tups b xs (base1.tups b xs q), fun b o xs q => un.frzs b o xs (base1.frzs b o xs q), fun b ps q => ?_⟩, ?_, fl3, hdk.kd kd, fun b o q hb => ?_, covH, hea, hE⟩
 . have z1 := base1.keep b o q n hb hx'
   have z2 := un.keep b o z1 (base1.free b o q n hx') (nL b o q hb) (by simp)
   exact keepB b o z2 (covO b o z1 (nL b o q hb))
 . obtain ⟨sl, z⟩ := base1.slot b o q n hb hx'
   obtain ⟨o2, z2, d2⟩ := frd b hb
   rw [z] at z2; cases z2
   obtain ⟨sl2, z3⟩ := un.slot b _ z (base1.free b o q n hx') (sub b hb) (by simp)
   obtain ⟨sl3, z4⟩ := up b _ z3 d2
   exact ⟨sl3, z4⟩
 . obtain ⟨o1, z1⟩ := base1.there b o q hx'
   exact un.free b o1 z1 (base1.free b o q n hx') (by simp)
 . obtain ⟨o1, z1⟩ := base1.there b o q hx'
   obtain ⟨o2, z2⟩ := un.there b o1 z1 (by simp)
   by_cases hb : b ∈ frs outer
   . obtain ⟨o', w1, d⟩ := frd b hb
     have nn : H1 b = none := I.Kc b (sub b hb)
     obtain ⟨sl2, z3⟩ := un.slot b o' w1 nn (sub b hb) (by simp)
     obtain ⟨sl3, z4⟩ := up b _ z3 d
     exact ⟨_, z4⟩
   . exact ⟨o2, keepB b o2 z2 (covO b o1 z1 (nL b o q hb))⟩
 . obtain ⟨m1, e1⟩ := base1.tbls b ps q
   obtain ⟨m2, e2⟩ := un.tbls b _ e1
   exact ⟨m1 ++ m2, by rw [e2, Array.append_assoc]⟩
 . exact hok.tracked fun b u o q z => keepB b o z (covH b u q)
 . obtain ⟨o1, z1⟩ := base1.there b o q (by simp)
   exact covO b o1 z1 (nL b o q hb)
end
abbrev bmV : List Value := [.type "ValueError", .type "Exception", .type "BaseException", .type "object"]
def Raises (X : Cx) (E : St -> XK) : Prop := ∀ (pins : List (Addr × Obj)) (σ : St) (H1 H2 : Hp) (s1 : Shared) (h' : Heap) (tk : Nat) (e : Addr) (cls a0 : Value) (oe : Obj) (vs : Array Value), Inv X pins σ H1 s1 ->
 (∀ b o, s1.heap.get? b = some o -> h'.get? b = some o) -> s1.heap.get? e = none -> h'.get? e = some oe -> oe.cls = rc cls -> oe.data = .fields vs -> vs[0]? = some a0 -> vs[1]? = some .none -> (∀ dx, dk cls = some dx -> oe.dict = some dx) ->
 HOk X.prog X.w H2 h' -> (∀ b u, H1 b = some u -> H2 b = some u) -> (∀ b u, H2 b = some u -> H1 b = some u \/ s1.heap.get? b = none) -> H2 e = none -> E σ cls (some e) H2 -> X.xe (.ref e) { s1 with heap := h', toks := tk }
def il (C : Addr) (E : St -> XK) (t : TA) : TS := fun _ σ H => t σ H fun vs H1 => vs.length <= sizeLine /\ ∀ ea, H1 ea = none -> E σ (.ref C) (some ea) H1
theorem sd {X : Cx} {E : St -> XK} {x : Str} {C : Addr} {e : Expr} {es : List Expr} {t : TA} {np cpos pos : Pos} (hR : Raises X E) (hc : X.calm = true) (hg : Gl X x) (hm : X.mg x = some (.ref C)) (hq : PySem.W.excIn X.K C bmV "ValueError.__new__" = true) (ha : PA X (e :: es) t)
 (hd : (x == ("__debug__" : Str)) = false := by decide) (he : starEach (e :: es) X.env = (false, eval e X.env) :: starEach es X.env := by first | rfl | with_unfolding_all rfl) (hpl : (backTo cpos (starEach es X.env)).any (·.1) = false := by first | rfl | with_unfolding_all rfl) :
 PS X (.Raise (some (.Call (.Name x np) (e :: es) [] cpos)) none pos) (il C E t) := by
 intro pins s σ H D I h
 have O : ∃ bm N nm q bs hdct sn sub ab col dd k0 k1 k2 k3 k5, ∀ {s1 : Shared}, X.K.In s1.heap -> s1.heap.get? C = some (excClassObj nm q C N bs bm hdct sn sub ab col dd k0 k1 k2 k3 k5 "ValueError.__new__") /\ (∃ mN, s1.heap.Ns N mN /\ mN "__init__" = none) /\ OwnTail s1.heap bmV bm := by
  have q := hq
  unfold PySem.W.excIn at q
  split at q
  . rename_i dd cd sl ho
    split at q
    . rename_i C' bm k0 k1 k2 k3 n k5 hmr hs
      simp only [Bool.and_eq_true, beq_iff_eq, Bool.not_eq_true'] at q
      obtain ⟨⟨⟨⟨⟨rfl, rfl⟩, hdel⟩, ht⟩, hok⟩, hni⟩ := q
      obtain ⟨nm, bs, mro, ns, qn, hdd, sn, sub, ab, col, del⟩ := cd
      dsimp only at hmr hdel hok hni
      subst hmr hdel
      have hsl : sl = #[k0, k1, k2, k3, some (.builtin "ValueError.__new__"), k5] := by
       obtain ⟨l⟩ := sl
       simp only at hs
       rw [hs]
      subst hsl
      exact ⟨bm, ns, nm, qn, bs, hdd, sn, sub, ab, col, dd, k0, k1, k2, k3, k5, fun {s1} KI => ⟨KI _ _ ho, ⟨_, .of_isNs (PySem.W.isNs_of_in KI hok), PySem.W.nsMap_none_of_in KI hok hni⟩, PySem.W.tail_of_in KI ht⟩⟩
    . cases q
  . cases q
 obtain ⟨bm, Nn, nm, q, bs, hdct, sn, sub, ab, col, dd, k0, k1, k2, k3, k5, O⟩ := O
 obtain ⟨hC, ⟨mN, hN, hni⟩, T⟩ := O (s1 := { s with heap := X.base }) I.mod.kin
 have hN : X.base.Ns Nn mN := hN
 refine wpAny_Raise_call_subU (C := C) (nm := nm) (q := q) (N := Nn) (bs := bs) (bm := bm) (hdct := hdct) (sn := sn) (sub := sub) (ab := ab) (col := col) (dd := dd) (k0 := k0) (k1 := k1) (k2 := k2) (k3 := k3) (k5 := k5)
  (PySem.F.excBase_ValueError) (bmB := bmV) (by decide) (PySem.F.excBase_ValueError) (mN := mN) (T.hasType (PySem.F.excBase_ValueError).hasBase) (I.ok.hd hc) (by rw [he]; show (false || (backTo cpos (starEach es X.env)).any (·.1)) = false; rw [hpl]; rfl) hni ?_
 refine Pc I hg hm ⟨rfl, ?_⟩ hd
 have hargs := ha cpos pins s σ H _ I h
 rw [he] at hargs ⊢
 refine Calls.evalArgs_plain (thn (show wpAny _ _ (spliced ((false, eval e X.env) :: backTo cpos (starEach es X.env))) _ _ s from hargs) fun us s2 ⟨vs, H2, I2, r2, hl, hE⟩ => ?_)
 obtain ⟨hC2, _, T2⟩ := O I2.kIn
 refine ⟨rfl, by rw [<- r2.length]; exact hl, hC2, hN.keeps I2.bk, T2, fun h' ea hx => ?_⟩
 have hea : H2 ea = none := by
  cases q : H2 ea with
  | none => rfl
  | some u => obtain ⟨o', z⟩ := I2.hok.in q; rw [hx.new] at z; cases z
 obtain ⟨t, he, _, _⟩ := hx.there
 exact hR pins σ H2 H2 s2 h' s2.toks ea (.ref C) (.ref t) _ _ I2 hx.keeps hx.new he rfl rfl rfl rfl (fun dx q => nomatch q) (I2.hok.kept hx.keeps) (fun _ _ q => q) (fun _ _ q => .inl q) hea (hE ea hea)
end L2
namespace L2
open PySem PySem.Spec PyProof.Rows
structure Yh (P : Program) (w : World) (outer : List Env) (H : Hp) (s : Shared) (ea : Addr) (cls : Value) (H' : Hp) (B : Heap) (a0 : Value) (s' : Shared) : Prop where
 os : s'.os = s.os
 bare : AllBare s'.gens
 un : Un (frs outer) [] H H' s.heap s'.heap
 hok : HOk P w H' s'.heap
 fly : Heap.FlyingW B outer ea (rc cls) a0 s'.heap
 dkk : Dk cls ea s'.heap
 covO : ∀ b o, s.heap.get? b = some o -> b ∉ frs outer -> ∃ o', B.get? b = some o'
 covH : ∀ b u, H' b = some u -> ∃ o', B.get? b = some o'
 hea : H' ea = none
theorem CXF.lies {P : Program} {w : World} {outer : List Env} {H : Hp} {s s' : Shared} {E : XK} {e : Value} (h : CXF P w outer H s E e s') : ∃ ea cls H' B a0, e = .ref ea /\ Yh P w outer H s ea cls H' B a0 s' /\ E cls (some ea) H' := by
 obtain ⟨ea, cls, H2, B, a0, rfl, os, bare, un, hok, fl, hdk, covO, covH, hea, hE⟩ := h
 exact ⟨ea, cls, H2, B, a0, rfl, ⟨os, bare, un, hok, fl, hdk, covO, covH, hea⟩, hE⟩
theorem Yh.step {P : Program} {w : World} {outer : List Env} {H : Hp} {s : Shared} {ea : Addr} {cls : Value} {H' : Hp} {B base : Heap} {a0 : Value} {s' : Shared} {h3 : Heap} (L : Yh P w outer H s ea cls H' B a0 s')
 (fu : s.heap.FunFrames base outer) (fr : ∀ b ∈ frs outer, H b = none) (fl : Heap.FlyingW B outer ea (rc cls) a0 h3) (up : s'.heap.UpToSlots h3) (kd : Kd s'.heap h3) : Yh P w outer H s ea cls H' B a0 { s' with heap := h3 } := by
 have keepB : ∀ b o, s'.heap.get? b = some o -> (∃ o', B.get? b = some o') -> h3.get? b = some o := fun b o q ⟨o', z⟩ => by
  have z2 := L.fly.1 b o' z
  rw [q] at z2; cases z2
  exact fl.1 b o z
 refine ⟨L.os, L.bare, ⟨fun b o q n hb hx => ?_, fun b o q n hb hx => ?_, L.un.free, fun b o q hx => ?_, L.un.tups, L.un.frzs, L.un.tbls⟩, ?_, fl, L.dkk.kd kd, L.covO, L.covH, L.hea⟩
 . exact keepB b o (L.un.keep b o q n hb hx) (L.covO b o q hb)
 . obtain ⟨sl, z⟩ := L.un.slot b o q n hb hx
   obtain ⟨_, o2, z2, d2⟩ := fu.mem hb
   rw [q] at z2; cases z2
   obtain ⟨sl2, z4⟩ := up b _ z d2
   exact ⟨sl2, z4⟩
 . obtain ⟨o', z⟩ := L.un.there b o q hx
   by_cases hb : b ∈ frs outer
   . obtain ⟨_, o2, z2, d2⟩ := fu.mem hb
     rw [q] at z2; cases z2
     obtain ⟨sl, z3⟩ := L.un.slot b o q (fr b hb) hb hx
     obtain ⟨sl2, z4⟩ := up b _ z3 d2
     exact ⟨_, z4⟩
   . exact ⟨o', keepB b o' z (L.covO b o q hb)⟩
 . exact L.hok.tracked fun b u o q z => keepB b o z (L.covH b u q)
structure Thr (X : Cx) (E : St -> XK) : Prop where
 pass : ∀ (pins : List (Addr × Obj)) (σ : St) (H : Hp) (s : Shared) (e : Value) (s' : Shared), Inv X pins σ H s -> CXF X.prog X.w X.stack H s (E σ) e s' -> X.xe e s'
 own : PassesOwn (model X.prog X.w) X.A X.env X.xe
section
variable {P : Program} {w : World} {K : PySem.W.Frag} {mg : Str -> Option Value} {base : Heap} {N : List Str} {qual : Str} {scope : Scope} {f : Addr} {cd : Value} {A : Around} {outer : List Env} {s : Shared} {H : Hp} {E : XK}
theorem Ua : Thr (cxOf (CXF P w) P w K mg base N qual scope f cd A outer s H E) (fun _ => E) :=
 ⟨fun pins σ H1 s1 e s2 I h => Zi pins σ H1 s1 e s2 I h, PassesOwn.leaving⟩
theorem Bc : Raises (cxOf (CXF P w) P w K mg base N qual scope f cd A outer s H E) (fun _ => E) := fun pins σ H1 H2 s1 h' tk e cls a0 oe vs I a b c d e' f' g' h1 i j k l m => Qh I a b c d e' f' g' h1 i j k l m
end
theorem gi {X : Cx} : Thr X.nox (fun _ _ _ _ => False) := ⟨fun _ _ _ _ _ _ _ h => by obtain ⟨_, _, _, _, _, _, _, z⟩ := h.lies; exact z, PassesOwn.never⟩
structure Ma (P : Program) (w : World) (K : PySem.W.Frag) (mg : Str -> Option Value) (base : Heap) (k : Nat) (x : Str) (ps : List Str) (sp : Sp) : Prop where
 ex : ∃ (f : Addr) (fd : FuncData), FnOk P w K mg base (CXF P w) k f fd ps sp /\ mg x = some (.ref f) /\ PySem.W.keepIn K (.ref f) = true /\ Binds K fd ps []
theorem Ma.of {P : Program} {w : World} {K : PySem.W.Frag} {mg : Str -> Option Value} {base : Heap} {x : Str} {st : Stmt} {N ps : List Str} {k : Nat} {sp : Sp} (U : Up K mg x st ps) (S : Ga N ps (ua st))
 (len : ∀ vs H Q E, sp vs H Q E -> vs.length = ps.length)
 (hbody : ∀ (f : Addr) (cdv : Value) (A : Around) (outer : List Env) (s : Shared) (H : Hp) (vs : List V) (Q : VK) (E : XK), Room k (A.deeper (envOfC x (ua st) s.heap.objs.size f cdv)) -> sp vs H Q E ->
   ∃ t, PSs (cxOf (CXF P w) P w K mg base N x (ua st) f cdv A outer s H E) (za st) t /\ t { nx := fun _ H' => Q .non H', rt := Q } (start N vs) H) : Ma P w K mg base (k + 1) x ps sp := by
 obtain ⟨f, fd, F, hm, hb⟩ := U.ex
 refine ⟨f, fd, ?_, hm, F.kp, hb⟩
 obtain ⟨oc, od, kV, doc, pm, an, cdv, ct, osl, rfl, lk, hcd⟩ := F.ex
 exact fn_of lk hcd S len fun A outer s H vs Q E hr hsp => hbody f cdv A outer s H vs Q E hr hsp
def tClE (sp : Sp) (E : St -> XK) (t : TA) : TE := fun σ H Q => t σ H fun vs H1 => sp vs H1 Q (E σ)
section
variable {X : Cx} {k : Nat} {ps : List Str} {sp : Sp} {x : Str} {p pos : Pos} {e : Expr} {es : List Expr} {t : TA} {E : St -> XK} {f : Addr} {fd : FuncData}
theorem dm {pins : List (Addr × Obj)} {σ : St} {H : Hp} {s : Shared} {Q : VK} {us : List Value} {vs : List V} (F : FnOk X.prog X.w X.K X.mg X.base (CXF X.prog X.w) k f fd ps sp) (hr : Room k X.A) (hb : Binds X.K fd ps []) (T : Thr X E)
 (I : Inv X pins σ H s) (r : Vals vs us) (h : sp vs H Q (E σ)) : wpAny (model X.prog X.w) X.A (call (.ref f) us) (EP X pins σ Q) X.xe s := by
 have hl : us.length = ps.length := by rw [<- r.length]; exact F.len _ _ _ _ h
 have bb := hb s us I.kIn (by rw [List.append_nil]; exact hl)
 rw [List.append_nil] at bb
 refine wpAny_call (codeAny_mono (F.run X.A X.stack s H ⟨us, []⟩ us vs Q (E σ) hr I.env0 bb r h) fun r s' hq => ?_)
 cases r with
 | error e => exact T.pass pins σ H s e s' I hq
 | ok fl =>
  cases fl with
  | ret u => exact I.after hq
  | next => exact False.elim hq
  | brk => exact False.elim hq
  | cont => exact False.elim hq
theorem Nb (C : Ma X.prog X.w X.K X.mg X.base k x ps sp) (T : Thr X E) (hr : Room k X.A) (hg : Gl X x) (ha : PA X (e :: es) t) (hdb : (x == ("__debug__" : Str)) = false := by decide)
 (he : starEach (e :: es) X.env = (false, eval e X.env) :: starEach es X.env := by first | rfl | with_unfolding_all rfl) (hpl : (backTo pos (starEach es X.env)).any (·.1) = false := by first | rfl | with_unfolding_all rfl) : PE X (.Call (.Name x p) (e :: es) [] pos) (tClE sp E t) := by
 obtain ⟨f, fd, F, hm, hk, hb⟩ := C.ex
 intro pins s σ H Q I h
 refine wpAny_Call_Name_kw (Pc I hg hm ?_ hdb)
 refine PySem.W.callWith_K (h₀ := X.base) I.ok.mod.kin hk (thn (ha pos pins s σ H _ I h) fun us s1 ⟨vs, H1, I1, r, q⟩ => ⟨I1.kIn, ?_⟩) he hpl
 exact dm F hr hb T I1 r q
end
def Rb (X : Cx) (pins : List (Addr × Obj)) (σ : St) (H' : Hp) (ea : Addr) (cls : Value) (s3 : Shared) : Prop := ∃ H1 s1 B a0, Inv X pins σ H1 s1 /\ Yh X.prog X.w X.stack H1 s1 ea cls H' B a0 s3
abbrev ei (X : Cx) (pins : List (Addr × Obj)) (EE : St -> XK) : Cx := { X with
 pn := X.pn ++ pins
 xe := fun e s' => wpAny (model X.prog X.w) X.A (noteFrame e X.env) (fun _ s2 => wpAny (model X.prog X.w) X.A (setFlight e none) (fun _ s3 => ∃ ea cls σ H', e = .ref ea /\ Rb X pins σ H' ea cls s3 /\ EE σ cls (some ea) H') X.xe s2) X.xe s' }
section
variable {X : Cx} {pins pins' : List (Addr × Obj)} {σ : St} {H H' : Hp} {s s' : Shared} {EE : St -> XK} {ea : Addr} {cls : Value}
theorem Rb.inv (h : Rb X pins σ H ea cls s) : Inv X pins σ H s := by
 obtain ⟨H1, s1, B, a0, I, L⟩ := h
 exact I.call' L.os L.un L.hok L.bare (fun b z => absurd z (by simp))
theorem Inv.toTry (I : Inv X pins σ H s) : Inv (ei X pins EE) [] σ H s :=
 ⟨⟨I.ok.mod, I.ok.kind, I.ok.glob, I.ok.blt, I.ok.above, I.ok.inj, I.ok.has, I.ok.cab, I.ok.hd, I.ok.frames, I.ok.stk, I.ok.exf, I.ok.bs, I.ok.bsz, I.ok.noex, I.ok.exfs, I.ok.funs, I.ok.frf⟩, I.os, I.bare, I.base, I.loc, I.cell, I.free, I.freeC,
  fun p hp => I.pin p (by rw [List.append_nil] at hp; exact hp), I.hok, I.len⟩
theorem Inv.Lg (I : Inv (ei X pins EE) pins' σ H s) : Inv X pins σ H s :=
 ⟨⟨I.ok.mod, I.ok.kind, I.ok.glob, I.ok.blt, I.ok.above, I.ok.inj, I.ok.has, I.ok.cab, I.ok.hd, I.ok.frames, I.ok.stk, I.ok.exf, I.ok.bs, I.ok.bsz, I.ok.noex, I.ok.exfs, I.ok.funs, I.ok.frf⟩, I.os, I.bare, I.base, I.loc, I.cell, I.free, I.freeC,
  fun p hp => I.pin p (List.mem_append_left _ hp), I.hok, I.len⟩
theorem SP.Lg {D : Ends} {f : Flow} (h : SP (ei X pins EE) pins' D f s') : SP X pins D f s' := by
 cases f with
 | next => obtain ⟨σ', H', I, q⟩ := h; exact ⟨σ', H', I.Lg, q⟩
 | brk => obtain ⟨σ', H', I, q⟩ := h; exact ⟨σ', H', I.Lg, q⟩
 | cont => obtain ⟨σ', H', I, q⟩ := h; exact ⟨σ', H', I.Lg, q⟩
 | ret u => obtain ⟨v, σ', H', I, r, q⟩ := h; exact ⟨v, σ', H', I.Lg, r, q⟩
structure OnTop (X : Cx) : Prop where
 st : X.stack = X.env :: X.outer
 fr : X.env.frame = some X.env.locals
theorem Vl (O : OnTop X) : Thr (ei X pins EE) EE := by
 refine ⟨fun pins' σ H s e s' I hq => ?_, PassesOwn.looking⟩
 obtain ⟨ea, cls, H', B, a0, rfl, L, hE⟩ := hq.lies
 have I0 : Inv X pins σ H s := I.Lg
 have L : Yh X.prog X.w X.stack H s ea cls H' B a0 s' := L
 have fl := L.fly
 rw [O.st] at fl
 refine Bd Df (P := fun h4 => Heap.HeldW B (X.env :: X.outer) ea (rc cls) a0 X.env.locals h4 /\ s'.heap.UpToSlots h4) (fun Q' hq => wpAny_looks_onW (outer := X.outer) (by rw [<- O.st]; exact I0.ok.frames) O.fr fl fun h4 a b => hq h4 ⟨a, b⟩) fun h4 ⟨held, up4⟩ kd4 => ?_
 refine Bd jb (P := fun h5 => Heap.FlyingW B (X.env :: X.outer) ea (rc cls) a0 h5 /\ h4.UpToSlots h5) (fun Q' hq => wpAny_landsW (s := { s' with heap := h4 }) held fun h5 a b => hq h5 ⟨a, b⟩) fun h5 ⟨fl5, up5⟩ kd5 => ?_
 rw [<- O.st] at fl5
 exact ⟨ea, cls, σ, H', rfl, ⟨H, s, B, a0, I0, L.step I0.stack I0.Kc fl5 (up4.trans up5) (kd4.trans kd5)⟩, hE⟩
end
end L2
namespace L2
open PySem PySem.Spec PyProof.Rows
def ErrO (ea : Addr) (cls : Value) : HO := .ext fun h => ∃ o, h.get? ea = some o /\ o.cls = rc cls /\ (∀ dx, dk cls = some dx -> o.dict = some dx) /\ ∃ vs, o.data = .fields vs
abbrev Mj (X : Cx) (pins : List (Addr × Obj)) (ea : Addr) : Cx := { X with A := X.A.mark (some (.ref ea)), calm := false, pn := X.pn ++ pins, xe := fun _ _ => False }
section
variable {X : Cx} {pins pins' : List (Addr × Obj)} {σ : St} {H H' : Hp} {s s' : Shared} {ea : Addr} {cls : Value}
theorem Inv.toSuf (I : Inv X pins σ H s) : Inv (Mj X pins ea) [] σ H s :=
 ⟨⟨I.ok.mod, I.ok.kind, I.ok.glob, I.ok.blt, I.ok.above, I.ok.inj, I.ok.has, I.ok.cab, fun z => (Bool.noConfusion z), I.ok.frames, I.ok.stk, I.ok.exf, I.ok.bs, I.ok.bsz, I.ok.noex, I.ok.exfs, I.ok.funs, I.ok.frf⟩, I.os, I.bare, I.base, I.loc, I.cell, I.free, I.freeC,
  fun p hp => I.pin p (by rw [List.append_nil] at hp; exact hp), I.hok, I.len⟩
theorem Inv.Kh (ok : X.Ok) (I : Inv (Mj X pins ea) pins' σ H s) : Inv X pins σ H s :=
 ⟨ok, I.os, I.bare, I.base, I.loc, I.cell, I.free, I.freeC, fun p hp => I.pin p (List.mem_append_left _ hp), I.hok, I.len⟩
theorem SP.Kh (ok : X.Ok) {D : Ends} {f : Flow} (h : SP (Mj X pins ea) pins' D f s') : SP X pins D f s' := by
 cases f with
 | next => obtain ⟨σ', H', I, q⟩ := h; exact ⟨σ', H', I.Kh ok, q⟩
 | brk => obtain ⟨σ', H', I, q⟩ := h; exact ⟨σ', H', I.Kh ok, q⟩
 | cont => obtain ⟨σ', H', I, q⟩ := h; exact ⟨σ', H', I.Kh ok, q⟩
 | ret u => obtain ⟨v, σ', H', I, r, q⟩ := h; exact ⟨v, σ', H', I.Kh ok, r, q⟩
theorem name_goes {M : Model} {A : Around} {E : Value -> Shared -> Prop} {Q : Unit -> Shared -> Prop} {i : Nat} {n : Str} {pos : Pos} (I : Inv X pins σ H s) (hN : X.N.Nodup) (hi : X.N[i]? = some n) (hl : X.env.kindOf n = some .local)
 (h : ∀ s', Inv X pins (σ.set i none) H s' -> Q () s') : wpAny M A (do bindName X.env n .none; unbindBehindTheSuite X.env n pos) Q E s := by
 obtain ⟨m, hn, hlk⟩ := id I.loc
 refine wpAny_nameGoes_keeps hl hn (by rw [I.ok.kind]; rfl) fun h' v hn' hs => ?_
 have cne := I.cne
 obtain ⟨oL, _, _, hoL, _⟩ := id hn
 refine h _ ⟨I.ok, I.os, I.bare, ⟨fun b o e n hb hx => ?_, fun b o e n hb hx => ?_, I.base.free, fun b o e hx => ?_, I.base.tups, I.base.frzs, I.base.tbls⟩, ⟨_, hn', fun j y v' e1 e2 e3 => ?_⟩, fun y c e => ?_, I.free, I.freeC, fun p hp => ?_, ?_, by simpa using I.len⟩
 . exact (hs.2 b (Nat.ne_of_lt (Nat.lt_of_lt_of_le (Heap.lt_size e) I.ok.above))).trans (I.base.keep b o e n hb hx)
 . obtain ⟨sl, e1⟩ := I.base.slot b o e n hb hx
   exact ⟨sl, (hs.2 b (Nat.ne_of_lt (Nat.lt_of_lt_of_le (Heap.lt_size e) I.ok.above))).trans e1⟩
 . obtain ⟨o', e1⟩ := I.base.there b o e hx
   exact ⟨o', (hs.2 b (Nat.ne_of_lt (Nat.lt_of_lt_of_le (Heap.lt_size e) I.ok.above))).trans e1⟩
 . have hj : j ≠ i := fun z => by
    subst z
    rw [List.getElem?_set] at e2
    simp only [if_true] at e2
    split at e2 <;> cases e2
   rw [List.getElem?_set_ne (Ne.symm hj)] at e2
   obtain ⟨u', r', q⟩ := hlk j y v' e1 e2 e3
   refine ⟨u', r', ?_⟩
   have ne : y ≠ n := fun z => hj (ff hN e1 (z ▸ hi))
   rcases q with ⟨k, e⟩ | ⟨k, c, e, z⟩
   . exact .inl ⟨k, by simp [ne, e]⟩
   . exact .inr ⟨k, c, e, z.sameBut hs (cne y c e)⟩
 . obtain ⟨w', z⟩ := I.cell y c e
   exact ⟨w', z.sameBut hs (cne y c e)⟩
 . obtain ⟨e, nn, ne, nf, d⟩ := I.pin p hp
   exact ⟨(hs.2 p.1 ne).trans e, nn, ne, nf, d⟩
 . refine I.hok.tracked fun b u o q z => (hs.2 b ?_).trans z
   intro y; subst y
   have := I.free
   rw [this] at q; cases q
end
abbrev TH := Ends -> Addr -> Value -> St -> Hp -> Prop
def PH (X : Cx) (hs : List ExceptHandler) (t : TH) : Prop := ∀ (pins : List (Addr × Obj)) (s : Shared) (σ : St) (H : Hp) (D : Ends) (ea : Addr) (cls : Value), Rb X pins σ H ea cls s -> t D ea cls σ H ->
 wpAny (model X.prog X.w) X.A (handleBy (.ref ea) X.env hs) (SP X pins D) X.xe s
def PCl (X : Cx) (e : Expr) (c : Value) : Prop := ∀ (A : Around) (E : Value -> Shared -> Prop) (pins : List (Addr × Obj)) (s : Shared) (σ : St) (H : Hp) (Q : Value -> Shared -> Prop), Inv X pins σ H s -> Q c s -> wpAny (model X.prog X.w) A (eval e X.env) Q E s
def Ends.drop (D : Ends) (i : Nat) : Ends := ⟨fun σ H => D.nx (σ.set i none) H, D.rt, fun σ H => D.bk (σ.set i none) H, fun σ H => D.ct (σ.set i none) H⟩
def hNil : TH := fun _ _ _ _ _ => False
def hAs (K : PySem.W.Frag) (c : Value) (i : Nat) (t : TS) (r : TH) : TH := fun D ea cls σ H => ∃ b, PySem.W.exmOne K (rc cls) c = some b /\ if b = true then t (D.drop i) (σ.set i (some (.ref ea))) (upd H ea (ErrO ea cls)) else r D ea cls σ H
section
variable {X : Cx} {c : Value} {e : Expr} {i : Nat} {n : Str} {b₀ : Stmt} {suite : List Stmt} {pos tpos : Pos} {hs : List ExceptHandler} {t : TS} {r : TH}
theorem ph_nil : PH X [] hNil := fun _ _ _ _ _ _ _ _ h => h.elim
theorem Rb.land {M : Model} {A : Around} {E : Value -> Shared -> Prop} {Q : Unit -> Shared -> Prop} {pins : List (Addr × Obj)} {σ : St} {H : Hp} {ea : Addr} {cls : Value} {s : Shared} (h : Rb X pins σ H ea cls s)
 (q : ∀ s', Rb X pins σ H ea cls s' -> Q () s') : wpAny M A (setFlight (.ref ea) none) Q E s := by
 obtain ⟨H1, s1, B, a0, I, L⟩ := h
 refine Bd jb (P := fun h' => Heap.FlyingW B X.stack ea (rc cls) a0 h' /\ s.heap.UpToSlots h') (fun Q' hq => lands_againW L.fly fun h' a b => hq h' ⟨a, b⟩) fun h' ⟨fl, up⟩ kd => ?_
 exact q _ ⟨H1, s1, B, a0, I, L.step I.stack I.Kc fl up kd⟩
theorem Rb.ty {M : Model} {pins : List (Addr × Obj)} {σ : St} {H : Hp} {ea : Addr} {cls : Value} {s : Shared} (h : Rb X pins σ H ea cls s) : PySem.W.Looks M s.heap (typeOf (.ref ea)) (rc cls) := by
 obtain ⟨H1, s1, B, a0, I, L⟩ := h
 obtain ⟨ob, h1, h2⟩ := L.fly.there
 exact h2 ▸ (PySem.W.Looks.ld h1).andThen .now
theorem Rb.fi {pins : List (Addr × Obj)} {σ : St} {H : Hp} {ea : Addr} {cls : Value} {s : Shared} (h : Rb X pins σ H ea cls s) : Inv X pins σ (upd H ea (ErrO ea cls)) s := by
 have J := h.inv
 obtain ⟨H1, s1, B, a0, I, L⟩ := h
 obtain ⟨oe, vs, he, hcls, hd, _⟩ := L.fly.first
 have old : ∀ b o, s1.heap.get? b = some o -> b ≠ ea := fun b o q z => by
  subst z
  by_cases hb : b ∈ frs X.stack
  . obtain ⟨_, o2, z2, d2⟩ := J.stack.mem hb
    rw [he] at z2; cases z2
    exact d2 vs hd
  . obtain ⟨o', z⟩ := L.covO b o q hb
    rw [L.fly.2.1] at z; cases z
 have trk : ∀ b u, H b = some u -> b ≠ ea := fun b u q => ka q L.hea
 have b0 : ∀ b o, X.s₀.heap.get? b = some o -> b ∉ X.ex -> b ≠ ea := fun b o q hx => by
  obtain ⟨o', z⟩ := I.base.there b o q hx
  exact old b o' z
 refine ⟨J.ok, J.os, J.bare, ⟨J.base.keep, J.base.slot, fun b o q n hx => ?_, J.base.there, fun b xs q => ?_, fun b o u q => ?_, fun b ps q => ?_⟩, J.loc, J.cell, ?_, fun x c q => ?_, fun p hp => ?_, fun b u q => ?_, J.len⟩
 . rw [wa (b0 b o q hx)]; exact J.base.free b o q n hx
 . have := J.base.tups b xs q
   rw [wa (trk _ _ this)]; exact this
 . have := J.base.frzs b o u q
   rw [wa (trk _ _ this)]; exact this
 . obtain ⟨m, z⟩ := J.base.tbls b ps q
   exact ⟨m, by rw [wa (trk _ _ z)]; exact z⟩
 . obtain ⟨m, ⟨o, _, _, ho, _⟩, _⟩ := I.loc
   rw [wa (old _ o ho)]; exact J.free
 . obtain ⟨v, o, ho, _⟩ := I.cell x c q
   rw [wa (old c o ho)]; exact J.freeC x c q
 . obtain ⟨e1, n1, r1⟩ := J.pin p hp
   obtain ⟨e2, _⟩ := I.pin p hp
   exact ⟨e1, by rw [wa (old _ _ e2)]; exact n1, r1⟩
 . by_cases hb : b = ea
   . subst hb
     rw [la] at q; cases q
     refine ⟨⟨oe, he, hcls, fun dx e => ?_, vs, hd⟩, ⟨oe, he⟩, fun h1 h2 ⟨o, e1, e2⟩ k => ⟨o, k o e1, e2⟩⟩
     obtain ⟨o', z1, z2⟩ := L.dkk dx e
     rw [he] at z1; cases z1
     exact z2
   . rw [wa hb] at q
     exact (J.hok b u q).stay (fun _ _ _ z => z) (fun c z => by rw [wa (trk _ _ z)]; exact z) fun c xs z => by rw [wa (trk _ _ z)]; exact z
theorem ph_as (hN : X.N.Nodup) (hi : X.N[i]? = some n) (hl : X.env.kindOf n = some .local) (hc : PCl X e c) (ht : ∀ pins ea, PSs (Mj X pins ea) (b₀ :: suite) t) (hr : PH X hs r) :
 PH X (.ExceptHandler (some e) (some n) (b₀ :: suite) pos :: hs) (hAs X.K c i t r) := by
 intro pins s σ H D ea cls C h
 obtain ⟨b, hb, h⟩ := h
 have I := C.inv
 refine wpAny_handleBy_cons (codeAny_handlers_test (hc _ _ pins s σ H _ I ?_)) (by intro q; cases q)
 have L := PySem.W.exm_one (M := model X.prog X.w) I.kIn C.ty hb
 refine L _ _ _ s (fun _ _ z => z) ?_
 cases b with
 | false => exact hr pins s σ H D ea cls C (by simpa using h)
 | true =>
  have h : t (D.drop i) (σ.set i (some (.ref ea))) (upd H ea (ErrO ea cls)) := by simpa using h
  refine codeAny_handlers_suite_as (C.land fun s2 C2 => ?_)
  refine qd C2.fi hN hi (.inl hl) (v := .ref ea) rfl (fun s3 I3 => ?_) (.inr hl)
  refine wpAny_mono (ht pins ea [] s3 _ _ (D.drop i) I3.toSuf h) (fun f s4 q => ?_) (fun _ _ z => z.elim)
  have q := q.Kh I.ok
  cases f with
  | next => obtain ⟨σ', H', I', q⟩ := q; exact name_goes I' hN hi hl fun s5 I5 => ⟨_, _, I5, q⟩
  | brk => obtain ⟨σ', H', I', q⟩ := q; exact name_goes I' hN hi hl fun s5 I5 => ⟨_, _, I5, q⟩
  | cont => obtain ⟨σ', H', I', q⟩ := q; exact name_goes I' hN hi hl fun s5 I5 => ⟨_, _, I5, q⟩
  | ret u => obtain ⟨v, σ', H', I', rv, q⟩ := q; exact name_goes I' hN hi hl fun s5 I5 => ⟨v, _, _, I5, rv, q⟩
theorem Yi {x : Str} {C : Addr} {np : Pos} (hg : Gl X x) (hm : X.mg x = some (.ref C)) (hd : (x == ("__debug__" : Str)) = false := by decide) : PCl X (.Name x np) (.ref C) := fun A E pins s σ H Q I q =>
 Calls.Name_function_global I.ok.kind hg (Calls.loadGlobal_global (by rw [I.ok.glob]; exact I.mod.glob.keeps I.bk) hm q) hd
def tTry (tb : (St -> XK) -> TS) (th : TH) : TS := fun D σ H => tb (fun σ1 cls oa H1 => ∃ ea, oa = some ea /\ th D ea cls σ1 H1) D σ H
theorem ps_try {body : List Stmt} {h₀ : ExceptHandler} {tb : (St -> XK) -> TS} {th : TH} (hb : ∀ pins EE, PSs (ei X pins EE) body (tb EE)) (hh : PH X (h₀ :: hs) th) : PS X (.Try body (h₀ :: hs) [] [] pos) (tTry tb th) := by
 intro pins s σ H D I h
 refine wpAny_Try_except ?_
 refine wpAny_mono (hb pins _ [] s σ H D I.toTry h) (fun f s1 q => ?_) (fun e s1 q => ?_)
 . have q := q.Lg
   cases f with
   | next => exact wpAny_execs_nil q
   | brk => exact q
   | cont => exact q
   | ret u => exact q
 . refine wpAny_mono q (fun _ s2 q2 => wpAny_mono q2 (fun _ s3 q3 => ?_) fun _ _ z => z) fun _ _ z => z
   obtain ⟨ea, cls, σ1, H1, rfl, C, ea', e', q⟩ := q3
   cases e'
   exact hh pins s3 σ1 H1 D ea cls C q
end
end L2
namespace PySem.W
open PySem PySem.Spec PySem.Calls PyProof.Rows Builtin Builtin.ObjectAttr Builtin.Getset_descriptor
section
variable {prog : Program} {w : World} {A : Around} {E : Value -> Shared -> Prop} {s : Shared} {K : Frag} {x C : Addr} {R : Result -> Shared -> Prop}
theorem Uh {tp : Value} (X : K.In s.heap) (ty : ∀ M : Model, Looks M s.heap (typeOf (.ref x)) (.ref C)) (hm : mroIn K C (.type "object") = some true)
 (h : R (.ok (.ret (.ref C))) s) : codeAny (model prog w) A (.call (.builtin "getset_descriptor.__get__") ⟨[.builtin "object.__class__", .ref x, tp], []⟩) R s := by
 obtain ⟨hh, g, dr, t, os⟩ := s
 have L0 := ty (model prog w)
 have L1 := looks_mroIn (M := model prog w) X hm
 refine codeAny_call_builtin KF.slot_gs.plain KF.entry_gs (KF.slot_gs.check _ _ _ _ _ _ _ _ KF.type_class (KF.args_gs _ _ _) ?_)
 unfold Builtin.«getset_descriptor.__get__» descrGet
 rw [dga_obj]
 refine wpAny_bind (wpAny_pure ?_)
 unfold descrGetter descrCheckInstance descrNameAndClass isInstance
 simp only [KF.owner_class]
 repeat lk
 refine ⟨Code.quiet_builtin _ (by decide +kernel), codeAny_builtin KF.entry_class ?_⟩
 unfold Builtin.«object.__class__» shownTypeOf
 repeat lk
 exact h
theorem Zc {nameV : Value} {Q : Unit -> Shared -> Prop} (X : K.In s.heap) (ty : ∀ M : Model, Looks M s.heap (typeOf (.ref x)) (.ref C)) (hb : mroIn K C (.type "BaseException") = some true) (hq : Q () s) {M : Model} :
 wpAny M A (checkBuiltinCall "BaseException.__getattribute__" ⟨[.ref x, nameV], []⟩) Q E s := by
 obtain ⟨hh, g, dr, t, os⟩ := s
 have hk : builtinKind "BaseException.__getattribute__" = some .slot := by decide +kernel
 have hsplit : splitId "BaseException.__getattribute__" = some ("BaseException", "__getattribute__") := by decide +kernel
 have L0 := ty M
 have L1 := looks_mroIn (M := M) X hb
 have LI : Looks M hh (isInstance (.ref x) (.type "BaseException")) true := L0.andThen L1
 have ha := F.args_bexc_ga (.ref x) nameV
 simp only [checkBuiltinCall, hk, hsplit]
 refine wpAny_bind (LI.at ?_)
 repeat (first | assumption | wp_step)
theorem jg {tk : Tok} {Q : Fin -> Shared -> Prop} (X : K.In s.heap) (ty : ∀ M : Model, Looks M s.heap (typeOf (.ref x)) (.ref C)) (hm : mroIn K C (.type "object") = some true) (hc : findIn K (.ref C) "__class__" = some (some (.builtin "object.__class__")))
 (hq : Q (.done (.ret (.ref C))) s) : wpAny (model prog w) A (Builtin.«object.__getattribute__» ⟨[.ref x, .str "__class__" tk], []⟩) Q E s := by
 obtain ⟨h, g, d, t, os⟩ := s
 have L0 := ty (model prog w)
 have L1 := looks_findIn (M := model prog w) X hc
 have hT5 : (⟨h, g, d, t, os⟩ : Shared).TypeIs (.builtin "object.__class__") "getset_descriptor" := F.typeOf_object_class
 have f5 := F.typeOf_object_class
 have f6 := F.slot_gs_get.lookup
 have f7 := F.slot_gs_set.lookup
 repeat (any_goals (first | assumption | with_reducible refine L0.at ?_ | with_reducible refine L1.at ?_ | wp_step))
 refine Uh X ty hm ?_
 repeat (any_goals (first | assumption | wp_step))
theorem rj {tk : Tok} {Q : Value -> Shared -> Prop} (X : K.In s.heap) (ty : ∀ M : Model, Looks M s.heap (typeOf (.ref x)) (.ref C)) (hb : mroIn K C (.type "BaseException") = some true) (hm : mroIn K C (.type "object") = some true) (hc : findIn K (.ref C) "__class__" = some (some (.builtin "object.__class__")))
 (hga : findIn K (.ref C) "__getattribute__" = some (some (.builtin "BaseException.__getattribute__"))) (hgt : findIn K (.ref C) "__getattr__" = some none)
 (hq : Q (.ref C) s) : wpAny (model prog w) A (getAttrBy (.ref x) (.str "__class__" tk) false) Q E s := by
 obtain ⟨h, g, d, t, os⟩ := s
 have L0 := ty (model prog w)
 have L1 := looks_findIn (M := model prog w) X hga
 have L2 := looks_findIn (M := model prog w) X hgt
 have f3 := F.excAttr_ValueError.ga.bind (.ref x)
 have hx2 : (Value.builtin "BaseException.__getattribute__" == Value.builtin "object.__getattribute__") = false := by decide +kernel
 have hx1 : (onTheHeap (Value.ref C) && Value.builtin "BaseException.__getattribute__" == Value.builtin "object.__getattribute__") = false := by rw [hx2]; rfl
 have hx0 : (false && onTheHeap (Value.builtin "BaseException.__getattribute__")) = false := rfl
 repeat (any_goals (first | assumption | with_reducible refine L0.at ?_ | with_reducible refine L1.at ?_ | with_reducible refine L2.at ?_ | wp_step))
 refine codeAny_call_builtin F.excAttr_ValueError.ga.plain F.entry_bexc_ga (Zc X ty hb (jg X ty hm hc ?_))
 repeat (any_goals (first | assumption | wp_step))
theorem Pg {Q : Option Value -> Shared -> Prop} (X : K.In s.heap) (ty : ∀ M : Model, Looks M s.heap (typeOf (.ref x)) (.ref C)) (hb : mroIn K C (.type "BaseException") = some true) (hm : mroIn K C (.type "object") = some true) (hc : findIn K (.ref C) "__class__" = some (some (.builtin "object.__class__")))
 (hga : findIn K (.ref C) "__getattribute__" = some (some (.builtin "BaseException.__getattribute__"))) (hgt : findIn K (.ref C) "__getattr__" = some none)
 (hq : Q (some (.ref C)) { s with toks := s.toks + 1 }) : wpAny (model prog w) A (getAttr? (.ref x) "__class__") Q E s := by
 obtain ⟨h, g, d, t, os⟩ := s
 unfold getAttr? getAttrBy?
 repeat (any_goals (first | assumption | (with_reducible refine rj (s := ⟨h, g, d, t + 1, os⟩) X ty hb hm hc hga hgt ?_) | wp_step))
end
end PySem.W
namespace L2
open PySem PySem.Spec PyProof.Rows
structure ErrK (K : PySem.W.Frag) (C : Addr) : Prop where
 ga : PySem.W.findIn K (.ref C) "__getattribute__" = some (some (.builtin "BaseException.__getattribute__"))
 gt : PySem.W.findIn K (.ref C) "__getattr__" = some none
 cl : PySem.W.findIn K (.ref C) "__class__" = some (some (.builtin "object.__class__"))
 mb : PySem.W.mroIn K C (.type "BaseException") = some true
 mo : PySem.W.mroIn K C (.type "object") = some true
theorem mh {M : Model} {h : Heap} {x : Addr} {C : Value} (p : ∃ o, h.get? x = some o /\ o.cls = C) : PySem.W.Looks M h (typeOf (.ref x)) C := by
 obtain ⟨o, h1, h2⟩ := p
 exact h2 ▸ (PySem.W.Looks.ld h1).andThen .now
theorem jj {K : PySem.W.Frag} {C : Addr} {b : Value} {r : Bool} (e : PySem.W.mroIn K C b = some r) : ∃ cd, PySem.W.clsIn K C = some cd := by
 obtain ⟨cd, h, _⟩ := Option.bind_eq_some_iff.mp e
 exact ⟨cd, h⟩
theorem Lk {K : PySem.W.Frag} {x C : Addr} (e : ErrK K C) : PySem.W.KitX K (.ref x) (.ref C) (fun h => ∃ o, h.get? x = some o /\ o.cls = .ref C) where
 ty := fun _ _ _ p => mh p
 it := fun _ _ X _ => by
  obtain ⟨cdD, hcD⟩ := jj e.mo
  unfold PySem.W.clsIn at hcD
  split at hcD
  . rename_i c' d' cd' sl' ho
    intro A' Q' E' s' k q
    unfold isType loadHead
    exact wpAny_bind (wpAny_loadPart (k _ _ (X _ _ ho)) (wpAny_pure q))
  . cases hcD
 ne := fun h tp dd its n sl X htp => by
  obtain ⟨cdD, hcD⟩ := jj e.mo
  refine Bool.eq_false_iff.mpr fun q => ?_
  have e : C = tp := Value.ref.inj (beq_iff_eq.mp q)
  subst e
  unfold PySem.W.clsIn at hcD
  split at hcD
  . rename_i c' d' cd' sl' ho
    have z := (X _ _ ho).symm.trans htp
    cases z
  . cases hcD
 ca := fun X p k => PySem.W.Pg X (fun _ => mh p) e.mb e.mo e.cl e.ga e.gt k
def ClV (c : V) (cv : Value) : Prop := (∃ D, c = .ref D /\ cv = .ref D) \/ ∃ n, c = .ty n /\ cv = .type n
theorem ClV.own {D : Addr} : ClV (.ref D) (.ref D) := .inl ⟨D, rfl, rfl⟩
theorem ClV.blt {n : String} : ClV (.ty n) (.type n) := .inr ⟨n, rfl, rfl⟩
def Bm (K : PySem.W.Frag) : List V -> Hp -> VK -> Prop := fun vs H Q => ∃ (ea C : Addr) (cls : Value) (c : V) (cv : Value) (b : Bool), vs = [.ref ea, c] /\ H ea = some (ErrO ea cls) /\ rc cls = .ref C /\ ErrK K C /\ ClV c cv /\ PySem.W.kitOne K (.ref C) cv = some b /\ Q (.bl b) H
section
variable {X : Cx} {K : PySem.W.Frag}
theorem isiE (hK : X.K = K) : ib X (.builtin "isinstance") (Bm K) := by
 subst hK
 intro pins s σ H xs us Q I r h
 obtain ⟨ea, C, cls, c, cv, b, rfl, hH, hrc, e, hc, hk, q⟩ := h
 obtain ⟨u, v, rfl, ru, rc⟩ := vals2 r
 cases ru
 have hv : v = cv := by
  rcases hc with ⟨D, rfl, rfl⟩ | ⟨n, rfl, rfl⟩
  . exact rc
  . exact rc
 subst hv
 obtain ⟨⟨oe, p1, p2, _⟩, _, _⟩ := (show fb X.prog X.w H s.heap ea (ErrO ea cls) from I.hok ea _ hH)
 have p : ∃ o, s.heap.get? ea = some o /\ o.cls = .ref C := ⟨oe, p1, p2.trans hrc⟩
 exact PySem.W.kia_one (Lk e) I.kIn p hk (fun z => nomatch z) fun tk => ⟨.bl b, H, I.tok _, rfl, q⟩
theorem Wi {x : Str} {C : Addr} {pos : Pos} (hg : Gl X x) (hm : X.mg x = some (.ref C)) (hd : (x == ("__debug__" : Str)) = false := by decide) : PE X (.Name x pos) (tC (.ref C)) :=
 fun _ _ _ H _ I h => Pc I hg hm ⟨.ref C, H, I, rfl, h⟩ hd
end
theorem Ic : bootBuiltins "ValueError" = some (.type "ValueError") := by decide +kernel
section
variable {tb : (St -> XK) -> TS} {th : TH} {n b c : St -> Hp -> Prop} {r : VK} {σ : St} {H : Hp} {Q : VK} {tA : TA} {sp : Sp} {E : St -> XK} {C : Addr} {D : Ends} {K : PySem.W.Frag} {cv cls : Value} {i : Nat} {t : TS} {ea : Addr}
theorem r_try (h : tb (fun σ1 cls oa H1 => ∃ ea, oa = some ea /\ th ⟨n, r, b, c⟩ ea cls σ1 H1) ⟨n, r, b, c⟩ σ H) : tTry tb th ⟨n, r, b, c⟩ σ H := h
theorem r_clE (h : tA σ H fun vs H1 => sp vs H1 Q (E σ)) : tClE sp E tA σ H Q := h
theorem km (h : tA σ H fun vs H1 => vs.length <= sizeLine /\ ∀ ea, H1 ea = none -> E σ (.ref C) (some ea) H1) : il C E tA D σ H := h
theorem r_as (hb : PySem.W.exmOne K (rc cls) cv = some true) (h : t ⟨fun σ H => n (σ.set i none) H, r, fun σ H => b (σ.set i none) H, fun σ H => c (σ.set i none) H⟩ (σ.set i (some (.ref ea))) (upd H ea (ErrO ea cls))) : hAs K cv i t th ⟨n, r, b, c⟩ ea cls σ H :=
 ⟨true, hb, by rw [if_pos rfl]; exact h⟩
theorem r_asF (hb : PySem.W.exmOne K (rc cls) cv = some false) (h : th D ea cls σ H) : hAs K cv i t th D ea cls σ H := ⟨false, hb, by rw [if_neg Bool.false_ne_true]; exact h⟩
theorem Mi {x : V} {k : Bool} (h1 : H ea = some (ErrO ea (.ref C))) (e : ErrK K C) (hc : ClV x cv) (hk : PySem.W.kitOne K (.ref C) cv = some k) (h : Q (.bl k) H) : Bm K [.ref ea, x] H Q := ⟨ea, C, _, x, cv, k, rfl, h1, rfl, e, hc, hk, h⟩
theorem Dl {x : V} {k : Bool} {dx : Addr} (h1 : H ea = some (ErrO ea (.int C dx))) (e : ErrK K C) (hc : ClV x cv) (hk : PySem.W.kitOne K (.ref C) cv = some k) (h : Q (.bl k) H) : Bm K [.ref ea, x] H Q := ⟨ea, C, _, x, cv, k, rfl, h1, rfl, e, hc, hk, h⟩
end
end L2
namespace PySem.W
open PySem PySem.Spec PySem.Calls PyProof.Rows Builtin Builtin.ObjectAttr
section
variable {prog : Program} {w : World} {A : Around} {E : Value -> Shared -> Prop} {h : Heap} {g : Array GenState} {d : Drawn} {t : Nat} {os : OsState} {K : Frag} {x C : Addr} {o : Obj} {name : Str} {v : Value} {bl : List Value}
def Sl (h : Heap) (x : Addr) (o : Obj) (name : Str) (v : Value) (h' : Heap) (dx : Addr) : Prop :=
 h.get? dx = none /\ dx ≠ x /\ h'.get? x = some { cls := o.cls, dict := some dx, data := o.data, slots := o.slots } /\ h'.Ns1 dx (fun y => if y = name then some v else none) /\ ∀ b ob, b ≠ x -> h.get? b = some ob -> h'.get? b = some ob
theorem gg {tk : Tok} {Q : Fin -> Shared -> Prop} (X : K.In h) (hx : h.get? x = some o) (hc : o.cls = .ref C) (hdn : o.dict = none) (hnc : ∀ c, o.data ≠ .cls c) (hm : Looks (model prog w) h (mroOf (.ref C)) bl)
 (hp : refuseLoop (.ref x) "__setattr__" bl = pure ()) (hf : findIn K (.ref C) name = some none) {oC : Obj} {cd : ClassData} (hC : h.get? C = some oC) (hCd : oC.data = .cls cd) (hCh : cd.hasDict = true) (hq : ∀ h' dx tk', Sl h x o name v h' dx -> Q (.done (.ret .none)) ⟨h', g, d, tk', os⟩) :
 wpAny (model prog w) A (Builtin.«object.__setattr__» ⟨[.ref x, .str name tk, v], []⟩) Q E ⟨h, g, d, t, os⟩ := by
 have L1 := looks_findIn (M := model prog w) X hf
 unfold Builtin.«object.__setattr__»
 repeat (first | rw [refuse_eq] | rw [hp] | (with_reducible refine wpAny_loadPart_at hx ?_; rw [hc]) | with_reducible refine hm.at ?_ | with_reducible refine L1.at ?_ | wp_step)
 rw [hCd]
 refine wpAny_pure ?_
 rw [hCh, hdn, if_neg (show ¬ ((!true) = true) by decide)]
 dsimp only
 rw [if_neg (show ¬ ((!true || !typeHasDict (Value.ref C)) = true) from Bool.false_ne_true)]
 have hx1 : (h.push { cls := .type "dict", data := .dict #[] }).get? x = some o := Heap.get?_push_of_some _ hx
 have hxs : x ≠ h.objs.size := Nat.ne_of_lt (Heap.lt_size hx)
 split
 . rename_i c hcd
   exact absurd hcd (hnc c)
 refine wpAny_bind (wpAny_alloc' (wpAny_bind (wpAny_update' hx1 (wpAny_bind (wpAny_pure (wpAny_pure ?_))))))
 have hfr := (Heap.get?_some_iff.mp hx).2
 have gx : ((h.push { cls := .type "dict", data := .dict #[] }).update x fun o => { cls := o.cls, dict := some h.objs.size, data := o.data, slots := o.slots }).get? x = some { cls := o.cls, dict := some h.objs.size, data := o.data, slots := o.slots } := Heap.get?_update_self _ hx1 (by
  obtain ⟨oc, od, odt, osl⟩ := o
  cases odt <;> first | rfl | exact hfr)
 have gd : ((h.push { cls := .type "dict", data := .dict #[] }).update x fun o => { cls := o.cls, dict := some h.objs.size, data := o.data, slots := o.slots }).get? h.objs.size = some { cls := .type "dict", data := .dict #[] } :=
  (Heap.get?_update_other _ _ hxs).trans (Heap.get?_push_at rfl rfl)
 have nd : ((h.push { cls := .type "dict", data := .dict #[] }).update x fun o => { cls := o.cls, dict := some h.objs.size, data := o.data, slots := o.slots }).Ns h.objs.size (fun _ => none) :=
  ⟨_, #[], _, gd, rfl, fun e he => absurd he (by simp), fun _ => rfl⟩
 have kp : ∀ b ob, b ≠ x -> h.get? b = some ob -> ((h.push { cls := .type "dict", data := .dict #[] }).update x fun o => { cls := o.cls, dict := some h.objs.size, data := o.data, slots := o.slots }).get? b = some ob := fun b ob hb q =>
  (Heap.get?_update_other _ _ (Ne.symm hb)).trans (Heap.get?_push_of_some _ q)
 generalize (h.push { cls := .type "dict", data := .dict #[] }).update x (fun o => { cls := o.cls, dict := some h.objs.size, data := o.data, slots := o.slots }) = h2 at gx gd nd kp ⊢
 show wpAny _ _ (storeInDict h.objs.size (.str name tk) name v) _ _ _
 unfold storeInDict newKeyGuard
 refine wpAny_bind (wpAny_pure (wpAny_bind (wpAny_nsSet1 (Heap.Ns1.of_empty nd) fun h' hn' hs => ?_)))
 obtain ⟨oD, esD, epD, hoD, hdD, hcD⟩ := hn'.count (Within.cons name v Within.nil)
 refine wpAny_bind (wpAny_lookBehind hoD (by rw [hdD]; exact pastItsLine_dict (Nat.le_trans hcD (by rw [List.length_cons, List.length_nil, sizeLine_eq]; omega))) ?_)
 wp_walk
 exact hq h' h.objs.size _ ⟨Heap.get?_none_of_le (Nat.le_refl _), hxs.symm, (hs.2 x hxs).trans gx, hn', fun b ob hb q => (hs.2 b (Nat.ne_of_lt (Heap.lt_size q))).trans (kp b ob hb q)⟩
theorem ig {nameV : Value} {Q : Unit -> Shared -> Prop} {s : Shared} (X : K.In s.heap) (ty : ∀ M : Model, Looks M s.heap (typeOf (.ref x)) (.ref C)) (hb : mroIn K C (.type "object") = some true) (hq : Q () s) {M : Model} :
 wpAny M A (checkBuiltinCall "object.__setattr__" ⟨[.ref x, nameV, v], []⟩) Q E s := by
 have LI : Looks M s.heap (isInstance (.ref x) (.type "object")) true := (ty M).andThen (looks_mroIn (M := M) X hb)
 have ha := PySem.F.store_object.args (.ref x) nameV v
 simp only [checkBuiltinCall, PySem.F.store_object.kind, PySem.F.store_object.split]
 refine wpAny_bind (LI.at ?_)
 cases hsig : Manifest.signature? "object.__setattr__" with
 | none => exact wpAny_pure hq
 | some sig =>
  simp only [argsOk, hsig] at ha
  have h2 : Bind.checkArgs "object.__setattr__" sig ⟨[.ref x, nameV, v], []⟩ = pure () := ha
  show wpAny M A (Bind.checkArgs "object.__setattr__" sig ⟨[.ref x, nameV, v], []⟩) Q E s
  rw [h2]
  exact wpAny_pure hq
theorem errSet {Q : Unit -> Shared -> Prop} (X : K.In h) (hx : h.get? x = some o) (hc : o.cls = .ref C) (hdn : o.dict = none) (hnc : ∀ c, o.data ≠ .cls c) (hm : Looks (model prog w) h (mroOf (.ref C)) bl)
 (hp : refuseLoop (.ref x) "__setattr__" bl = pure ()) (hf : findIn K (.ref C) name = some none) {oC : Obj} {cd : ClassData} (hC : h.get? C = some oC) (hCd : oC.data = .cls cd) (hCh : cd.hasDict = true)
 (hsa : findIn K (.ref C) "__setattr__" = some (some (.builtin "object.__setattr__"))) (hb : mroIn K C (.type "object") = some true) (hq : ∀ h' dx tk', Sl h x o name v h' dx -> Q () ⟨h', g, d, tk', os⟩) :
 wpAny (model prog w) A (setAttr (.ref x) name v) Q E ⟨h, g, d, t, os⟩ := by
 have L1 := looks_findIn (M := model prog w) X hsa
 have f3 := PySem.F.store_object.slot.bind (.ref x)
 have ty : ∀ M : Model, Looks M h (typeOf (.ref x)) (.ref C) := fun M => hc ▸ (Looks.ld hx).andThen .now
 have L0 := ty (model prog w)
 unfold setAttr callSpecial? specialOf
 repeat (any_goals (first | assumption | with_reducible refine L0.at ?_ | with_reducible refine L1.at ?_ | wp_step))
 refine codeAny_call_builtin PySem.F.store_object.slot.plain PySem.F.store_object.entry (ig (s := ⟨h, g, d, _, os⟩) X ty hb (gg X hx hc hdn hnc hm hp hf hC hCd hCh fun h' dx tk' st => ?_))
 repeat (any_goals (first | assumption | wp_step))
 exact hq h' dx tk' st
end
end PySem.W
namespace PySem.W
open PySem PySem.Spec PySem.Calls PyProof.Rows Builtin Builtin.ObjectAttr
abbrev vErr : List Value := [.type "ValueError", .type "Exception", .type "BaseException", .type "object"]
section
variable {prog : Program} {w : World} {A : Around} {E : Value -> Shared -> Prop} {h : Heap} {g : Array GenState} {d : Drawn} {t : Nat} {os : OsState}
variable {nm q : Str} {C N : Addr} {bs bm : List Value} {hd : Bool} {sn : List Str} {sub : List Value} {ab : Bool} {col : Option Bool} {dd : Option Addr} {k0 k1 k2 k3 k5 : Option Value}
theorem cn {e t0 : Addr} {v : Value} {R : Result -> Shared -> Prop} (T : OwnTail h vErr bm) (hC : h.get? C = some (excClassObj nm q C N bs bm hd sn sub ab col dd k0 k1 k2 k3 k5 "ValueError.__new__"))
 (he : h.get? e = some { cls := .ref C, data := .fields #[.ref t0, .none, .none, .none, .bool false, .none] })
 (hq : ∀ h', h'.get? e = some { cls := .ref C, data := .fields #[.ref h.objs.size, .none, .none, .none, .bool false, .none] } -> (∀ b o, b ≠ e -> h.get? b = some o -> h'.get? b = some o) -> R (.ok (.ret .none)) ⟨h', g, d, t, os⟩) :
 codeAny (model prog w) A (.call (.builtin "ValueError.__init__") ⟨[.ref e, v], []⟩) R ⟨h, g, d, t, os⟩ := by
 refine codeAny_call_builtin PySem.F.excBase_ValueError.init.plain PySem.F.excBase_ValueError.initEntry (wpAny_check_init_subU PySem.F.excBase_ValueError T hC he rfl ?_)
 wp_walk
 refine hq _ ?_ fun b o hb qb => ?_
 . rw [Heap.get?_update_self _ (Heap.get?_push_of_some _ he) rfl]
   rfl
 . rw [Heap.get?_update_other _ _ (Ne.symm hb)]
   exact Heap.get?_push_of_some _ qb
theorem Rk {mN : Str -> Option Value} {vs : List Value} {fI : Addr} {oI : Obj} {Q : Fin -> Shared -> Prop} (T : OwnTail h vErr bm) (hC : h.get? C = some (excClassObj nm q C N bs bm hd sn sub ab col dd k0 k1 k2 k3 k5 "ValueError.__new__"))
 (hn : h.Ns N mN) (hi : mN "__init__" = some (.ref fI)) (hfI : h.get? fI = some oI) (hfc : oI.cls = .type "function") (hl : vs.length <= sizeLine)
 (hq : ∀ h' e, Heap.MadeExcOf h h' e (.ref C) vs -> wpAny (model prog w) A (call (.ref fI) (.ref e :: vs)) (fun r s' => r = .none /\ Q (.done (.ret (.ref e))) s') E ⟨h', g, d, t, os⟩) :
 wpAny (model prog w) A (Builtin.«type.__call__» ⟨.ref C :: vs, []⟩) Q E ⟨h, g, d, t, os⟩ := by
 have FV := PySem.F.excBase_ValueError
 have hBn : vErr.contains (.type "ValueError") = true := FV.hasB
 repeat (first | with_reducible refine wpAny_loadPart_at hC ?_ | with_reducible refine wpAny_madeBy_exc hC ?_ | wp_step)
 refine codeAny_call_builtin_code (Code.quiet_builtin _ FV.quiet) (wpAny_check_new_subU FV hBn T hC (codeAny_exc_new_subU FV hBn FV T hC ?_ hl))
 show wpAny _ _ _ _ _ _
 have kp : ∀ b o, h.get? b = some o -> ((h.push { cls := .type "tuple", data := .seq vs.toArray }).push { cls := .ref C, data := .fields #[.ref h.objs.size, .none, .none, .none, .bool false, .none] }).get? b = some o :=
  fun b o z => Heap.get?_push_of_some _ (Heap.get?_push_of_some _ z)
 have ge : ((h.push { cls := .type "tuple", data := .seq vs.toArray }).push { cls := .ref C, data := .fields #[.ref h.objs.size, .none, .none, .none, .bool false, .none] }).get? (h.objs.size + 1) = some { cls := .ref C, data := .fields #[.ref h.objs.size, .none, .none, .none, .bool false, .none] } := by heap_get
 have gt : ((h.push { cls := .type "tuple", data := .seq vs.toArray }).push { cls := .ref C, data := .fields #[.ref h.objs.size, .none, .none, .none, .bool false, .none] }).get? h.objs.size = some { cls := .type "tuple", data := .seq vs.toArray } := Heap.get?_push_of_some _ (Heap.get?_push_at rfl rfl)
 have mk : Heap.MadeExcOf h ((h.push { cls := .type "tuple", data := .seq vs.toArray }).push { cls := .ref C, data := .fields #[.ref h.objs.size, .none, .none, .none, .bool false, .none] }) (h.objs.size + 1) (.ref C) vs :=
  ⟨kp, Heap.get?_none_of_le (Nat.le_succ _), h.objs.size, ge, Heap.get?_none_of_le (Nat.le_refl _), gt⟩
 have own : (Value.ref C :: bm).contains (.ref C) = true := by simp
 have C1 := kp _ _ hC
 have f1 := kp _ _ hfI
 have n1 := hn.keeps kp
 have T1 := T.keeps kp
 have go := hq _ _ mk
 generalize (h.push { cls := .type "tuple", data := .seq vs.toArray }).push { cls := .ref C, data := .fields #[.ref h.objs.size, .none, .none, .none, .bool false, .none] } = h1 at ge C1 f1 n1 T1 go ⊢
 unfold isInstance
 repeat (first | with_reducible refine wpAny_loadPart_at ge ?_ | (with_reducible refine wpAny_isSubtype_exc C1 ?_; rw [own]) | wp_step)
 show wpAny _ _ (typeLookup (.ref C) _) _ _ _
 refine wpAny_typeLookup_tail C1 n1 T1 FV.mroIs FV.init.lookup ?_
 rw [hi]
 refine wpAny_holding (wpAny_bind ?_)
 unfold bindSpecial
 refine wpAny_bind (wpAny_typeOf (T := "function") ⟨_, f1, hfc⟩ ?_)
 rw [if_pos (by decide)]
 refine wpAny_pure (wpAny_bind (wpAny_mono go (fun r s' hr => ?_) fun _ _ z => z))
 obtain ⟨rfl, hQ⟩ := hr
 wp_walk
 exact hQ
theorem Zm {mN : Str -> Option Value} {vs : List Value} {fI : Addr} {oI : Obj} {Q : Value -> Shared -> Prop} (T : OwnTail h vErr bm) (hC : h.get? C = some (excClassObj nm q C N bs bm hd sn sub ab col dd k0 k1 k2 k3 k5 "ValueError.__new__"))
 (hn : h.Ns N mN) (hi : mN "__init__" = some (.ref fI)) (hfI : h.get? fI = some oI) (hfc : oI.cls = .type "function") (hl : vs.length <= sizeLine)
 (hq : ∀ h' e, Heap.MadeExcOf h h' e (.ref C) vs -> wpAny (model prog w) (A.under (.builtin "type.__call__" ⟨.ref C :: vs, []⟩)) (call (.ref fI) (.ref e :: vs)) (fun r s' => r = .none /\ Q (.ref e) s') E ⟨h', g, d, t, os⟩) :
 wpAny (model prog w) A (call (.ref C) vs) Q E ⟨h, g, d, t, os⟩ := by
 have f1 := tc_lookup
 have f2 := tc_bind (.ref C)
 have tC : (⟨h, g, d, t, os⟩ : Shared).TypeIs (.ref C) "type" := ⟨_, hC, rfl⟩
 refine wpAny_call (codeAny_of_tree ?_)
 show wpAny _ _ (callAny (.ref C) _) _ _ _
 repeat (any_goals (first | assumption | with_reducible refine wpAny_loadPart_at hC ?_ | wp_step))
 refine ⟨rfl, codeAny_call_builtin_at (Code.quiet_builtin _ (by decide +kernel)) entry_typeCall (wpAny_check_type_call_sub hC (Rk T hC hn hi hfI hfc hl fun h' e mk => ?_))⟩
 exact hq h' e mk
end
end PySem.W
namespace L2
open PySem PySem.Spec PyProof.Rows
def vd (p1 p2 p3 p4 p5 p6 p7 p8 p9 p10 p11 p12 p13 p14 : Pos) : List Stmt := [
 .Expr (.Call (.Attribute (.Name "BallotError" p1) "__init__" p2) [.Name "self" p3, .JoinedStr [.Constant (.str "round ") 0 p4, .FormattedValue (.Name "at" p5) (-1) none p6, .Constant (.str " of the row does not fit") 0 p7] p8] [] p9) p10,
 .Assign [.Attribute (.Name "self" p11) "at" p12] (.Name "at" p13) p14]
def initArgs (pa pb : Pos) : Arguments := { posonlyargs := [], args := [{ arg := "self", annotation := none, pos := pa }, { arg := "at", annotation := none, pos := pb }], vararg := none, kwonlyargs := [], kw_defaults := [], kwarg := none, defaults := [] }
def Fc : Scope := { kind := .function, names := [("self", .local), ("at", .local), ("BallotError", .globalImplicit)], isGenerator := false, isCoroutine := false, more := [] }
section
variable {prog : Program} {w : World} {A : Around} {s : Shared} {K : PySem.W.Frag} {mg : Str -> Option Value}
variable {nm q : Str} {C N C0 e t0 fI : Addr} {bs bm bl : List Value} {hd : Bool} {sn : List Str} {sub : List Value} {ab : Bool} {col : Option Bool} {dd : Option Addr} {k0 k1 k2 k3 k5 : Option Value}
variable {p1 p2 p3 p4 p5 p6 p7 p8 p9 p10 p11 p12 p13 p14 pa pb : Pos} {qual name : Str} {kV doc pm cdv ct oc : Value} {an od : Option Addr} {osl : Array (Option Value)} {k : Int} {tk : Tok}
theorem Mk {env : Env} {m : Str -> Option Value} {E : Value -> Shared -> Prop} {Q : Flow -> Shared -> Prop} (hk0 : env.scope.kind = .function) (e1 : env.kindOf "self" = some .local) (e2 : env.kindOf "at" = some .local) (e3 : env.kindOf "BallotError" = some .globalImplicit) (eg : env.globals = mainGlobals)
 (ns : s.heap.Ns env.locals m) (m1 : m "self" = some (.ref e)) (m2 : m "at" = some (.int k tk)) (X : K.In s.heap) (G : s.heap.Ns mainGlobals mg) (hm : mg "BallotError" = some (.ref C0)) (hline : (p2.endLine == p9.line) = true)
 (r0 : PySem.W.readsIn K C0 (.type "type") = true) (fc : PySem.W.findCls K (.ref C0) (.type "type") "__init__" = some (.val (.builtin "ValueError.__init__"))) (sg : PySem.W.specialIn K (.ref C0) "__getattribute__" = some (some (.builtin "type.__getattribute__")))
 (T : OwnTail s.heap PySem.W.vErr bm) (hC : s.heap.get? C = some (excClassObj nm q C N bs bm true sn sub ab col dd k0 k1 k2 k3 k5 "ValueError.__new__")) (he : s.heap.get? e = some { cls := .ref C, data := .fields #[.ref t0, .none, .none, .none, .bool false, .none] })
 (hmro : ∀ h, K.In h -> PySem.W.Looks (model prog w) h (mroOf (.ref C)) bl) (hp : refuseLoop (.ref e) "__setattr__" bl = pure ()) (hf : PySem.W.findIn K (.ref C) "at" = some none) (hsa : PySem.W.findIn K (.ref C) "__setattr__" = some (some (.builtin "object.__setattr__"))) (hb : PySem.W.mroIn K C (.type "object") = some true)
 (hKe : K.lookup e = none) (hk : 0 <= k /\ k < 200) (heC : e ≠ C) (hel : e ≠ env.locals)
 (hq : ∀ h' dx t1 tk', h'.get? e = some { cls := .ref C, dict := some dx, data := .fields #[.ref t1, .none, .none, .none, .bool false, .none] } -> h'.Ns1 dx (fun y => if y = "at" then some (.int k tk) else none) -> (∀ b o, b ≠ e -> s.heap.get? b = some o -> h'.get? b = some o) -> s.heap.get? dx = none -> dx ≠ e -> Q .next { s with heap := h', toks := tk' }) :
 wpAny (model prog w) A (execs (vd p1 p2 p3 p4 p5 p6 p7 p8 p9 p10 p11 p12 p13 p14) env) Q E s := by
 have hi : interactive env = false := by simp [interactive, hk0]
 refine wpAny_execs_cons (wpAny_Expr_any ?_ hi rfl)
 rw [show eval (.Call (.Attribute (.Name "BallotError" p1) "__init__" p2) [.Name "self" p3, .JoinedStr [.Constant (.str "round ") 0 p4, .FormattedValue (.Name "at" p5) (-1) none p6, .Constant (.str " of the row does not fit") 0 p7] p8] [] p9) env = (do
  let ov <- eval (.Name "BallotError" p1) env
  standAt p2.atName
  methodCall (.Name "BallotError" p1) "__init__" p2 p9 env ov 2 (backTo p9 (starEach [.Name "self" p3, .JoinedStr [.Constant (.str "round ") 0 p4, .FormattedValue (.Name "at" p5) (-1) none p6, .Constant (.str " of the row does not fit") 0 p7] p8] env)) (backToKw p9 (keywordEach [] env))) from rfl]
 refine wpAny_bind (Calls.Name_function_global hk0 e3 (Calls.loadGlobal_global (mg := mg) (by rw [eg]; exact G) hm (wpAny_bind (wpAny_standAt ?_))) (by decide))
 unfold methodCall
 refine wpAny_bind (wpAny_holding ?_)
 rw [show methodCallForm 2 (backTo p9 (starEach [.Name "self" p3, .JoinedStr [.Constant (.str "round ") 0 p4, .FormattedValue (.Name "at" p5) (-1) none p6, .Constant (.str " of the row does not fit") 0 p7] p8] env)) (backToKw p9 (keywordEach [] env)) = true from rfl]
 unfold calleeOf
 rw [if_pos rfl]
 refine PySem.W.method_cls X sg (PySem.W.cls_value X r0 fc rfl ?_)
 dsimp only
 unfold methodCallPos
 rw [hline, if_pos (show ((!true || true) = true) from rfl)]
 refine wpAny_bind (wpAny_pure ?_)
 refine Calls.callWith_builtin rfl (Calls.evalArgs_plain ?_)
 have ld : ∀ {x : Str} {v : Value} {p : Pos} {h : Heap} {t : Nat} {Q' : Value -> Shared -> Prop}, h.Ns env.locals m -> env.kindOf x = some .local -> m x = some v -> (x == ("__debug__" : Str)) = false -> Q' v { s with heap := h, toks := t } -> wpAny (model prog w) A (eval (.Name x p) env) Q' E { s with heap := h, toks := t } := fun a b c d q => wpAny_Name (wpAny_loadName_local hk0 b a c q) d
 obtain ⟨j, rfl, hj⟩ : ∃ j : Nat, k = j /\ j < 200 := ⟨k.toNat, by omega, by omega⟩
 have lg : ((j : Int).natAbs.log2) < 1920 := by
  have : ∀ j : Fin 200, ((j.1 : Int).natAbs.log2) < 1920 := by decide +kernel
  exact this ⟨j, hj⟩
 have tl : (Str.ofString (toString (j : Int))).length <= 3 := by
  have : ∀ j : Fin 200, (Str.ofString (toString (j.1 : Int))).length <= 3 := by decide +kernel
  exact this ⟨j, hj⟩
 refine Calls.spliced_cons (ld ns e1 m1 (by decide) (Calls.spliced_cons (wpAny_JoinedStr (pos := p8) ?_)))
 refine Calls.Constant_str ⟨_, _, rfl, by decide +kernel, ?_⟩
 refine wpAny_FormattedValue_plain (ld ns e2 m2 (by decide) (wpAny_formatField_int lg ⟨_, _, rfl, ?_, ?_⟩))
 . rw [strLen_append]
   have : (Str.empty ++ Str.ofString "round ").length = 6 := by decide +kernel
   rw [this, sizeLine_eq]
   omega
 refine Calls.Constant_str ⟨_, _, rfl, ?_, ?_, Calls.spliced_nil ?_⟩
 . rw [strLen_append, strLen_append]
   have : (Str.empty ++ Str.ofString "round ").length = 6 := by decide +kernel
   have : (Str.ofString " of the row does not fit").length = 24 := by decide +kernel
   rw [sizeLine_eq]
   omega
 . rw [strLen_append, strLen_append]
   have : (Str.empty ++ Str.ofString "round ").length = 6 := by decide +kernel
   have : (Str.ofString " of the row does not fit").length = 24 := by decide +kernel
   rw [sizeLine_eq]
   omega
 refine wpAny_call (PySem.W.cn T hC he fun h' he2 kp2 => ?_)
 have X2 : K.In h' := fun b o z => kp2 b o (fun y => by rw [y, hKe] at z; cases z) (X b o z)
 have C2 := kp2 _ _ heC.symm hC
 have n2 : h'.Ns env.locals m := by
  obtain ⟨o, es, ep, ho, r⟩ := ns
  exact ⟨o, es, ep, kp2 _ _ hel.symm ho, r⟩
 show wpAny _ _ _ _ _ _
 refine wpAny_execs_cons (plainObj_wpAny_Assign_Attribute (ld n2 e2 m2 (by decide) (ld n2 e1 m1 (by decide) ?_)) rfl)
 refine PySem.W.errSet X2 he2 rfl rfl (fun c z => by cases z) (hmro _ X2) hp hf C2 rfl rfl hsa hb fun h3 dx tk3 st => ?_
 obtain ⟨s1, s2, s3, s4, s5⟩ := st
 refine wpAny_execs_nil (hq h3 dx s.heap.objs.size tk3 s3 s4 (fun b o hb z => s5 b o hb (kp2 b o hb z)) ?_ s2)
 cases z : s.heap.get? dx with
 | none => rfl
 | some o =>
  have := kp2 dx o s2 z
  rw [s1] at this
  cases this
theorem Vm {R : Result -> Shared -> Prop} (X : K.In s.heap) (G : s.heap.Ns mainGlobals mg) (hm : mg "BallotError" = some (.ref C0)) (hroom : A.depth < recursionLimit) (hlim : s.heap.NoLimit) (hcd : s.heap.CodeRec cdv qual)
 (lk : s.heap.get? fI = some ⟨oc, od, .func (PySem.W.fnOf name qual (initArgs pa pb) (vd p1 p2 p3 p4 p5 p6 p7 p8 p9 p10 p11 p12 p13 p14) Fc .none kV doc pm an cdv ct), osl⟩) (hline : (p2.endLine == p9.line) = true)
 (r0 : PySem.W.readsIn K C0 (.type "type") = true) (fc : PySem.W.findCls K (.ref C0) (.type "type") "__init__" = some (.val (.builtin "ValueError.__init__"))) (sg : PySem.W.specialIn K (.ref C0) "__getattribute__" = some (some (.builtin "type.__getattribute__")))
 (T : OwnTail s.heap PySem.W.vErr bm) (hC : s.heap.get? C = some (excClassObj nm q C N bs bm true sn sub ab col dd k0 k1 k2 k3 k5 "ValueError.__new__")) (he : s.heap.get? e = some { cls := .ref C, data := .fields #[.ref t0, .none, .none, .none, .bool false, .none] })
 (hmro : ∀ h, K.In h -> PySem.W.Looks (model prog w) h (mroOf (.ref C)) bl) (hp : refuseLoop (.ref e) "__setattr__" bl = pure ()) (hf : PySem.W.findIn K (.ref C) "at" = some none) (hsa : PySem.W.findIn K (.ref C) "__setattr__" = some (some (.builtin "object.__setattr__"))) (hb : PySem.W.mroIn K C (.type "object") = some true)
 (hKe : K.lookup e = none) (hk : 0 <= k /\ k < 200)
 (hq : ∀ h' dx t1 tk', h'.get? e = some { cls := .ref C, dict := some dx, data := .fields #[.ref t1, .none, .none, .none, .bool false, .none] } -> h'.Ns1 dx (fun y => if y = "at" then some (.int k tk) else none) -> (∀ b o, b ≠ e -> s.heap.get? b = some o -> h'.get? b = some o) -> s.heap.get? dx = none -> dx ≠ e -> R (.ok (.ret .none)) { s with heap := h', toks := tk' }) :
 codeAny (model prog w) A (.call (.ref fI) ⟨[.ref e, .int k tk], []⟩) R s := by
 refine codeAny_call_straight (binds := [("self", .ref e), ("at", .int k tk)]) hroom lk rfl hlim hcd rfl rfl (by show ∀ x ∈ Fc.names, x.2 ≠ NameKind.cell; decide) (by intro y hy; rcases List.mem_cons.mp hy with rfl | hy; rfl; rcases List.mem_cons.mp hy with rfl | hy; rfl; cases hy) fun s1 ic => ?_
 obtain ⟨h1, tk1, rfl⟩ := ic.same
 have heC : e ≠ C := fun z => by
  subst z
  rw [he] at hC
  cases hC
 refine Mk (s := { s with heap := h1, toks := tk1 }) rfl rfl rfl rfl rfl ic.ns rfl rfl (X.keeps ic.keep) (G.keeps ic.keep) hm hline r0 fc sg (T.keeps ic.keep) (ic.keep _ _ hC) (ic.keep _ _ he) hmro hp hf hsa hb hKe hk heC (Nat.ne_of_lt (Heap.lt_size he)) fun h' dx t1 tk' a b c d' f => ?_
 refine hq h' dx t1 tk' a b (fun b o hb z => c b o hb (ic.keep b o z)) ?_ f
 cases z : s.heap.get? dx with
 | none => rfl
 | some o =>
  have := ic.keep dx o z
  rw [d'] at this
  cases this
end
end L2
namespace PySem.W
open PySem PySem.Spec PySem.Calls PyProof.Rows
section
variable {M : Model} {A : Around} {E : Value -> Shared -> Prop} {s : Shared} {env : Env}
variable {nm q : Str} {C N : Addr} {bs bm : List Value} {hd : Bool} {sn : List Str} {sub : List Value} {ab : Bool} {col : Option Bool} {dd : Option Addr} {k0 k1 k2 k3 k5 : Option Value}
theorem Qk {x : Sem Value} {Q : Flow -> Shared -> Prop} (hbase : bm.contains (.type "BaseException") = true) (hh : A.handled = none)
 (h : wpAny M A x (fun v s₁ => ∃ e t dx, v = .ref e /\ s₁.heap.get? C = some (excClassObj nm q C N bs bm hd sn sub ab col dd k0 k1 k2 k3 k5 "ValueError.__new__") /\
   s₁.heap.get? e = some { cls := .ref C, dict := some dx, data := .fields #[.ref t, .none, .none, .none, .bool false, .none] } /\ E (.ref e) s₁) E s) : wpAny M A (raiseStmt env (some x) none) Q E s := by
 have cB : (Value.ref C :: bm).contains (.type "BaseException") = true := by rw [List.contains_cons, hbase, Bool.or_true]
 unfold raiseStmt
 refine wpAny_bind (wpAny_mono h (fun v s₁ z => ?_) fun _ _ z => z)
 obtain ⟨e, t, dx, rfl, hC, he, hE⟩ := z
 obtain ⟨hp, g, d, tk, os⟩ := s₁
 repeat (first | with_reducible refine wpAny_loadPart_at he ?_ | with_reducible refine wpAny_loadPart_at hC ?_ | (with_reducible refine wpAny_isSubtype_exc hC ?_; rw [cB]) | wp_step)
 exact wpAny_raiseNew_none hh hE
end
end PySem.W
namespace L2
open PySem PySem.Spec PyProof.Rows
theorem Qm {K : PySem.W.Frag} {h : Heap} {N : Addr} {m : Str -> Option Value} {x : Str} {v : Value} (X : K.In h) (G : h.Ns N m) (e : PySem.W.nsIn K N x = some (some v)) : m x = some v := by
 obtain ⟨o, es, ep, ho, hd, _, hf⟩ := G
 unfold PySem.W.nsIn at e
 split at e
 . rename_i c d es' n' sl q
   have z := X _ _ q
   rw [ho] at z
   cases z
   cases hd
   split at e
   . rename_i en hen
     cases e
     rw [<- hf]
     unfold nsFind findBy
     rw [<- Array.find?_toList, hen]
     rfl
   . split at e <;> cases e
 . cases e
structure Zh (K : PySem.W.Frag) (C C0 : Addr) : Prop where
 ex : ∃ (N fI : Addr) (nm q : Str) (bs : List Value) (sn : List Str) (sub : List Value) (ab : Bool) (col : Option Bool) (dd : Option Addr) (k0 k1 k2 k3 k5 : Option Value)
  (p1 p2 p3 p4 p5 p6 p7 p8 p9 p10 p11 p12 p13 p14 pa pb : Pos) (qual : Str) (kV doc pm cdv ct : Value) (an od : Option Addr) (osl : Array (Option Value)) (oC oF : Obj),
  K.lookup C = some oC /\ oC = (excClassObj nm q C N bs (.ref C0 :: PySem.W.vErr) true sn sub ab col dd k0 k1 k2 k3 k5 "ValueError.__new__") /\ PySem.W.keepIn K (.ref C) = true /\ PySem.W.nsOkIn K N = true /\ PySem.W.nsIn K N "__init__" = some (some (.ref fI)) /\
  K.lookup fI = some oF /\ oF = ⟨.type "function", od, .func (PySem.W.fnOf "__init__" qual (initArgs pa pb) (vd p1 p2 p3 p4 p5 p6 p7 p8 p9 p10 p11 p12 p13 p14) Fc .none kV doc pm an cdv ct), osl⟩ /\ PySem.W.codeIn K cdv qual = true /\ (p2.endLine == p9.line) = true /\
  PySem.W.excIn K C0 PySem.W.vErr "ValueError.__new__" = true /\ PySem.W.readsIn K C0 (.type "type") = true /\ PySem.W.findCls K (.ref C0) (.type "type") "__init__" = some (.val (.builtin "ValueError.__init__")) /\
  PySem.W.specialIn K (.ref C0) "__getattribute__" = some (some (.builtin "type.__getattribute__")) /\ PySem.W.findIn K (.ref C) "at" = some none /\ PySem.W.findIn K (.ref C) "__setattr__" = some (some (.builtin "object.__setattr__")) /\ PySem.W.mroIn K C (.type "object") = some true
theorem Zh.of {K : PySem.W.Frag} {C C0 : Addr} {N fI : Addr} {nm q : Str} {bs : List Value} {sn : List Str} {sub : List Value} {ab : Bool} {col : Option Bool} {dd : Option Addr} {k0 k1 k2 k3 k5 : Option Value} {p1 p2 p3 p4 p5 p6 p7 p8 p9 p10 p11 p12 p13 p14 pa pb : Pos} {qual : Str} {kV doc pm cdv ct : Value} {an od : Option Addr} {osl : Array (Option Value)} {oC oF : Obj} (h0 : K.lookup C = some oC) (h1 : oC = (excClassObj nm q C N bs (.ref C0 :: PySem.W.vErr) true sn sub ab col dd k0 k1 k2 k3 k5 "ValueError.__new__")) (h2 : PySem.W.keepIn K (.ref C) = true) (h3 : PySem.W.nsOkIn K N = true) (h4 : PySem.W.nsIn K N "__init__" = some (some (.ref fI))) (h5 : K.lookup fI = some oF) (h6 : oF = ⟨.type "function", od, .func (PySem.W.fnOf "__init__" qual (initArgs pa pb) (vd p1 p2 p3 p4 p5 p6 p7 p8 p9 p10 p11 p12 p13 p14) Fc .none kV doc pm an cdv ct), osl⟩) (h7 : PySem.W.codeIn K cdv qual = true) (h8 : (p2.endLine == p9.line) = true) (h9 : PySem.W.excIn K C0 PySem.W.vErr "ValueError.__new__" = true) (h10 : PySem.W.readsIn K C0 (.type "type") = true) (h11 : PySem.W.findCls K (.ref C0) (.type "type") "__init__" = some (.val (.builtin "ValueError.__init__"))) (h12 : PySem.W.specialIn K (.ref C0) "__getattribute__" = some (some (.builtin "type.__getattribute__"))) (h13 : PySem.W.findIn K (.ref C) "at" = some none) (h14 : PySem.W.findIn K (.ref C) "__setattr__" = some (some (.builtin "object.__setattr__"))) (h15 : PySem.W.mroIn K C (.type "object") = some true) : Zh K C C0 :=
 ⟨⟨_, _, _, _, _, _, _, _, _, _, _, _, _, _, _, _, _, _, _, _, _, _, _, _, _, _, _, _, _, _, _, _, _, _, _, _, _, _, _, _, _, _, h0, h1, h2, h3, h4, h5, h6, h7, h8, h9, h10, h11, h12, h13, h14, h15⟩⟩
theorem ah {K : PySem.W.Frag} {h : Heap} {C0 : Addr} (X : K.In h) (hq : PySem.W.excIn K C0 PySem.W.vErr "ValueError.__new__" = true) : OwnTail h PySem.W.vErr (.ref C0 :: PySem.W.vErr) := by
 have q := hq
 unfold PySem.W.excIn at q
 split at q
 . rename_i dd cd sl ho
   split at q
   . simp only [Bool.and_eq_true, beq_iff_eq, Bool.not_eq_true'] at q
     obtain ⟨⟨⟨⟨⟨_, _⟩, _⟩, _⟩, hok⟩, hni⟩ := q
     exact .own (X _ _ ho) (.of_isNs (PySem.W.isNs_of_in X hok)) (PySem.W.nsMap_none_of_in X hok hni) .base
   . cases q
 . cases q
def ji (C : Addr) (E : St -> XK) (t : TA) : TS := fun _ σ H => t σ H fun vs H1 => ∃ k : Int, vs = [.int k] /\ 0 <= k /\ k < 200 /\ ∀ ea dx, H1 ea = none -> H1 dx = none -> ea ≠ dx -> E σ (.int C dx) (some ea) (upd H1 dx (.xd [("at", .int k)]))
theorem Ri {X : Cx} {E : St -> XK} {x : Str} {C : Addr} {a : Expr} {t : TA} {np cpos pos : Pos} {n : Nat} (hR : Raises X E) (hc : X.calm = true) (hr : Room n X.A) (hg : Gl X x) (hm : X.mg x = some (.ref C)) {C0 : Addr} (D : Zh X.K C C0) (hm0 : X.mg "BallotError" = some (.ref C0)) (ha : PA X [a] t)
 (hd : (x == ("__debug__" : Str)) = false := by decide) (he : starEach [a] X.env = (false, eval a X.env) :: starEach [] X.env := by first | rfl | with_unfolding_all rfl) :
 PS X (.Raise (some (.Call (.Name x np) [a] [] cpos)) none pos) (ji C E t) := by
 intro pins s σ H D0 I h
 obtain ⟨N, fI, nm, q, bs, sn, sub, ab, col, dd, k0, k1, k2, k3, k5, p1, p2, p3, p4, p5, p6, p7, p8, p9, p10, p11, p12, p13, p14, pa, pb, qual, kV, doc, pm, cdv, ct, an, od, osl, oC, oF, lC, eC, kp, nsk, nsi, lf, eF, hcd, hline, x0, r0, fc, sg, fa, fs, mo⟩ := D.ex
 subst eC eF
 rw [arm_exec_Raise]
 refine wpAny_bind (wpAny_standAt (PySem.W.Qk (C := C) (nm := nm) (q := q) (N := N) (bs := bs) (bm := .ref C0 :: PySem.W.vErr) (hd := true) (sn := sn) (sub := sub) (ab := ab) (col := col) (dd := dd) (k0 := k0) (k1 := k1) (k2 := k2) (k3 := k3) (k5 := k5) (by rw [List.contains_cons]; rfl) (I.ok.hd hc) ?_))
 refine wpAny_bind (wpAny_Call_Name_kw (Pc I hg hm ?_ hd))
 refine PySem.W.callWith_K (h₀ := X.base) I.ok.mod.kin kp (thn (ha cpos pins s σ H _ I h) fun us s1 ⟨vs, H1, I1, r, hv⟩ => ⟨I1.kIn, ?_⟩) he rfl
 obtain ⟨k, rfl, hk0, hk1, hE⟩ := hv
 obtain ⟨u, rfl, ru⟩ := vals1 r
 obtain ⟨tk, rfl⟩ := ru
 have KX := I1.kIn
 have nsN : s1.heap.Ns N _ := .of_isNs (PySem.W.isNs_of_in KX nsk)
 obtain ⟨hp1, g1, d1, t1, os1⟩ := s1
 refine PySem.W.Zm (ah KX x0) (KX _ _ lC) nsN (Qm KX nsN nsi) (KX _ _ lf) rfl (by show (1 : Nat) <= sizeLine; rw [sizeLine_eq]; decide) fun h' e mk => ?_
 obtain ⟨t0, he0, _, _⟩ := mk.there
 have KX' : X.K.In h' := KX.keeps mk.keeps
 refine wpAny_call (Vm (s := ⟨h', g1, d1, t1, os1⟩) (K := X.K) (mg := X.mg) KX' (I1.mod.glob.keeps fun b o z => mk.keeps _ _ (I1.bk b o z)) hm0 ?_ ?_ (PySem.W.codeRec_of KX' hcd) (KX' _ _ lf) hline r0 fc sg (ah KX' x0) (KX' _ _ lC) he0 (bl := .ref C :: .ref C0 :: PySem.W.vErr) ?_ ?_ fa fs mo ?_ ⟨hk0, hk1⟩ ?_)
 . rw [Mh]
   have := hr.dp
   omega
 . exact I1.mod.nolimit.keeps fun b o z => mk.keeps _ _ (I1.bk b o z)
 . intro h2 X2 A' Q' E' s' kk qq
   obtain ⟨hp2, g2, d2, t2, os2⟩ := s'
   exact wpAny_mroOf_exc (kk _ _ (X2 _ _ lC)) qq
 . rw [refuseLoop_ref, refuseLoop_ref]
   exact PySem.F.store_ValueError.passes _
 . cases z : X.K.lookup e with
   | none => rfl
   | some o =>
    have z2 := KX _ _ z
    have z3 := mk.new
    rw [show hp1.get? e = _ from z2] at z3
    cases z3
 . intro h3 dx t2 tk' e1 e2 e3 e4 e5
   have hne : ∀ b o, hp1.get? b = some o -> b ≠ e := fun b o z y => by
    rw [y] at z
    have z3 := mk.new
    rw [z] at z3
    cases z3
   have up1 : ∀ b o, hp1.get? b = some o -> h3.get? b = some o := fun b o z => e3 b o (hne b o z) (mk.keeps b o z)
   have dn : hp1.get? dx = none := by
    cases z : hp1.get? dx with
    | none => rfl
    | some o =>
     have z2 : h'.get? dx = some o := mk.keeps dx o z
     have z3 : h'.get? dx = none := e4
     rw [z2] at z3
     cases z3
   have trk : ∀ b, hp1.get? b = none -> H1 b = none := fun b z => by
    cases y : H1 b with
    | none => rfl
    | some u =>
     obtain ⟨o, z2⟩ := I1.hok.in y
     have z3 : hp1.get? b = some o := z2
     rw [z] at z3
     cases z3
   have He := trk e mk.new
   have Hd := trk dx dn
   have hok2 : HOk X.prog X.w (upd H1 dx (.xd [("at", .int k)])) h3 := by
    refine (I1.hok.kept up1).fi Hd ⟨_, e2, fun f => ?_⟩
    by_cases hf : f = "at"
    . subst hf
      exact ⟨tk, rfl⟩
    . rw [if_neg hf, List.lookup_cons, show (f == ("at" : Str)) = false from by simpa using hf]
      trivial
   refine ⟨rfl, wpAny_bind (wpAny_standAt (wpAny_pure ⟨e, t2, dx, rfl, e3 _ _ (hne _ _ (KX _ _ lC)) (KX' _ _ lC), e1, ?_⟩))⟩
   . exact hR pins σ H1 (upd H1 dx (.xd [("at", .int k)])) ⟨hp1, g1, d1, t1, os1⟩ h3 tk' e (.int C dx) (.ref t2) _ _ I1 up1 mk.new e1 rfl rfl rfl rfl (fun dx' z => by cases z; rfl) hok2 (fun b u z => by rw [wa (ka z Hd)]; exact z)
      (fun b u z => by
        by_cases hb : b = dx
        . subst hb; exact .inr dn
        . rw [wa hb] at z; exact .inl z) (by rw [wa e5.symm]; exact He) (hE e dx He Hd e5.symm)
end L2
namespace PySem.W
open PySem PySem.Spec PySem.Calls PyProof.Rows Builtin Builtin.ObjectAttr Builtin.Getset_descriptor
section
variable {prog : Program} {w : World} {A : Around} {E : Value -> Shared -> Prop} {s : Shared} {K : Frag} {x C dx : Addr} {o : Obj} {name : Str} {v : Value} {mA : Str -> Option Value}
theorem Qg {tk : Tok} {Q : Fin -> Shared -> Prop} (X : K.In s.heap) (hx : s.heap.get? x = some o) (hc : o.cls = .ref C) (hd : o.dict = some dx) {vs : Array Value} (hfd : o.data = .fields vs) (hn : s.heap.Ns dx mA) (hv : mA name = some v) (hf : findIn K (.ref C) name = some none) {oC : Obj} {cd : ClassData} (hC : s.heap.get? C = some oC) (hCd : oC.data = .cls cd) (hCh : cd.hasDict = true)
 (hq : Q (.done (.ret v)) s) : wpAny (model prog w) A (Builtin.«object.__getattribute__» ⟨[.ref x, .str name tk], []⟩) Q E s := by
 obtain ⟨h, g, d, t, os⟩ := s
 have L1 := looks_findIn (M := model prog w) X hf
 repeat (any_goals (first | assumption | (with_reducible refine wpAny_loadPart_at hx ?_; first | rw [hc] | rw [hd]) | with_reducible refine L1.at ?_ | wp_step))
 rw [hfd]
 dsimp only
 unfold instanceDict
 repeat (any_goals (first | assumption | (with_reducible refine wpAny_loadPart_at hx ?_; first | rw [hc] | rw [hd]) | with_reducible refine L1.at ?_ | wp_step))
 rw [hCd]
 refine wpAny_pure ?_
 rw [hCh, hd, if_neg (show ¬ ((!true) = true) by decide)]
 refine wpAny_pure ?_
 show wpAny _ _ (nsGet dx name) _ _ _
 refine wpAny_nsGet hn ?_
 rw [hv]
 refine wpAny_bind (wpAny_rule (wpAny_pure ?_))
 exact wpAny_pure hq
theorem Sk {Q : Value -> Shared -> Prop} (X : K.In s.heap) (hx : s.heap.get? x = some o) (hc : o.cls = .ref C) (hd : o.dict = some dx) {vs : Array Value} (hfd : o.data = .fields vs) (hn : s.heap.Ns dx mA) (hv : mA name = some v) (hf : findIn K (.ref C) name = some none)
 {oC : Obj} {cd : ClassData} (hC : s.heap.get? C = some oC) (hCd : oC.data = .cls cd) (hCh : cd.hasDict = true) (hb : mroIn K C (.type "BaseException") = some true)
 (hga : findIn K (.ref C) "__getattribute__" = some (some (.builtin "BaseException.__getattribute__"))) (hgt : findIn K (.ref C) "__getattr__" = some none) {ex : Bool} (hq : Q v { s with toks := s.toks + 1 }) (hh : handedIn v = true) : wpAny (model prog w) A (getAttr (.ref x) name ex) Q E s := by
 have ty : ∀ M : Model, Looks M s.heap (typeOf (.ref x)) (.ref C) := fun M => hc ▸ (Looks.ld hx).andThen .now
 obtain ⟨h, g, d, t, os⟩ := s
 have L0 := ty (model prog w)
 have L1 := looks_findIn (M := model prog w) X hga
 have L2 := looks_findIn (M := model prog w) X hgt
 have f3 := F.excAttr_ValueError.ga.bind (.ref x)
 have hx2 : (Value.builtin "BaseException.__getattribute__" == Value.builtin "object.__getattribute__") = false := by decide +kernel
 have hx1 : (onTheHeap (Value.ref C) && Value.builtin "BaseException.__getattribute__" == Value.builtin "object.__getattribute__") = false := by rw [hx2]; rfl
 have hx0 : ∀ b : Bool, (b && onTheHeap (Value.builtin "BaseException.__getattribute__")) = false := fun b => by cases b <;> rfl
 unfold getAttr
 repeat (any_goals (first | assumption | with_reducible refine L0.at ?_ | with_reducible refine L1.at ?_ | with_reducible refine L2.at ?_ | wp_step))
 refine codeAny_call_builtin F.excAttr_ValueError.ga.plain F.entry_bexc_ga (Zc (s := ⟨h, g, d, t + 1, os⟩) X ty hb (Qg (s := ⟨h, g, d, t + 1, os⟩) X hx hc hd hfd hn hv hf hC hCd hCh ?_))
 show wpAny _ _ (handedOut v) _ _ _
 exact handed_on hh hq
end
end PySem.W
namespace L2
open PySem PySem.Spec PyProof.Rows
def tAtE (K : PySem.W.Frag) (ta : TE) (f : Str) : TE := fun σ H Q => ta σ H fun x H1 => ∃ (ea C dx : Addr) (fs : List (Str × V)) (k : Int), x = .ref ea /\ H1 ea = some (ErrO ea (.int C dx)) /\ H1 dx = some (.xd fs) /\ fs.lookup f = some (.int k) /\ ErrK K C /\ PySem.W.findIn K (.ref C) f = some none /\ PySem.W.hasDictIn K C = true /\ Q (.int k) H1
theorem zk {X : Cx} {K : PySem.W.Frag} {e : Expr} {f : Str} {ta : TE} {pos : Pos} (hK : X.K = K) (he : PE X e ta) (hb : attributeBase e f X.env (eval e X.env) = eval e X.env := by first | rfl | with_unfolding_all rfl) : PE X (.Attribute e f pos) (tAtE K ta f) := by
 subst hK
 intro pins s σ H Q I h
 refine xn hb (thn (he pins s σ H _ I h) fun u s1 ⟨x, H1, I1, rx, ea, C, dx, fs, k, ex, h1, h2, hl, ek, hf, hdi, q⟩ => ?_)
 subst ex
 obtain rfl : u = Value.ref ea := rx
 obtain ⟨⟨o, ho, hc, hd, vs, hfd⟩, _, _⟩ := (show fb X.prog X.w H1 s1.heap ea (ErrO ea (.int C dx)) from I1.hok ea _ h1)
 obtain ⟨mA, n1, rel⟩ := (show fb X.prog X.w H1 s1.heap dx (.xd fs) from I1.hok dx _ h2)
 have rk := rel f
 rw [hl] at rk
 obtain ⟨cd, hcd, hdc⟩ : ∃ cd, PySem.W.clsIn X.K C = some cd /\ cd.hasDict = true := by
  unfold PySem.W.hasDictIn at hdi
  cases z : PySem.W.clsIn X.K C with
  | none => rw [z] at hdi; cases hdi
  | some cd => rw [z] at hdi; exact ⟨cd, rfl, hdi⟩
 unfold PySem.W.clsIn at hcd
 split at hcd
 . rename_i c' d' cd' sl' hlo
   cases hcd
   cases y : mA f with
   | none => rw [y] at rk; exact rk.elim
   | some u =>
    rw [y] at rk
    obtain ⟨tk, rfl⟩ : ∃ tk, u = Value.int k tk := rk
    exact PySem.W.Sk I1.kIn ho hc (hd dx rfl) hfd n1.ns y hf (I1.kIn _ _ hlo) rfl hdc ek.mb ek.ga ek.gt ⟨.int k, H1, I1.tok _, ⟨tk, rfl⟩, q⟩ rfl
 . cases hcd
theorem wm {K : PySem.W.Frag} {ta : TE} {f : Str} {σ : St} {H : Hp} {Q : VK} (h : ta σ H fun x H1 => ∃ (ea C dx : Addr) (fs : List (Str × V)) (k : Int), x = .ref ea /\ H1 ea = some (ErrO ea (.int C dx)) /\ H1 dx = some (.xd fs) /\ fs.lookup f = some (.int k) /\ ErrK K C /\ PySem.W.findIn K (.ref C) f = some none /\ PySem.W.hasDictIn K C = true /\ Q (.int k) H1) : tAtE K ta f σ H Q := h
theorem ik {C : Addr} {E : St -> XK} {t : TA} {D : Ends} {σ : St} {H : Hp} (h : t σ H fun vs H1 => ∃ k : Int, vs = [.int k] /\ 0 <= k /\ k < 200 /\ ∀ ea dx, H1 ea = none -> H1 dx = none -> ea ≠ dx -> E σ (.int C dx) (some ea) (upd H1 dx (.xd [("at", .int k)]))) : ji C E t D σ H := h
theorem pe_lcx {X : Cx} {elt tg iter : Expr} {ifs : List Expr} {scope : Scope} {pos : Pos} {cl : List (Str × Addr)} {wi : TI} {g : TG} {tt : TT} {te : TE} (cN tN : List Str) (js : List Nat)
 (hclos : closureFor scope X.env = pure cl) (hc : X.calm = true) (hi : PI X tg iter wi)
 (hcell : ∀ y ∈ scope.names, y.2 ≠ .cell) (hkind : scope.kind = .function) (hnames : ∀ y ∈ scope.names, y.2 = .local -> scope.names.lookup y.1 = some .local)
 (hcl : CellsOk X cl) (hall : (scope.names.all fun y => y.2 != .free || (cl.lookup y.1).isSome) = true) (hcap : ∀ C, ve X (compEnvC scope cl C X.env) cN js)
 (hg : ∀ C s₀ H₀ ex, PG (cxIn X scope cl C (cN ++ tN) s₀ H₀ ex) tg g) (ht : ∀ C s₀ H₀ ex, PTs (cxIn X scope cl C (cN ++ tN) s₀ H₀ ex) ifs tt) (he : ∀ C s₀ H₀ ex, PE (cxIn X scope cl C (cN ++ tN) s₀ H₀ ex) elt te)
 (hs : ∀ x, foldedSetIterable iter X.env x = pure x := by intro _; first | rfl | with_unfolding_all rfl) :
 PE X (.ListComp elt [⟨tg, iter, ifs, 0⟩] scope pos) (mi js tN.length wi g tt te) :=
 gh hc hi hclos (fun _ => vb hcell) hkind hnames hcl.all (Hl hcell hall) hcap hg ht he hs
end L2
namespace MB
def ch : Nat -> Nat -> Nat
 | _, 0 => 1
 | 0, _ + 1 => 0
 | n + 1, k + 1 => ch n k + ch n (k + 1)
theorem Ud (n : Nat) : ch n 0 = 1 := by cases n <;> rfl
theorem ch_zs (k : Nat) : ch 0 (k + 1) = 0 := rfl
theorem rf (n k : Nat) : ch (n + 1) (k + 1) = ch n k + ch n (k + 1) := rfl
theorem Vh : ∀ {n k : Nat}, n < k -> ch n k = 0
 | 0, k + 1, _ => rfl
 | n + 1, k + 1, h => by rw [rf, Vh (by omega), Vh (by omega)]
theorem Sg : ∀ n : Nat, ch n n = 1
 | 0 => rfl
 | n + 1 => by rw [rf, Sg n, Vh (by omega)]
theorem Hc : ∀ n k : Nat, (k + 1) * ch (n + 1) (k + 1) = (n + 1) * ch n k
 | 0, 0 => rfl
 | 0, k + 1 => by rw [rf, ch_zs, ch_zs]; omega
 | n + 1, 0 => by
  have h := Hc n 0
  rw [Ud] at h
  rw [rf (n + 1) 0, Ud]
  omega
 | n + 1, k + 1 => by
  have h1 := Hc n k
  have h2 := Hc n (k + 1)
  have e1 : ch (n + 1) (k + 1) = ch n k + ch n (k + 1) := rf n k
  rw [rf (n + 1) (k + 1)]
  have e2 : (k + 1 + 1) * (ch (n + 1) (k + 1) + ch (n + 1) (k + 1 + 1)) = (k + 1) * ch (n + 1) (k + 1) + ch (n + 1) (k + 1) + (k + 1 + 1) * ch (n + 1) (k + 1 + 1) := by
   rw [Nat.mul_add, Nat.add_mul (k + 1) 1, Nat.one_mul]
  rw [e2, h1, h2, e1]
  have e3 : (n + 1 + 1) * (ch n k + ch n (k + 1)) = (n + 1) * ch n k + (n + 1) * ch n (k + 1) + (ch n k + ch n (k + 1)) := by
   rw [Nat.add_mul (n + 1) 1, Nat.one_mul, Nat.mul_add]
  rw [e3]
  omega
theorem kn (n k : Nat) : (k + 1) * ch n (k + 1) = (n - k) * ch n k := by
 by_cases h : k <= n
 . have h1 := Hc n k
   rw [rf, Nat.mul_add] at h1
   have e : (n + 1) * ch n k = (n - k) * ch n k + (k + 1) * ch n k := by
    rw [<- Nat.add_mul]; congr 1; omega
   omega
 . rw [Vh (by omega), Vh (by omega), Nat.mul_zero, Nat.mul_zero]
theorem Rg : ∀ {n k : Nat}, k <= n -> ch n (n - k) = ch n k
 | 0, 0, _ => rfl
 | n + 1, 0, _ => by rw [Ud, Nat.sub_zero, Sg]
 | n + 1, k + 1, h => by
  by_cases e : k = n
  . subst e; rw [Nat.sub_self, Ud, Sg]
  . have h1 := Rg (n := n) (k := k) (by omega)
    have h2 := Rg (n := n) (k := k + 1) (by omega)
    have e1 : n + 1 - (k + 1) = (n - (k + 1)) + 1 := by omega
    rw [e1, rf, rf, h2]
    have e2 : n - (k + 1) + 1 = n - k := by omega
    rw [e2, h1]; omega
theorem ch_div (n i : Nat) (h : i <= n) : ((ch n i : Int) * ((n : Int) - (i : Int))) / ((i : Int) + 1) = (ch n (i + 1) : Int) := by
 have e := kn n i
 have e1 : ((ch n i : Int) * ((n : Int) - (i : Int))) = (ch n (i + 1) : Int) * ((i : Int) + 1) := by
  have e2 : ((n : Int) - (i : Int)) = ((n - i : Nat) : Int) := by omega
  have e3 : ((i : Int) + 1) = ((i + 1 : Nat) : Int) := by omega
  rw [e2, e3, <- Int.natCast_mul, <- Int.natCast_mul, Nat.mul_comm, <- e, Nat.mul_comm]
 rw [e1, Int.mul_ediv_cancel _ (by omega)]
def W (many few : Int) : Int := if few < 0 \/ few > many then 0 else (ch many.toNat few.toNat : Int)
theorem Hj {many few : Int} (h : few < 0 \/ few > many) : W many few = 0 := by unfold W; rw [if_pos h]
theorem W_in {many few : Int} (h : ¬ (few < 0 \/ few > many)) : W many few = (ch many.toNat few.toNat : Int) := by unfold W; rw [if_neg h]
theorem Bn (n k : Nat) : W (n : Int) (k : Int) = (ch n k : Int) := by
 by_cases h : k <= n
 . rw [W_in (by omega)]; rfl
 . rw [Hj (by omega), Vh (by omega)]; rfl
theorem W_symm {m k : Int} (h : 0 <= m) : W m (m - k) = W m k := by
 by_cases hk : k < 0 \/ k > m
 . rw [Hj hk, Hj (by omega)]
 . rw [W_in hk, W_in (by omega)]
   have e : (m - k).toNat = m.toNat - k.toNat := by omega
   rw [e, Rg (by omega)]
theorem ch_min {m k j : Int} (h0 : 0 <= k) (h1 : k <= m) (hj : j = k \/ j = m - k) : (ch m.toNat j.toNat : Int) = W m k := by
 rcases hj with rfl | rfl
 . rw [W_in (by omega)]
 . rw [<- W_symm (by omega), W_in (by omega)]
end MB
namespace BL
open PySem PySem.Spec PyProof.Rows L2
def DrL (H : Hp) (d l : Addr) : Prop := ∃ (ns : List Int) (i c r : Int), H d = some (.lst [.ref l, .int i, .int c, .int r]) /\ H l = some (.lst (ns.map V.int)) /\ l ≠ d /\ 0 <= i
def Dr (H : Hp) (d : Addr) : Prop := ∃ l, DrL H d l
theorem DrL.some {H : Hp} {d l : Addr} (D : DrL H d l) : (∃ xs, H d = some (.lst xs)) /\ ∃ xs, H l = some (.lst xs) := by
 obtain ⟨ns, i, c, r, h, h2, _⟩ := D; exact ⟨⟨_, h⟩, ⟨_, h2⟩⟩
theorem DrL.new {H : Hp} {d l p : Addr} {o : HO} (D : DrL H d l) (e : H p = none) : DrL (upd H p o) d l := by
 obtain ⟨ns, i, c, r, h, h2, n, z⟩ := D
 exact ⟨ns, i, c, r, by rw [wa (ka h e)]; exact h, by rw [wa (ka h2 e)]; exact h2, n, z⟩
theorem DrL.upd {H : Hp} {d l p : Addr} {o : HO} (D : DrL H d l) (e1 : p ≠ d) (e2 : p ≠ l) : DrL (L2.upd H p o) d l := by
 obtain ⟨ns, i, c, r, h, h2, n, z⟩ := D
 exact ⟨ns, i, c, r, by rw [wa e1.symm]; exact h, by rw [wa e2.symm]; exact h2, n, z⟩
theorem DrL.same {H H' : Hp} {d l : Addr} (D : DrL H d l) (e : Same H H') : DrL H' d l := by
 obtain ⟨ns, i, c, r, h, h2, n, z⟩ := D
 exact ⟨ns, i, c, r, e _ _ h, e _ _ h2, n, z⟩
theorem DrL.ne {H : Hp} {d l p : Addr} (D : DrL H d l) (e : H p = none) : p ≠ d /\ p ≠ l := by
 obtain ⟨⟨_, h1⟩, _, h2⟩ := D.some
 exact ⟨(ka h1 e).symm, (ka h2 e).symm⟩
theorem Dr.new {H : Hp} {d p : Addr} {o : HO} (D : Dr H d) (e : H p = none) : Dr (upd H p o) d := let ⟨l, D⟩ := D; ⟨l, D.new e⟩
theorem Dr.ne {H : Hp} {d p : Addr} (D : Dr H d) (e : H p = none) : p ≠ d := let ⟨_, D⟩ := D; (D.ne e).1
def Ci (K : PySem.W.Frag) : Sp := fun vs H Q _ => ∃ (a : Addr) (ns : List Int), vs = [.ref a] /\ SqL K H a (ns.map V.int) /\ ∀ (d l : Addr) (H' : Hp), H d = none -> H l = none -> DrL H' d l -> Same H H' -> Q (.ref d) H'
theorem Bi {K : PySem.W.Frag} {a : Addr} {ns : List Int} {H : Hp} {Q : VK} {E : XK} (hS : SqL K H a (ns.map V.int)) (k : ∀ (d l : Addr) (H' : Hp), H d = none -> H l = none -> DrL H' d l -> Same H H' -> Q (.ref d) H') : Ci K [.ref a] H Q E := ⟨a, ns, rfl, hS, k⟩
def kl : Sp := fun vs H Q _ => ∃ (d l : Addr) (m : Int), vs = [.ref d, .int m] /\ DrL H d l /\ 0 < m /\ (∃ n : Nat, m.natAbs < 2 ^ n /\ n <= 9000) /\ ∀ (g : Int) (H' : Hp), 0 <= g -> g < m -> DrL H' d l -> Fr1 d H H' -> Q (.int g) H'
def spInt : Sp := fun vs H Q _ => ∃ n : Int, vs = [.int n] /\ Q (.bl true) H
def jl : Sp := fun vs H Q _ => ∃ m k : Int, vs = [.int m, .int k] /\ m < 512 /\ Q (.int (MB.W m k)) H
theorem Na {d l : Addr} {m : Int} {H : Hp} {Q : VK} {E : XK} (D : DrL H d l) (h1 : 0 < m) (h2 : m < 4294967296) (k : ∀ (g : Int) (H' : Hp), 0 <= g -> g < m -> DrL H' d l -> Fr1 d H H' -> Q (.int g) H') : kl [.ref d, .int m] H Q E :=
 ⟨d, l, m, rfl, D, h1, ⟨32, by omega, by decide⟩, k⟩
theorem Se {m k : Int} {H : Hp} {Q : VK} {E : XK} (h : m < 512) (q : Q (.int (MB.W m k)) H) : jl [.int m, .int k] H Q E := ⟨m, k, rfl, h, q⟩
theorem xi {n : Int} {H : Hp} {Q : VK} {E : XK} (q : Q (.bl true) H) : spInt [.int n] H Q E := ⟨n, rfl, q⟩
end BL
namespace MB
def hv : Nat -> Nat -> Nat
 | n + 1, k + 1 => ch n k
 | _, _ => 0
def nm : Nat -> Nat -> List Nat -> Nat
 | 0, _, _ => 0
 | n + 1, p, l => match l with
  | [] => 0
  | x :: r => if x = p then nm n (p + 1) r else hv (n + 1) (r.length + 1) + nm n (p + 1) (x :: r)
def Ris : Nat -> Nat -> List Nat -> Prop
 | _, _, [] => True
 | p, e, x :: r => p <= x /\ x < e /\ Ris (x + 1) e r
theorem Ris.len : ∀ {l : List Nat} {p e : Nat}, Ris p e l -> l.length <= e - p
 | [], _, _, _ => Nat.zero_le _
 | x :: r, p, e, ⟨h1, h2, h3⟩ => by
  have := Ris.len h3
  simp only [List.length_cons]; omega
def run (x : Nat) : Nat -> List Nat
 | 0 => []
 | k + 1 => x :: run (x + 1) k
end MB
namespace BL
open PySem PySem.Spec PyProof.Rows L2
def zs (l : List Nat) : List Int := l.map (fun x : Nat => (x : Int))
end BL
namespace BL
end BL
namespace BL
open PySem PySem.Spec PyProof.Rows L2
def tupF (q : Int × Int) : HO := .tup [.int q.1, .int q.2]
structure FrAt (H : Hp) (f : Addr) (ps : List Addr) (qs : List (Int × Int)) : Prop where
 ls : H f = some (.lst (ps.map V.ref))
 it : ∀ i : Nat, ∀ p, ps[i]? = some p -> ∃ q, qs[i]? = some q /\ H p = some (tupF q)
 ln : ps.length = qs.length
theorem FrAt.same {H H' : Hp} {f : Addr} {ps : List Addr} {qs : List (Int × Int)} (F : FrAt H f ps qs) (s : Same H H') : FrAt H' f ps qs :=
 ⟨s _ _ F.ls, fun i p h => by obtain ⟨q, a, b⟩ := F.it i p h; exact ⟨q, a, s _ _ b⟩, F.ln⟩
theorem FrAt.push {H : Hp} {f p : Addr} {ps : List Addr} {qs : List (Int × Int)} {q : Int × Int} (F : FrAt H f ps qs) (hp : H p = none) : FrAt (upd (upd H p (tupF q)) f (.lst (ps.map V.ref ++ [.ref p]))) f (ps ++ [p]) (qs ++ [q]) := by
 have hfp : f ≠ p := ka F.ls hp
 refine ⟨by rw [la]; simp, fun i p' h => ?_, by rw [List.length_append, List.length_append, F.ln]; rfl⟩
 by_cases hi : i < ps.length
 . rw [List.getElem?_append_left hi] at h
   obtain ⟨q', a, b⟩ := F.it i p' h
   refine ⟨q', by rw [List.getElem?_append_left (by rw [<- F.ln]; exact hi)]; exact a, ?_⟩
   rw [wa (Nd b F.ls zd), wa (ka b hp)]
   exact b
 . rw [List.getElem?_append_right (by omega)] at h
   have e : i - ps.length = 0 := by
    cases z : i - ps.length with
    | zero => rfl
    | succ k => rw [z] at h; simp at h
   rw [e] at h
   simp at h
   subst h
   refine ⟨q, by rw [List.getElem?_append_right (by rw [<- F.ln]; omega), <- F.ln, e]; rfl, ?_⟩
   rw [wa hfp.symm, la]
theorem FrAt.new {H : Hp} {f p : Addr} {ps : List Addr} {qs : List (Int × Int)} {o : HO} (F : FrAt H f ps qs) (h : H p = none) : FrAt (upd H p o) f ps qs := F.same ((Same.refl H).new h)
end BL
namespace MB
end MB
namespace BL
open PySem PySem.Spec PyProof.Rows L2
end BL
namespace L2
open PySem PySem.Spec PyProof.Rows
section
variable {X : Cx} {pins : List (Addr × Obj)} {σ : St} {H : Hp} {s : Shared} {h' : Heap}
theorem Inv.Ag {t' : Nat} {ch : List Addr} (I : Inv X pins σ H s) (k : ∀ b o, b ∉ ch -> s.heap.get? b = some o -> h'.get? b = some o) (hf : ∀ b ∈ ch, FpOk X pins H b) : Inv X pins σ H { s with heap := h', toks := t' } := by
 have nit : ∀ b u, H b = some u -> b ∉ ch := fun b u e z => by rw [(hf b z).1] at e; cases e
 refine I.step (g' := s.gens) (d' := s.drawn) (ch := ch) (fun b hb => ?_) (fun b o _ _ hc e _ => k b o hc e) (fun b o _ _ hc e _ => ⟨o.slots, k b o hc e⟩) (fun _ _ _ _ n => n)
  (fun b o hc e => ⟨o, k b o hc e⟩) (fun _ _ e => e) (fun _ _ _ e => e) (fun b ps e => ⟨#[], by rw [e]; simp⟩) (fun m hm => ?_) (fun b u e => ?_) I.bare
 . obtain ⟨f0, f1, f2, f3, f4, f5⟩ := hf b hb
   exact ⟨f3, f1, f4, f5⟩
 . obtain ⟨o, es, ep, ho, r⟩ := hm
   exact ⟨o, es, ep, k _ o (fun z => (hf _ z).2.1 rfl) ho, r⟩
 . refine (I.hok b u e).stay (fun c v hc q => k c v ?_ q) (fun _ q => q) fun _ _ q => q
   rcases hc with z | z
   . rw [z]; exact nit b u e
   . exact nit c _ z
theorem Inv.Bf {t' : Nat} {ch : List Addr} {a : Addr} {o : HO} (I : Inv X pins σ H s) (k : ∀ b u, b ∉ ch -> s.heap.get? b = some u -> h'.get? b = some u) (hf : ∀ b ∈ ch, FpOk X pins H b) (hp : s.heap.objs.size <= a)
 (new : fb X.prog X.w (upd H a o) h' a o) : Inv X pins σ (upd H a o) { s with heap := h', toks := t' } := by
 have hn : H a = none := I.hok.fresh hp
 have I1 := I.Ag (t' := t') k hf
 have nea : ∀ b u, s.heap.get? b = some u -> b ≠ a := fun b u e => Nat.ne_of_lt (Nat.lt_of_lt_of_le (Heap.lt_size e) hp)
 refine I.step (g' := s.gens) (d' := s.drawn) (ch := ch) (fun b hb => ?_) (fun b o _ _ hc e _ => k b o hc e) (fun b o _ _ hc e _ => ⟨o.slots, k b o hc e⟩) (fun b u _ e n => by rw [wa (nea b u e)]; exact n)
  (fun b o hc e => ⟨o, k b o hc e⟩) (fun b xs e => by rw [wa (ka e hn)]; exact e) (fun b o u e => by rw [wa (ka e hn)]; exact e) (fun b ps e => ⟨#[], by rw [wa (ka e hn), e]; simp⟩) (fun m hm => ?_) (I1.hok.fi hn new) I.bare
 . obtain ⟨f0, f1, f2, f3, f4, f5⟩ := hf b hb
   exact ⟨f3, f1, f4, f5⟩
 . obtain ⟨o, es, ep, ho, r⟩ := hm
   exact ⟨o, es, ep, k _ o (fun z => (hf _ z).2.1 rfl) ho, r⟩
end
def Ite (a : Addr) : It :=
 ⟨fun i H => ∃ xs x, H a = some (.lst xs) /\ xs[i]? = some x, fun i H v H' => ∃ T xs x, v = .ref T /\ H T = none /\ H a = some (.lst xs) /\ xs[i]? = some x /\ H' = upd H T (.tup [.int (i : Int), x]), fun i H => ∃ xs, H a = some (.lst xs) /\ xs.length <= i⟩
theorem di {P : Program} {w : World} {K : PySem.W.Frag} {elts : List Expr} {k : Nat} {pos : Pos} (a e it : Addr) (hei : e ≠ it) (hae : a ≠ e) (hai : a ≠ it) :
 Turn P w K (.Tuple elts k pos) (Ite a) [e, it] e (fun i h => (∃ old, IsEnum h e it i old) /\ h.IsListIter it a i) where
 mem := by simp
 obj := fun i h st b hb => by
  obtain ⟨⟨old, he⟩, o, ho, c, d⟩ := st
  rcases List.mem_cons.mp hb with rfl | hb
  . exact ⟨_, he, fun v z => by cases z⟩
  . have e' : b = it := by simpa using hb
    subst e'
    exact ⟨o, ho, fun v z => by rw [d] at z; cases z⟩
 keep := fun i h h' st k => by
  obtain ⟨⟨old, he⟩, hi⟩ := st
  exact ⟨⟨old, k e (by simp) _ he⟩, hi.at fun o q => k it (by simp) o q⟩
 item := by
  intro X hP hw hK hc i pins s σ H E I hf st hg
  subst hP hw hK
  obtain ⟨xs, x, hq, hx⟩ := hg
  obtain ⟨its, rv, p, hz⟩ := I.list (SqL.of (K := X.K) hq)
  obtain ⟨u, hu, ru⟩ := rv.get hx
  have W := WalksT.enumerate (prog := X.prog) (w := X.w) (I.ok.hd hc) e it a hei hae hai its.toArray
  have hlt : i < its.toArray.size := by
   have := (List.getElem?_eq_some_iff.mp hu).1
   simpa using this
  refine W.item i s _ _ hlt ⟨st.1, st.2, p.isList⟩ fun T vals h1 tk hPt hT hTup hMid hk => ?_
  have hTw := W.apart _ _ _ hMid
  refine ⟨_, rfl, W.go elts k pos i T _ _ _ hMid fun h2 hSt hk2 => ?_⟩
  obtain ⟨t, x', hx', hv⟩ := hPt
  have ex : x' = u := by
   rw [List.getElem?_toArray, hu] at hx'
   exact (Option.some.inj hx').symm
  subst ex
  subst hv
  have hTn : H T = none := I.hok.fresh hT
  refine ⟨.ref T, upd H T (.tup [.int (i : Int), x]), ?_, rfl, ⟨T, xs, x, rfl, hTn, hq, hx, rfl⟩, ⟨hSt.1, hSt.2.1⟩, fun b hb => ?_⟩
  . refine I.Bf (t' := tk) (ch := [e, it]) (fun b o hb q => hk2 b o hb (hk b o hb q)) hf hT ?_
    refine ⟨by simp only [List.length_cons, List.length_nil]; rw [sizeLine_eq]; decide, [.int (i : Int) t, x'], .cons ⟨_, rfl⟩ (.cons ru .nil), ?_⟩
    obtain ⟨o, ho, c, n, d⟩ := hTup
    exact ⟨o, hk2 T o hTw ho, c, n, d⟩
  . rw [wa (fun z => by subst z; exact hTw hb)]
    exact (hf b hb).1
 done := by
  intro X hP hw hK hc i pins s σ H E I hf st hg
  subst hP hw hK
  obtain ⟨xs, hq, hx⟩ := hg
  obtain ⟨its, rv, p, hz⟩ := I.list (SqL.of (K := X.K) hq)
  obtain ⟨⟨old, he⟩, hit⟩ := st
  have hl := rv.length
  refine wpAny_pyNext_enum_end (I.ok.hd hc) he hit p.isList (by rw [List.getElem?_toArray]; exact List.getElem?_eq_none (by omega)) fun h' hx' => ⟨rfl, ?_⟩
  exact I.Ag (t' := s.toks) (ch := [e, it]) (fun b o hb q => hx' b o (fun z => hb (by simp [z])) q) hf
 self := fun A i s Q E st h => by
  obtain ⟨⟨old, he⟩, _⟩ := st
  exact wpAny_pyIter_enum he h
def Itz (a b : Addr) : It :=
 ⟨fun i H => ∃ xs ys x y, H a = some (.lst xs) /\ H b = some (.lst ys) /\ xs[i]? = some x /\ ys[i]? = some y,
  fun i H v H' => ∃ T xs ys x y, v = .ref T /\ H T = none /\ H a = some (.lst xs) /\ H b = some (.lst ys) /\ xs[i]? = some x /\ ys[i]? = some y /\ H' = upd H T (.tup [x, y]),
  fun i H => ∃ xs ys, H a = some (.lst xs) /\ H b = some (.lst ys) /\ (xs.length <= i \/ ys.length <= i)⟩
theorem Kj {P : Program} {w : World} {K : PySem.W.Frag} {elts : List Expr} {k : Nat} {pos : Pos} (a b z TI TO i1 i2 : Addr) (D : ZipApart z TI TO i1 i2 a b) :
 Turn P w K (.Tuple elts k pos) (Itz a b) [z, TI, TO, i1, i2] z (fun i h => IsZip h z TI TO .none /\ IsPair h TI (.ref i1) (.ref i2) /\ (∃ x y, IsPair h TO x y) /\ h.IsListIter i1 a i /\ h.IsListIter i2 b i) where
 mem := by simp
 obj := fun i h st c hc => by
  obtain ⟨hz, hTI, ⟨x, y, hTO⟩, ⟨o1, h1, c1, d1⟩, ⟨o2, h2, c2, d2⟩⟩ := st
  simp only [List.mem_cons, List.not_mem_nil, or_false] at hc
  rcases hc with rfl | rfl | rfl | rfl | rfl
  . exact ⟨_, hz, fun v q => by cases q⟩
  . exact ⟨_, hTI, fun v q => by cases q⟩
  . exact ⟨_, hTO, fun v q => by cases q⟩
  . exact ⟨o1, h1, fun v q => by rw [d1] at q; cases q⟩
  . exact ⟨o2, h2, fun v q => by rw [d2] at q; cases q⟩
 keep := fun i h h' st k => by
  obtain ⟨hz, hTI, ⟨x, y, hTO⟩, h1, h2⟩ := st
  exact ⟨k z (by simp) _ hz, k TI (by simp) _ hTI, ⟨x, y, k TO (by simp) _ hTO⟩, h1.at fun o q => k i1 (by simp) o q, h2.at fun o q => k i2 (by simp) o q⟩
 item := by
  intro X hP hw hK hc i pins s σ H E I hf st hg
  subst hP hw hK
  obtain ⟨xs, ys, x, y, hq1, hq2, hx, hy⟩ := hg
  obtain ⟨its1, rv1, p1, _⟩ := I.list (SqL.of (K := X.K) hq1)
  obtain ⟨its2, rv2, p2, _⟩ := I.list (SqL.of (K := X.K) hq2)
  obtain ⟨u, hu, ru⟩ := rv1.get hx
  obtain ⟨v, hv, rv⟩ := rv2.get hy
  have W := WalksT.zip2 (prog := X.prog) (w := X.w) (I.ok.hd hc) z TI TO i1 i2 a b D its1.toArray its2.toArray
  have hlt : i < min its1.toArray.size its2.toArray.size := by
   have e1 := (List.getElem?_eq_some_iff.mp hu).1
   have e2 := (List.getElem?_eq_some_iff.mp hv).1
   simp only [List.size_toArray]
   omega
  obtain ⟨hz, hTI, hTO, h1, h2⟩ := st
  refine W.item i s _ _ hlt ⟨hz, hTI, hTO, h1, h2, p1.isList, p2.isList⟩ fun T vals hh tk hPt hT hTup hMid hk => ?_
  have hTw := W.apart _ _ _ hMid
  refine ⟨_, rfl, W.go elts k pos i T _ _ _ hMid fun h3 hSt hk2 => ?_⟩
  obtain ⟨x', y', hx', hy', hvs⟩ := hPt
  have ex : x' = u := by rw [List.getElem?_toArray, hu] at hx'; exact (Option.some.inj hx').symm
  have ey : y' = v := by rw [List.getElem?_toArray, hv] at hy'; exact (Option.some.inj hy').symm
  subst ex ey hvs
  have hTn : H T = none := I.hok.fresh hT
  have hTI' : T ≠ TI := fun q => by subst q; exact absurd (Nat.lt_of_lt_of_le (Heap.lt_size hTI) hT) (Nat.lt_irrefl _)
  refine ⟨.ref T, upd H T (.tup [x, y]), ?_, rfl, ⟨T, xs, ys, x, y, rfl, hTn, hq1, hq2, hx, hy, rfl⟩, ⟨hSt.1, hSt.2.1, hSt.2.2.1, hSt.2.2.2.1, hSt.2.2.2.2.1⟩, fun c hc' => ?_⟩
  . refine I.Bf (t' := tk) (ch := [z, TO, i1, i2]) (fun c o hc' q => hk2 c o hc' (hk c o hc' q)) (fun c hc' => hf c (W.sub c hc' |> fun q => by simp at hc' ⊢; rcases hc' with rfl | rfl | rfl | rfl <;> simp)) hT ?_
    refine ⟨by simp only [List.length_cons, List.length_nil]; rw [sizeLine_eq]; decide, [x', y'], .cons ru (.cons rv .nil), ?_⟩
    obtain ⟨o, ho, c, n, d⟩ := hTup
    exact ⟨o, hk2 T o hTw ho, c, n, d⟩
  . rw [wa (fun q => by
     subst q
     simp only [List.mem_cons, List.not_mem_nil, or_false] at hc' hTw
     rcases hc' with q | q | q | q | q
     . exact hTw (.inl q)
     . exact hTI' q
     . exact hTw (.inr (.inl q))
     . exact hTw (.inr (.inr (.inl q)))
     . exact hTw (.inr (.inr (.inr q))))]
    exact (hf c hc').1
 done := by
  intro X hP hw hK hc i pins s σ H E I hf st hg
  subst hP hw hK
  obtain ⟨xs, ys, hq1, hq2, hx⟩ := hg
  obtain ⟨its1, rv1, p1, _⟩ := I.list (SqL.of (K := X.K) hq1)
  obtain ⟨its2, rv2, p2, _⟩ := I.list (SqL.of (K := X.K) hq2)
  obtain ⟨hz, hTI, ⟨x, y, hTO⟩, h1, h2⟩ := st
  have l1 := rv1.length
  have l2 := rv2.length
  refine wpAny_pyNext_zip_end (I.ok.hd hc) D hz hTI hTO h1 h2 p1.isList p2.isList ?_ fun h' hk => ⟨rfl, ?_⟩
  . rcases hx with hx | hx
    . exact .inl (by rw [List.getElem?_toArray]; exact List.getElem?_eq_none (by omega))
    . exact .inr (by rw [List.getElem?_toArray]; exact List.getElem?_eq_none (by omega))
  . exact I.Ag (t' := s.toks) (ch := [z, TI, TO, i1, i2]) (fun c o hc' q => hk c o (fun q => hc' (by simp [q])) (fun q => hc' (by simp [q])) (fun q => hc' (by simp [q])) (fun q => hc' (by simp [q])) q) hf
 self := fun A i s Q E st h => wpAny_pyIter_zip st.1 h
def iEnum (tA : TA) : TI := fun σ H R => tA σ H fun vs H1 => ∃ a xs, vs = [.ref a] /\ H1 a = some (.lst xs) /\ R (Ite a) H1
def iZip (tA : TA) : TI := fun σ H R => tA σ H fun vs H1 => ∃ a b xs ys, vs = [.ref a, .ref b] /\ H1 a = some (.lst xs) /\ H1 b = some (.lst ys) /\ R (Itz a b) H1
theorem vg : bootBuiltins "enumerate" = some (.type "enumerate") := by decide +kernel
theorem bt_zip : bootBuiltins "zip" = some (.type "zip") := by decide +kernel
section
variable {X : Cx}
theorem Ti {elts : List Expr} {k : Nat} {tp : Pos} {a : Expr} {ta : TA} {p pos : Pos} (hg : Gl X "enumerate") (hm : X.mg "enumerate" = none) (ha : PA X [a] ta) (hs : starEach [a] X.env = [(false, eval a X.env)] := by first | rfl | with_unfolding_all rfl) :
 PI X (.Tuple elts k tp) (.Call (.Name "enumerate" p) [a] [] pos) (iEnum ta) := by
 intro pins s σ H R I h
 refine Call_ (Je I hg hm vg (PyProof.Rows.callWith_type1 (thn (ha pos pins s σ H _ I h) fun us s1 ⟨vs, H1, I1, r1, q1⟩ => ?_) hs rfl))
 obtain ⟨l, xs, e, hl, q⟩ := q1
 subst e
 cases r1 with
 | cons r rr =>
  cases rr
  cases r
  obtain ⟨_, its, n, _, _, hget⟩ := I1.lstM hl
  have hll : l < s1.heap.objs.size := Heap.lt_size hget
  refine call_enumerate_1 hget fun h' he hi hsz hk => wpAny_pyIter_enum he ?_
  have I2 : Inv X pins σ H1 { s1 with heap := h' } := I1.kept (t' := s1.toks) hk
  refine ⟨s1.heap.objs.size + 1, [s1.heap.objs.size + 1, s1.heap.objs.size], _, _, H1, rfl, I2, di l _ _ (Nat.ne_of_gt (Nat.lt_succ_self _)) (Nat.ne_of_lt (Nat.lt_succ_of_lt hll)) (Nat.ne_of_lt hll), ⟨⟨_, he⟩, hi⟩, fun b hb => ?_, q⟩
  have hle : s1.heap.objs.size <= b := by
   simp only [List.mem_cons, List.not_mem_nil, or_false] at hb
   rcases hb with hb | hb
   . rw [hb]; exact Nat.le_succ _
   . rw [hb]; exact Nat.le_refl _
  exact I1.fpOk hle (I1.hok.fresh hle)
theorem Fl {elts : List Expr} {k : Nat} {tp : Pos} {a b : Expr} {ta : TA} {p pos : Pos} (hg : Gl X "zip") (hm : X.mg "zip" = none) (ha : PA X [a, b] ta) (hs : starEach [a, b] X.env = [(false, eval a X.env), (false, eval b X.env)] := by first | rfl | with_unfolding_all rfl) (hs2 : starEach [b] X.env = [(false, eval b X.env)] := by first | rfl | with_unfolding_all rfl) :
 PI X (.Tuple elts k tp) (.Call (.Name "zip" p) [a, b] [] pos) (iZip ta) := by
 intro pins s σ H R I h
 refine Call_ (Je I hg hm bt_zip (PyProof.Rows.callWith_type1 (thn (ha pos pins s σ H _ I h) fun us s1 ⟨vs, H1, I1, r1, q1⟩ => ?_) (by rw [hs, hs2]) (by rw [hs2]; rfl)))
 obtain ⟨l1, l2, xs, ys, e, hl1, hl2, q⟩ := q1
 subst e
 cases r1 with
 | cons r rr =>
  cases rr with
  | cons r' rr =>
   cases rr
   cases r
   cases r'
   obtain ⟨its1, _, p1, _⟩ := I1.list (SqL.of (K := X.K) hl1)
   obtain ⟨its2, _, p2, _⟩ := I1.list (SqL.of (K := X.K) hl2)
   have a1 : l1 < s1.heap.objs.size := I1.hok.lt hl1
   have a2 : l2 < s1.heap.objs.size := I1.hok.lt hl2
   refine call_zip_2 p1.isList p2.isList fun h' hz hTI hTO h1 h2 hsz hk => wpAny_pyIter_zip hz ?_
   have I2 : Inv X pins σ H1 { s1 with heap := h' } := I1.kept (t' := s1.toks) hk
   refine ⟨s1.heap.objs.size + 4, [s1.heap.objs.size + 4, s1.heap.objs.size + 2, s1.heap.objs.size + 3, s1.heap.objs.size, s1.heap.objs.size + 1], _, _, H1, rfl, I2, Kj l1 l2 _ _ _ _ _ (zipApart_new a1 a2), ⟨hz, hTI, ⟨_, _, hTO⟩, h1, h2⟩, fun b hb => ?_, q⟩
   have hle : s1.heap.objs.size <= b := by
    simp only [List.mem_cons, List.not_mem_nil, or_false] at hb
    rcases hb with hb | hb | hb | hb | hb <;> rw [hb]
    . exact Nat.le_add_right _ _
    . exact Nat.le_add_right _ _
    . exact Nat.le_add_right _ _
    . exact Nat.le_refl _
    . exact Nat.le_add_right _ _
   exact I1.fpOk hle (I1.hok.fresh hle)
end
end L2
namespace L2
open PySem PySem.Spec PyProof.Rows
def ForJ (J : It) (g : TG) (tb : TS) (D : Ends) (σ : St) (H : Hp) : Prop := ∃ W : Nat -> Nat -> St -> Hp -> Prop, (∃ m, W 0 m σ H) /\ ∀ i m σ H, W i m σ H ->
 (J.stop i H /\ D.nx σ H) \/ (J.go i H /\ ∃ N : St -> Hp -> Prop, (∀ σ' H', N σ' H' -> ∃ m', m' < m /\ W (i + 1) m' σ' H') /\ ∀ x H', J.yld i H x H' -> g x σ H' fun σ2 H2 => tb { D with nx := N, ct := N, bk := D.nx } σ2 H2)
def ForE (vs : List V) (g : TG) (tb : TS) (D : Ends) (σ : St) (H : Hp) : Prop := ∃ a xs, vs = [.ref a] /\ H a = some (.lst xs) /\ ForJ (Ite a) g tb D σ H
section
variable {tA : TA} {g : TG} {tb : TS} {D : Ends} {σ : St} {H : Hp} {n b c : St -> Hp -> Prop} {r : VK}
theorem r_forE (h : tA σ H fun vs H1 => ForE vs g tb D σ H1) : tFor (iEnum tA) g tb D σ H := h
theorem forE {a : Addr} {xs : List V} (Pv : Nat -> St -> Hp -> Prop) (h0 : Pv 0 σ H) (hl : ∀ i σ H, i <= xs.length -> Pv i σ H -> H a = some (.lst xs))
 (hs : ∀ (i : Nat) x σ H T, xs[i]? = some x -> Pv i σ H -> H T = none -> g (.ref T) σ (upd H T (.tup [.int (i : Int), x])) fun σ2 H2 => tb ⟨Pv (i + 1), r, n, Pv (i + 1)⟩ σ2 H2) (hd : ∀ σ H, Pv xs.length σ H -> n σ H) : ForE [.ref a] g tb ⟨n, r, b, c⟩ σ H := by
 refine ⟨a, xs, rfl, hl 0 σ H (Nat.zero_le _) h0, fun i m σ' H' => m = xs.length - i /\ i <= xs.length /\ Pv i σ' H', ⟨xs.length, by simp, Nat.zero_le _, h0⟩, ?_⟩
 rintro i m σ' H' ⟨rfl, hi, p⟩
 have q := hl i σ' H' hi p
 by_cases hlt : i < xs.length
 . refine .inr ⟨⟨xs, xs[i], q, by simp [hlt]⟩, Pv (i + 1), fun σ' H' p' => ⟨xs.length - (i + 1), by omega, rfl, hlt, p'⟩, fun v H2 y => ?_⟩
   obtain ⟨T, xs', x, rfl, hT, hq, hx, rfl⟩ := y
   rw [q] at hq
   cases hq
   exact hs i x σ' H' T hx p hT
 . have e : i = xs.length := by omega
   subst e
   exact .inl ⟨⟨xs, q, Nat.le_refl _⟩, hd σ' H' p⟩
end
section
variable {tA : TA} {js : List Nat} {g : TG} {tt : TT} {te : TE} {σ : St} {H : Hp} {Q : VK} {nt : Nat}
def CompZ (vs : List V) (js : List Nat) (nt : Nat) (g : TG) (tt : TT) (te : TE) (σ : St) (H : Hp) (Q : VK) : Prop := ∃ a b xs ys, vs = [.ref a, .ref b] /\ H a = some (.lst xs) /\ H b = some (.lst ys) /\ En (Itz a b) js nt g tt te σ H Q
theorem xm (h : tA σ H fun vs H1 => CompZ vs js nt g tt te σ H1 Q) : mi js nt (iZip tA) g tt te σ H Q := h
end
def rRev (K : PySem.W.Frag) (x y : V) (H : Hp) (Q : VK) : Prop := ∃ a xs, x = .ref a /\ y = .int (-1) /\ SqL K H a xs /\ ∀ p, H p = none -> Q (.ref p) (upd H p (.lst xs.reverse))
section
variable {X : Cx} {K : PySem.W.Frag}
theorem Vi {e k : Expr} {te tk : TE} {pos p2 : Pos} (hK : X.K = K) (he : PE X e te) (hk : PE X k tk) : PE X (.Subscript e (.Slice none none (some k) p2) pos) (tOp (rRev K) te tk) := by
 subst hK
 intro pins s σ H Q I h
 refine Subscript_ (thn (he pins s σ H _ I h) fun v s1 ⟨x, H1, I1, r1, q1⟩ => ?_)
 refine wpAny_Slice ?_
 rw [evalPart_none]
 refine wpAny_pure ?_
 refine wpAny_pure ?_
 rw [evalPart_some]
 refine thn (hk pins s1 σ H1 _ I1 q1) fun vk s3 ⟨y, H3, I3, r3, q3⟩ => ?_
 obtain ⟨a, xs, rfl, rfl, hx, q⟩ := q3
 cases r1
 obtain ⟨t, rfl⟩ := r3
 have I4 : Inv X pins σ H3 { s3 with heap := s3.heap.push { cls := .type "slice", data := .fields #[.none, .none, .int (-1) t] } } := I3.kept (t' := s3.toks) fun b ob q => Heap.get?_push_of_some _ q
 obtain ⟨its, r, ht, hz⟩ := I4.list hx
 have hlen := r.length
 show wpAny (model X.prog X.w) X.A (subscriptTail e (.Slice none none (some k) p2) (.ref a) (.ref s3.heap.objs.size)) (EP X pins σ Q) X.xe { s3 with heap := s3.heap.push { cls := .type "slice", data := .fields #[.none, .none, .int (-1) t] } }
 refine tail_any (ops := [.ref a, .ref s3.heap.objs.size]) (T := "list") ht.isList.typeIs slot_list_getitem.lookup ?_ (by with_unfolding_all rfl)
 refine wpAny_getItem_list_slice ht.isList (Heap.IsSliceOf.new ..) .none .none (.int (-1) t) (by decide) ?_ (by rw [List.size_toArray] <;> omega)
 rw [PySem.W.krv_pick]
 refine ⟨.ref _, _, I4.laid (t' := s3.toks) (o := .lst xs.reverse) (fun b ob q => Heap.get?_push_of_some _ q) (Nat.le_refl _) ?_, rfl, q _ (I4.hok.fresh (Nat.le_refl _))⟩
 exact ⟨by rw [List.length_reverse]; exact hz, _, 0, r.reverse, Heap.get?_push_size _ rfl⟩
end
theorem jh {X : Cx} {x : Str} {i : Int} {pos : Pos} (hg : Gl X x) (hm : ∃ t, X.mg x = some (.int i t)) (hd : (x == ("__debug__" : Str)) = false := by decide) : PE X (.Name x pos) (tC (.int i)) := by
 obtain ⟨t, hm⟩ := hm
 exact Gm hg hm ⟨t, rfl⟩ hd
section
variable {X : Cx}
def ipC (C : Int -> Int -> Prop) (f : Int -> Int -> Int) : TIp := fun x y H Q => ∃ i j, x = .int i /\ y = .int j /\ C i j /\ Q (.int (f i j)) H
theorem ip_mul : PIp X .Mult (ipC pd fun i j => i * j) := by
 intro pins s σ H x y v u Q I r1 r2 h
 obtain ⟨i, j, e1, e2, hc, q⟩ := h
 subst e1; subst e2
 obtain ⟨t, rfl⟩ := r1
 obtain ⟨t', rfl⟩ := r2
 have ok : IntMulOk i j := by
  rcases hc with hc | ⟨m, n, h1, h2, h3⟩
  . exact hc.ok
  . exact PySem.IntMulOk.of_le (PySem.intBits_le_iff.mpr h1) (PySem.intBits_le_iff.mpr h2) h3
 exact imul_int ⟨.int _, H, I.tok _, ⟨_, rfl⟩, q⟩ ok
end
section
variable {X : Cx} {K : PySem.W.Frag}
def Cm : List V -> Hp -> VK -> Prop := fun xs H Q => ∃ i j, xs = [.int i, .int j] /\ Wg i j /\ ∀ p, H p = none -> Q (.ref p) (upd H p (.tup [.int (i / j), .int (i % j)]))
theorem yj : ib X (.builtin "divmod") Cm := by
 intro pins s σ H xs us Q I r h
 obtain ⟨i, j, rfl, ⟨h1, n, h2, h3⟩, q⟩ := h
 obtain ⟨u, w', rfl, ⟨t, rfl⟩, ⟨t', rfl⟩⟩ := vals2 r
 refine divmod_int (by omega) ?_ (.inl (PyProof.noPylong_of_log2 ((Nat.log2_lt (by omega)).mpr (Nat.lt_of_lt_of_le h2 (Nat.pow_le_pow_right (by decide) h3)))))
 rw [Int.fdiv_eq_ediv_of_nonneg i (by omega), Int.fmod_eq_emod_of_nonneg i (by omega)]
 have hn : H s.heap.objs.size = none := I.hok.fresh (Nat.le_refl _)
 refine ⟨.ref s.heap.objs.size, _, ?_, rfl, q _ hn⟩
 refine I.laid (fun b o e => Heap.get?_push_of_some _ e) (Nat.le_refl _) ⟨by simp only [List.length_cons, List.length_nil]; rw [sizeLine_eq]; decide, [.int (i / j) s.toks, .int (i % j) (s.toks + 1)], .cons ⟨_, rfl⟩ (.cons ⟨_, rfl⟩ .nil), ?_⟩
 exact ⟨_, Heap.get?_push_size s.heap rfl, rfl, 0, rfl⟩
theorem Dj : bootBuiltins "divmod" = some (.builtin "divmod") := by decide +kernel
end
section
variable {K : PySem.W.Frag} {H : Hp} {Q : VK}
theorem r_repI {a : Addr} {n k : Int} (h1 : H a = some (.lst [.int n])) (h0 : 0 <= k) (h2 : k < 65536) (h : ∀ p, H p = none -> Q (.ref p) (upd H p (.lst ((List.replicate k.toNat n).map V.int)))) : Am (.ref a) (.int k) H Q := by
 refine .inr ⟨a, k, [.int n], rfl, rfl, h1, by omega, by omega, ?_, fun p hp => ?_⟩
 . rw [sizeLine_eq]
   simp only [List.length_cons, List.length_nil]
   omega
 . have e : (List.replicate k.toNat [V.int n]).flatten = (List.replicate k.toNat n).map V.int := by
    generalize k.toNat = m
    induction m with
    | zero => rfl
    | succ m ih => rw [List.replicate_succ, List.flatten_cons, ih, List.replicate_succ]; rfl
   rw [e]; exact h p hp
end
end L2
namespace L2
open PySem PySem.Spec PyProof.Rows
end L2
namespace L2
open PySem PySem.Spec PyProof.Rows
end L2
namespace BR
open MB
inductive Wd where
 | council | bench | stay
 deriving DecidableEq
inductive Rn where
 | lot (n : Nat) | vote (n q : Nat) (w : Wd)
def Rn.n : Rn -> Nat
 | .lot n => n
 | .vote n _ _ => n
def Fit (c s : Nat) : Rn -> Prop
 | .lot n => 1 <= n /\ n <= 60 /\ n <= s
 | .vote n q w => 1 <= n /\ n <= 60 /\ n <= c /\ s < 2 * q /\ q <= s /\ (w = .bench -> n <= s) /\ (w = .stay -> n = s)
def FitR (c : Nat) : Nat -> List Rn -> Prop
 | _, [] => True
 | s, r :: rs => Fit c s r /\ FitR c r.n rs
theorem Cd {α : Type} {l : List α} {i : Nat} {x : α} (h : l[i]? = some x) : l.take (i + 1) = l.take i ++ [x] := by
 rw [List.take_add_one, h]; rfl
def dr (c s : Nat) : Rn -> Nat
 | .lot n => ch s n
 | .vote n _ .bench => ch s n
 | .vote n _ .council => ch c n
 | .vote _ _ .stay => 1
end BR
namespace L2
open PySem
theorem Same.tr {H H1 H2 : Hp} (a : Same H H1) (b : Same H1 H2) : Same H H2 := fun c o h => b c o (a c o h)
end L2
namespace BL
open PySem PySem.Spec PyProof.Rows L2 BR
structure TsAt {α : Type} (ob : α -> HO) (H : Hp) (f : Addr) (ps : List Addr) (qs : List α) : Prop where
 ls : H f = some (.lst (ps.map V.ref))
 it : ∀ i : Nat, ∀ p, ps[i]? = some p -> ∃ q, qs[i]? = some q /\ H p = some (ob q)
 ln : ps.length = qs.length
section
variable {α : Type} {ob : α -> HO} {H H' : Hp} {f g p : Addr} {ps : List Addr} {qs : List α}
theorem TsAt.get (F : TsAt ob H f ps qs) {i : Nat} {v : V} (h : (ps.map V.ref)[i]? = some v) : ∃ p q, v = .ref p /\ ps[i]? = some p /\ qs[i]? = some q /\ H p = some (ob q) := by
 rw [List.getElem?_map] at h
 cases e : ps[i]? with
 | none => rw [e] at h; cases h
 | some p =>
  rw [e] at h
  obtain ⟨q, hq, hp⟩ := F.it i p e
  exact ⟨p, q, (Option.some.inj h).symm, rfl, hq, hp⟩
theorem TsAt.ix (F : TsAt ob H f ps qs) {i : Nat} (h : i < qs.length) : ∃ p q, atI (ps.map V.ref) (i : Int) = some (.ref p) /\ qs[i]? = some q /\ H p = some (ob q) := by
 have hi : i < ps.length := by rw [F.ln]; exact h
 obtain ⟨p, q, e, _, h2, h3⟩ := F.get (i := i) (v := .ref ps[i]) (by rw [List.getElem?_map]; simp [hi])
 exact ⟨p, q, by rw [Vg (v := .ref ps[i]) (by rw [List.getElem?_map]; simp [hi]), e], h2, h3⟩
theorem TsAt.same (F : TsAt ob H f ps qs) (s : Same H H') : TsAt ob H' f ps qs := ⟨s _ _ F.ls, fun i p h => by obtain ⟨q, a, b⟩ := F.it i p h; exact ⟨q, a, s _ _ b⟩, F.ln⟩
theorem TsAt.new (F : TsAt ob H f ps qs) {o : HO} (h : H p = none) : TsAt ob (upd H p o) f ps qs := F.same ((Same.refl H).new h)
theorem TsAt.lay (F : TsAt ob H f ps qs) (h : H g = none) : TsAt ob (upd H g (.lst (ps.map V.ref))) g ps qs :=
 ⟨la, fun i p h' => by obtain ⟨q, a, b⟩ := F.it i p h'; exact ⟨q, a, by rw [wa (ka b h)]; exact b⟩, F.ln⟩
theorem TsAt.fr1 (F : TsAt ob H f ps qs) {d l : Addr} (hob : ∀ q, ∃ xs, ob q = .tup xs) (D : DrL H d l) (hf : f ≠ d) (s : Fr1 d H H') : TsAt ob H' f ps qs :=
 ⟨s.get F.ls hf, fun i p h => by
  obtain ⟨q, a, b⟩ := F.it i p h
  obtain ⟨⟨xs, hd⟩, _⟩ := D.some
  obtain ⟨ys, e⟩ := hob q
  exact ⟨q, a, s.get b (by rw [e] at b; exact Nd b hd zd)⟩, F.ln⟩
theorem TsAt.push (F : TsAt ob H f ps qs) {q : α} (hob : ∀ q, ∃ xs, ob q = .tup xs) (hp : H p = some (ob q)) : TsAt ob (upd H f (.lst (ps.map V.ref ++ [.ref p]))) f (ps ++ [p]) (qs ++ [q]) := by
 have nf : ∀ (r : Addr) (x : α), H r = some (ob x) -> r ≠ f := fun r x e => by
  obtain ⟨ys, z⟩ := hob x
  rw [z] at e
  exact Nd e F.ls zd
 refine ⟨by rw [la]; simp, fun i p' h => ?_, by rw [List.length_append, List.length_append, F.ln]; rfl⟩
 by_cases hi : i < ps.length
 . rw [List.getElem?_append_left hi] at h
   obtain ⟨q', a, b⟩ := F.it i p' h
   exact ⟨q', by rw [List.getElem?_append_left (by rw [<- F.ln]; exact hi)]; exact a, by rw [wa (nf _ _ b)]; exact b⟩
 . rw [List.getElem?_append_right (by omega)] at h
   have e : i - ps.length = 0 := by
    cases z : i - ps.length with
    | zero => rfl
    | succ k => rw [z] at h; simp at h
   rw [e] at h
   simp at h
   subst h
   exact ⟨q, by rw [List.getElem?_append_right (by rw [<- F.ln]; omega), <- F.ln, e]; rfl, by rw [wa (nf _ _ hp)]; exact hp⟩
end
def wdS : Wd -> Str
 | .council => "council"
 | .bench => "bench"
 | .stay => "stay"
def rnO : Rn -> HO
 | .lot n => .tup [.str "lot", .int n]
 | .vote n q w => .tup [.str "vote", .int n, .int q, .str (wdS w)]
theorem rn_n : ∀ r : Rn, ∃ xs, rnO r = .tup xs /\ atI xs 1 = some (.int (r.n : Nat))
 | .lot _ => ⟨_, rfl, rfl⟩
 | .vote _ _ _ => ⟨_, rfl, rfl⟩
theorem fg {K : PySem.W.Frag} {H : Hp} {x : V} (h : md x = true) : IsD K H (.v x) x := by unfold IsD; exact ⟨h, rfl⟩
theorem Va {K : PySem.W.Frag} {H : Hp} {d : D} {ds : List D} {x : V} {xs : List V} (h : IsD K H d x) (h2 : IsDs K H ds xs) : IsDs K H (d :: ds) (x :: xs) := by unfold IsDs; exact ⟨_, _, rfl, h, h2⟩
theorem ud {K : PySem.W.Frag} {H : Hp} : IsDs K H [] [] := by unfold IsDs; rfl
abbrev RwAt (H : Hp) (a : Addr) (ps : List Addr) (rs : List Rn) : Prop := TsAt rnO H a ps rs
section
variable {K : PySem.W.Frag} {H : Hp} {Q : VK} {f g : Addr} {ps ps' : List Addr} {rs : List Rn}
theorem r_neLI {a b : Addr} {ns ms : List Int} (h1 : H a = some (.lst (ns.map V.int))) (h2 : H b = some (.lst (ms.map V.int))) (h : Q (.bl (!decide (ns = ms))) H) : rNeA K (.ref a) (.ref b) H Q :=
 Li (.l (uc ns)) (.l (uc ms)) rfl (by unfold dep; rw [og]; decide) (by unfold IsD; exact ⟨a, _, rfl, SqL.of h1, Od ns⟩) (by unfold IsD; exact ⟨b, _, rfl, SqL.of h2, Od ms⟩) (by unfold eqD; rw [kg]; exact h)
end
structure CR (H : Hp) (a : Addr) (ps : List Addr) (c : Nat) (rs : List Rn) : Prop where
 rw : RwAt H a ps rs
 c1 : 1 <= c
 c2 : c <= 500
 ft : FitR c c rs
 ln : rs.length <= 100
def Gf : Sp := fun vs H Q _ => ∃ (c s : Nat) (p : Addr) (r : Rn), vs = [.int c, .int s, .ref p] /\ H p = some (rnO r) /\ c < 512 /\ s < 512 /\ Q (.int (dr c s r : Nat)) H
def ql : Sp := fun vs H Q _ => ∃ (p : Addr) (ns : List Int), vs = [.ref p] /\ H p = some (.lst (ns.map V.int)) /\ ns.length < 16777216 /\ ∀ H', Same H H' -> Q (.bl true) H'
theorem Pj {p : Addr} {ns : List Int} {H : Hp} {Q : VK} {E : XK} (h : H p = some (.lst (ns.map V.int))) (h2 : ns.length < 16777216) (q : ∀ H', Same H H' -> Q (.bl true) H') : ql [.ref p] H Q E := ⟨p, ns, rfl, h, h2, q⟩
end BL
namespace BR
open MB
def mr (n : Nat) (f : Nat -> Nat) : List Nat := (List.range (n + 1)).map f
def one (n k v : Nat) : List Nat := mr n fun j => if j = k then v else 0
def left (c f b on n q : Nat) : Nat := if q <= on then min f n else if q <= b - on then n - min (c - f) n else on
end BR
namespace BL
open PySem PySem.Spec PyProof.Rows L2 BR
end BL
namespace BR
open MB
end BR
namespace L2
open PySem
end L2
namespace BR
end BR
namespace BL
open PySem PySem.Spec PyProof.Rows L2 BR
end BL
namespace BR
inductive On where
 | lt (b : Bool) (n : Int)
 | vt (b : Bool) (n q : Int) (w : PySem.Str)
def On.n : On -> Int
 | .lt _ n => n
 | .vt _ n _ _ => n
def fitV (c s n q : Int) (w : PySem.Str) : Bool := decide (n <= c /\ s < q * 2 /\ q <= s /\ (if w = "bench" then n <= s else if w = "stay" then n = s else w = "council"))
theorem Kl {c s n q : Int} {w : PySem.Str} (h : w = "bench") (a : n <= c) (b : s < q * 2) (d : q <= s) : fitV c s n q w = decide (n <= s) :=
 decide_eq_decide.mpr ⟨fun z => by have := z.2.2.2; rw [if_pos h] at this; exact this, fun z => ⟨a, b, d, by rw [if_pos h]; exact z⟩⟩
theorem Il {c s n q : Int} {w : PySem.Str} (h1 : ¬ w = "bench") (h : w = "stay") (a : n <= c) (b : s < q * 2) (d : q <= s) : fitV c s n q w = decide (n = s) :=
 decide_eq_decide.mpr ⟨fun z => by have := z.2.2.2; rw [if_neg h1, if_pos h] at this; exact this, fun z => ⟨a, b, d, by rw [if_neg h1, if_pos h]; exact z⟩⟩
theorem Jl {c s n q : Int} {w : PySem.Str} (h1 : ¬ w = "bench") (h : ¬ w = "stay") (a : n <= c) (b : s < q * 2) (d : q <= s) : fitV c s n q w = decide (w = "council") :=
 decide_eq_decide.mpr ⟨fun z => by have := z.2.2.2; rw [if_neg h1, if_neg h] at this; exact this, fun z => ⟨a, b, d, by rw [if_neg h1, if_neg h]; exact z⟩⟩
def fitO (c s : Int) : On -> Bool
 | .lt b n => decide (1 <= n /\ n <= 60 /\ b = true /\ n <= s)
 | .vt b n q w => decide (1 <= n /\ n <= 60 /\ b = true) && fitV c s n q w
theorem Le {c s n q : Int} {b : Bool} {w : PySem.Str} (h : ¬ (1 <= n /\ n <= 60 /\ b = true)) : fitO c s (.vt b n q w) = false := by
 show (decide (1 <= n /\ n <= 60 /\ b = true) && fitV c s n q w) = false
 rw [decide_eq_false h, Bool.false_and]
theorem Ll {c s n q : Int} {w : PySem.Str} (h : 1 <= n /\ n <= 60) : fitO c s (.vt true n q w) = fitV c s n q w := by
 show (decide (1 <= n /\ n <= 60 /\ true = true) && fitV c s n q w) = _
 rw [decide_eq_true ⟨h.1, h.2, rfl⟩, Bool.true_and]
def fltA (c : Int) : Int -> Nat -> List On -> Option Nat
 | _, _, [] => none
 | s, i, o :: r => if fitO c s o = true then fltA c o.n (i + 1) r else some i
def ub : Int -> List On -> Int
 | s, [] => s
 | _, o :: r => ub o.n r
theorem Qc : ∀ (s : Int) (os : List On) (o : On), ub s (os ++ [o]) = o.n
 | _, [], _ => rfl
 | _, a :: r, o => Qc a.n r o
def okTo (c : Int) (os : List On) (i : Nat) : Prop := ∀ j o, j < i -> os[j]? = some o -> fitO c (ub c (os.take j)) o = true
theorem kf {c : Int} : ∀ {os : List On} {s : Int} {k i : Nat} {o : On}, (∀ j o, j < i -> os[j]? = some o -> fitO c (ub s (os.take j)) o = true) -> os[i]? = some o -> fitO c (ub s (os.take i)) o = false -> fltA c s k os = some (k + i)
 | [], _, _, _, _, _, h, _ => by simp at h
 | a :: r, s, k, 0, o, _, h, hf => by
  have e : a = o := by simpa using h
  subst e
  unfold fltA
  rw [if_neg (by rw [show fitO c s a = false from hf]; exact Bool.false_ne_true)]
  rfl
 | a :: r, s, k, i + 1, o, ok, h, hf => by
  have h0 : fitO c s a = true := ok 0 a (by omega) rfl
  unfold fltA
  have e : ∀ l : List On, ub s (a :: l) = ub a.n l := fun l => rfl
  have z := kf (c := c) (s := a.n) (k := k + 1) (i := i) (o := o) (os := r) (fun j o' hj ho' => by
   have := ok (j + 1) o' (by omega) (by simpa using ho')
   rw [List.take_succ_cons, e] at this
   exact this) (by simpa using h) (by rw [List.take_succ_cons, e] at hf; exact hf)
  rw [if_pos h0, z]
  congr 1
  omega
theorem mf {c : Int} : ∀ {os : List On} {s : Int} {k : Nat}, (∀ j o, os[j]? = some o -> fitO c (ub s (os.take j)) o = true) -> fltA c s k os = none
 | [], _, _, _ => rfl
 | a :: r, s, k, ok => by
  have h0 : fitO c s a = true := ok 0 a rfl
  have e : ∀ l : List On, ub s (a :: l) = ub a.n l := fun l => rfl
  unfold fltA
  rw [if_pos h0]
  refine mf fun j o' ho' => ?_
  have := ok (j + 1) o' (by simpa using ho')
  rw [List.take_succ_cons, e] at this
  exact this
end BR
namespace BL
open PySem PySem.Spec PyProof.Rows L2 BR
def onO : On -> HO
 | .lt b n => .tup [.str (if b = true then "lot" else "lots"), .int n]
 | .vt b n q w => .tup [.str (if b = true then "vote" else "votes"), .int n, .int q, .str w]
theorem on_n (o : On) : ∃ xs, onO o = .tup xs /\ atI xs 1 = some (.int o.n) := by cases o <;> exact ⟨_, rfl, Vg (j := 1) rfl⟩
def rl : Sp := fun vs H Q _ => ∃ (c s n q : Int) (w : Str), vs = [.int c, .int s, .int n, .int q, .str w] /\ Q (.bl (fitV c s n q w)) H
theorem Qj {c s n q : Int} {w : Str} {H : Hp} {Q : VK} {E : XK} (h : Q (.bl (fitV c s n q w)) H) : rl [.int c, .int s, .int n, .int q, .str w] H Q E := ⟨c, s, n, q, w, rfl, h⟩
def yi : Sp := fun vs H Q _ => ∃ (c s : Int) (p : Addr) (o : On), vs = [.int c, .int s, .ref p] /\ H p = some (onO o) /\ Q (.bl (fitO c s o)) H
theorem dh {c s : Int} {p : Addr} {o : On} {H : Hp} {Q : VK} {E : XK} (hp : H p = some (onO o)) (h : Q (.bl (fitO c s o)) H) : yi [.int c, .int s, .ref p] H Q E := ⟨c, s, p, o, rfl, hp, h⟩
def NoC (cC : Addr) (H : Hp) (E : XK) : Prop := ∀ (H' : Hp) (ea : Addr), Same H H' -> H' ea = none -> E (.ref cC) (some ea) H'
def NoR (cR : Addr) (k : Nat) (H : Hp) (E : XK) : Prop := ∀ (H' : Hp) (ea dx : Addr), Same H H' -> H' ea = none -> H' dx = none -> ea ≠ dx -> E (.int cR dx) (some ea) (upd H' dx (.xd [("at", .int k)]))
theorem NoC.same {cC : Addr} {H H1 : Hp} {E : XK} (n : NoC cC H E) (s : Same H H1) : NoC cC H1 E := fun H' ea s' h => n H' ea (s.tr s') h
theorem NoR.same {cR : Addr} {k : Nat} {H H1 : Hp} {E : XK} (n : NoR cR k H E) (s : Same H H1) : NoR cR k H1 E := fun H' ea dx s' h1 h2 h3 => n H' ea dx (s.tr s') h1 h2 h3
def lstO (os : List On) : List V := os.map fun o => V.int o.n
def Te (cC cR : Addr) : Sp := fun vs H Q E => ∃ (c : Int) (a : Addr) (ps : List Addr) (os : List On), vs = [.int c, .ref a] /\ TsAt onO H a ps os /\ os.length < 200 /\
 (c < 1 \/ 500 < c -> NoC cC H E) /\ (1 <= c -> c <= 500 -> (∀ k, fltA c c 0 os = some k -> NoR cR k H E) /\ (fltA c c 0 os = none -> ∀ (p : Addr) (H' : Hp), H p = none -> Same H H' -> H' p = some (.lst (lstO os)) -> Q (.ref p) H'))
theorem Lc {cC cR : Addr} {c : Int} {a : Addr} {ps : List Addr} {os : List On} {H : Hp} {Q : VK} {E : XK} (R : TsAt onO H a ps os) (hl : os.length < 200) (q1 : c < 1 \/ 500 < c -> NoC cC H E)
 (q2 : 1 <= c -> c <= 500 -> (∀ k, fltA c c 0 os = some k -> NoR cR k H E) /\ (fltA c c 0 os = none -> ∀ (p : Addr) (H' : Hp), H p = none -> Same H H' -> H' p = some (.lst (lstO os)) -> Q (.ref p) H')) : Te cC cR [.int c, .ref a] H Q E := ⟨c, a, ps, os, rfl, R, hl, q1, q2⟩
def Ue (cC cR : Addr) : Sp := fun vs H Q E => ∃ (c : Int) (a : Addr) (ps : List Addr) (os : List On), vs = [.int c, .ref a] /\ TsAt onO H a ps os /\ os.length < 200 /\
 (c < 1 \/ 500 < c -> NoC cC H E) /\ (1 <= c -> c <= 500 -> (∀ k, fltA c c 0 os = some k -> NoR cR k H E) /\ (fltA c c 0 os = none -> ∀ (p : Addr) (H' : Hp), H p = none -> Same H H' -> H' p = some (.lst (.int c :: lstO os)) -> Q (.ref p) H'))
theorem Be {cC cR : Addr} {c : Int} {a : Addr} {ps : List Addr} {os : List On} {H : Hp} {Q : VK} {E : XK} (R : TsAt onO H a ps os) (hl : os.length < 200) (q1 : c < 1 \/ 500 < c -> NoC cC H E)
 (q2 : 1 <= c -> c <= 500 -> (∀ k, fltA c c 0 os = some k -> NoR cR k H E) /\ (fltA c c 0 os = none -> ∀ (p : Addr) (H' : Hp), H p = none -> Same H H' -> H' p = some (.lst (.int c :: lstO os)) -> Q (.ref p) H')) : Ue cC cR [.int c, .ref a] H Q E := ⟨c, a, ps, os, rfl, R, hl, q1, q2⟩
theorem Wh (c : Int) (os : List On) : atI (.int c :: lstO os) (-1) = some (.int (ub c os)) := by
 have : ∀ (os : List On) (c : Int) (xs : List V), (V.int c :: lstO os).getLast? = some (.int (ub c os)) := by
  intro os
  induction os with
  | nil => intro c xs; rfl
  | cons o r ih => intro c xs; rw [show (V.int c :: lstO (o :: r)) = V.int c :: (V.int o.n :: lstO r) from rfl, List.getLast?_cons_cons]; exact ih o.n xs
 have h := this os c []
 rcases List.eq_nil_or_concat (V.int c :: lstO os) with z | ⟨l, x, z⟩
 . cases z
 . rw [List.concat_eq_append] at z
   rw [z] at h ⊢
   rw [List.getLast?_append] at h
   have e : x = .int (ub c os) := by simpa using h
   rw [e]
   exact Zk _ _
def Qe (cC cR : Addr) : Sp := fun vs H Q E => ∃ (c : Int) (a : Addr) (ps : List Addr) (os : List On), vs = [.int c, .ref a] /\ TsAt onO H a ps os /\ os.length < 200 /\
 (c < 1 \/ 500 < c -> NoC cC H E) /\ (1 <= c -> c <= 500 -> (∀ k, fltA c c 0 os = some k -> NoR cR k H E) /\ (fltA c c 0 os = none -> ∀ H', Same H H' -> Q (.bl (decide (ub c os = 1))) H'))
def Due (cC cR : Addr) (c : Int) (os : List On) (H : Hp) (E : XK) : Prop := ((c < 1 \/ 500 < c) /\ NoC cC H E) \/ (1 <= c /\ c <= 500 /\ ∃ k, fltA c c 0 os = some k /\ NoR cR k H E)
theorem Due.same {cC cR : Addr} {c : Int} {os : List On} {H H1 : Hp} {E : XK} (d : Due cC cR c os H E) (s : Same H H1) : Due cC cR c os H1 E := by
 rcases d with ⟨h, n⟩ | ⟨h1, h2, k, hk, n⟩
 . exact .inl ⟨h, n.same s⟩
 . exact .inr ⟨h1, h2, k, hk, n.same s⟩
def eh (cC cR : Addr) : Sp := fun vs H Q E => ∃ (c : Int) (a : Addr) (ps : List Addr) (os : List On), vs = [.int c, .ref a] /\ TsAt onO H a ps os /\ os.length < 200 /\ Due cC cR c os H E
theorem Ub {cC cR : Addr} {c : Int} {a : Addr} {ps : List Addr} {os : List On} {H : Hp} {Q : VK} {E : XK} (R : TsAt onO H a ps os) (hl : os.length < 200) (d : Due cC cR c os H E) : eh cC cR [.int c, .ref a] H Q E := ⟨c, a, ps, os, rfl, R, hl, d⟩
theorem Ce {cC cR : Addr} {c : Int} {a : Addr} {ps : List Addr} {os : List On} {H : Hp} {Q : VK} {E : XK} (R : TsAt onO H a ps os) (hl : os.length < 200) (d : Due cC cR c os H E) : Ue cC cR [.int c, .ref a] H Q E := by
 refine Be R hl (fun h => ?_) fun h1 h2 => ⟨fun k hk => ?_, fun hn => ?_⟩
 . rcases d with ⟨_, n⟩ | ⟨h1, h2, _⟩
   . exact n
   . omega
 . rcases d with ⟨h, _⟩ | ⟨_, _, k', hk', n⟩
   . omega
   . rw [hk] at hk'; cases hk'; exact n
 . rcases d with ⟨h, _⟩ | ⟨_, _, k', hk', _⟩
   . omega
   . rw [hn] at hk'; cases hk'
def Bg (cC cR : Addr) : Sp := fun vs H Q E => ∃ (c : Int) (a : Addr) (v : V) (ps : List Addr) (os : List On), vs = [.int c, .ref a, v] /\ TsAt onO H a ps os /\ os.length < 200 /\ Due cC cR c os H E
theorem Hf {cC cR : Addr} {c : Int} {a : Addr} {v : V} {ps : List Addr} {os : List On} {H : Hp} {Q : VK} {E : XK} (R : TsAt onO H a ps os) (hl : os.length < 200) (d : Due cC cR c os H E) : Bg cC cR [.int c, .ref a, v] H Q E := ⟨c, a, v, ps, os, rfl, R, hl, d⟩
theorem Ah {cC cR : Addr} {c : Int} {a : Addr} {ps : List Addr} {os : List On} {H : Hp} {Q : VK} {E : XK} (R : TsAt onO H a ps os) (hl : os.length < 200) (d : Due cC cR c os H E) : Te cC cR [.int c, .ref a] H Q E := by
 refine Lc R hl (fun h => ?_) fun h1 h2 => ⟨fun k hk => ?_, fun hn => ?_⟩
 . rcases d with ⟨_, n⟩ | ⟨h1, h2, _⟩
   . exact n
   . omega
 . rcases d with ⟨h, _⟩ | ⟨_, _, k', hk', n⟩
   . omega
   . rw [hk] at hk'; cases hk'; exact n
 . rcases d with ⟨h, _⟩ | ⟨_, _, k', hk', _⟩
   . omega
   . rw [hn] at hk'; cases hk'
theorem Ae {cC cR : Addr} {c : Int} {a : Addr} {ps : List Addr} {os : List On} {H : Hp} {Q : VK} {E : XK} (R : TsAt onO H a ps os) (hl : os.length < 200) (q1 : c < 1 \/ 500 < c -> NoC cC H E)
 (q2 : 1 <= c -> c <= 500 -> (∀ k, fltA c c 0 os = some k -> NoR cR k H E) /\ (fltA c c 0 os = none -> ∀ H', Same H H' -> Q (.bl (decide (ub c os = 1))) H')) : Qe cC cR [.int c, .ref a] H Q E := ⟨c, a, ps, os, rfl, R, hl, q1, q2⟩
theorem zh {cC cR : Addr} {c : Int} {a : Addr} {ps : List Addr} {os : List On} {H : Hp} {Q : VK} {E : XK} (R : TsAt onO H a ps os) (hl : os.length < 200) (d : Due cC cR c os H E) : Qe cC cR [.int c, .ref a] H Q E := by
 refine Ae R hl (fun h => ?_) fun h1 h2 => ⟨fun k hk => ?_, fun hn => ?_⟩
 . rcases d with ⟨_, n⟩ | ⟨h1, h2, _⟩
   . exact n
   . omega
 . rcases d with ⟨h, _⟩ | ⟨_, _, k', hk', n⟩
   . omega
   . rw [hk] at hk'; cases hk'; exact n
 . rcases d with ⟨h, _⟩ | ⟨_, _, k', hk', _⟩
   . omega
   . rw [hn] at hk'; cases hk'
def xl (cC cR : Addr) : Sp := fun vs H Q E => ∃ (c : Int) (a : Addr) (w : Int) (ps : List Addr) (os : List On), vs = [.int c, .ref a, .int w] /\ TsAt onO H a ps os /\ os.length < 200 /\ Due cC cR c os H E
theorem Rj {cC cR : Addr} {c : Int} {a : Addr} {w : Int} {ps : List Addr} {os : List On} {H : Hp} {Q : VK} {E : XK} (R : TsAt onO H a ps os) (hl : os.length < 200) (d : Due cC cR c os H E) : xl cC cR [.int c, .ref a, .int w] H Q E := ⟨c, a, w, ps, os, rfl, R, hl, d⟩
def Zb (c : Int) (os : List On) : List V := if c < 1 \/ 500 < c then [.str "count", .non] else match fltA c c 0 os with
 | some k => [.str "round", .int k]
 | none => [.str "", .int (ub c os)]
def ll : Sp := fun vs H Q _ => ∃ (c : Int) (a : Addr) (w : Int) (ps : List Addr) (os : List On), vs = [.int c, .ref a, .int w] /\ TsAt onO H a ps os /\ os.length < 200 /\ ((c < 1 \/ 500 < c) \/ ∃ k, fltA c c 0 os = some k) /\ ∀ (p : Addr) (H' : Hp), H p = none -> Same H H' -> H' p = some (.tup (Zb c os)) -> Q (.ref p) H'
theorem Nj {c : Int} {a : Addr} {w : Int} {ps : List Addr} {os : List On} {H : Hp} {Q : VK} {E : XK} (R : TsAt onO H a ps os) (hl : os.length < 200) (d : (c < 1 \/ 500 < c) \/ ∃ k, fltA c c 0 os = some k) (q : ∀ (p : Addr) (H' : Hp), H p = none -> Same H H' -> H' p = some (.tup (Zb c os)) -> Q (.ref p) H') : ll [.int c, .ref a, .int w] H Q E := ⟨c, a, w, ps, os, rfl, R, hl, d, q⟩
def Ai : Sp := fun vs H Q _ => ∃ (c : Int) (a : Addr) (ps : List Addr) (os : List On), vs = [.int c, .ref a] /\ TsAt onO H a ps os /\ os.length < 200 /\ ∀ (p : Addr) (H' : Hp), H p = none -> Same H H' -> H' p = some (.tup (Zb c os)) -> Q (.ref p) H'
theorem zi {c : Int} {a : Addr} {ps : List Addr} {os : List On} {H : Hp} {Q : VK} {E : XK} (R : TsAt onO H a ps os) (hl : os.length < 200) (q : ∀ (p : Addr) (H' : Hp), H p = none -> Same H H' -> H' p = some (.tup (Zb c os)) -> Q (.ref p) H') : Ai [.int c, .ref a] H Q E := ⟨c, a, ps, os, rfl, R, hl, q⟩
def si : Sp := fun vs H Q _ => ∃ (c : Int) (a : Addr) (ps : List Addr) (os : List On), vs = [.int c, .ref a] /\ TsAt onO H a ps os /\ os.length < 200 /\ ∀ (p : Addr) (H' : Hp), H p = none -> Same H H' -> H' p = some (.lst (.int c :: lstO os)) -> Q (.ref p) H'
theorem qi {c : Int} {a : Addr} {ps : List Addr} {os : List On} {H : Hp} {Q : VK} {E : XK} (R : TsAt onO H a ps os) (hl : os.length < 200) (q : ∀ (p : Addr) (H' : Hp), H p = none -> Same H H' -> H' p = some (.lst (.int c :: lstO os)) -> Q (.ref p) H') : si [.int c, .ref a] H Q E := ⟨c, a, ps, os, rfl, R, hl, q⟩
def oi : Sp := fun vs H Q _ => ∃ (d l : Addr) (c s m : Nat), vs = [.ref d, .int c, .int s, .int m] /\ DrL H d l /\ 1 <= s /\ s <= 500 /\ 1 <= c /\ c <= 500 /\ 1 <= m /\ m <= 60 /\ ∀ (p : Addr) (H' : Hp) (r : Rn), DrL H' d l -> Fr1 d H H' -> H' p = some (rnO r) -> Q (.ref p) H'
theorem Ff {d l : Addr} {c s m : Nat} {H : Hp} {Q : VK} {E : XK} (D : DrL H d l) (h1 : 1 <= s) (h2 : s <= 500) (h0 : 1 <= c) (h3 : c <= 500) (h4 : 1 <= m) (h5 : m <= 60) (q : ∀ (p : Addr) (H' : Hp) (r : Rn), DrL H' d l -> Fr1 d H H' -> H' p = some (rnO r) -> Q (.ref p) H') : oi [.ref d, .int c, .int s, .int m] H Q E := ⟨d, l, c, s, m, rfl, D, h1, h2, h0, h3, h4, h5, q⟩
def zl : Sp := fun vs H Q _ => ∃ (d l : Addr) (c s : Nat), vs = [.ref d, .int c, .int s] /\ DrL H d l /\ 1 <= s /\ s <= 500 /\ 1 <= c /\ c <= 500 /\ ∀ (p : Addr) (H' : Hp) (o : On), DrL H' d l -> Fr1 d H H' -> H' p = some (onO o) -> Q (.ref p) H'
theorem Sj {d l : Addr} {c s : Nat} {H : Hp} {Q : VK} {E : XK} (D : DrL H d l) (h1 : 1 <= s) (h2 : s <= 500) (h0 : 1 <= c) (h3 : c <= 500) (q : ∀ (p : Addr) (H' : Hp) (o : On), DrL H' d l -> Fr1 d H H' -> H' p = some (onO o) -> Q (.ref p) H') : zl [.ref d, .int c, .int s] H Q E := ⟨d, l, c, s, rfl, D, h1, h2, h0, h3, q⟩
def ml : Sp := fun vs H Q _ => ∃ (d l : Addr) (c : Int), vs = [.ref d, .int c] /\ DrL H d l /\ -1 <= c /\ c <= 501 /\ ∀ (a : Addr) (H' : Hp) (ps : List Addr) (os : List On), TsAt onO H' a ps os -> os.length <= 5 -> DrL H' d l -> Fr1 d H H' -> H a = none -> Q (.ref a) H'
theorem Oj {d l : Addr} {c : Int} {H : Hp} {Q : VK} {E : XK} (D : DrL H d l) (h1 : -1 <= c) (h2 : c <= 501) (q : ∀ (a : Addr) (H' : Hp) (ps : List Addr) (os : List On), TsAt onO H' a ps os -> os.length <= 5 -> DrL H' d l -> Fr1 d H H' -> H a = none -> Q (.ref a) H') : ml [.ref d, .int c] H Q E := ⟨d, l, c, rfl, D, h1, h2, q⟩
def Al : Sp := fun vs H Q _ => ∃ (d l : Addr), vs = [.ref d] /\ DrL H d l /\ ∀ (c : Int) (H' : Hp), -1 <= c -> c <= 501 -> DrL H' d l -> Fr1 d H H' -> Q (.int c) H'
theorem Tj {d l : Addr} {H : Hp} {Q : VK} {E : XK} (D : DrL H d l) (q : ∀ (c : Int) (H' : Hp), -1 <= c -> c <= 501 -> DrL H' d l -> Fr1 d H H' -> Q (.int c) H') : Al [.ref d] H Q E := ⟨d, l, rfl, D, q⟩
def rnOn : Rn -> On
 | .lot n => .lt true n
 | .vote n q w => .vt true n q (wdS w)
theorem rnOn_o (r : Rn) : rnO r = onO (rnOn r) := by cases r <;> rfl
theorem dr_nt {H : Hp} {d l p : Addr} {xs : List V} (D : DrL H d l) (h : H p = some (.tup xs)) : p ≠ d := by
 obtain ⟨⟨ys, hd⟩, _⟩ := D.some
 exact Nd h hd zd
theorem rh {xs : List V} {g : Int} (h0 : 0 <= g) (h1 : g < (xs.length : Nat)) : ∃ v, atI xs g = some v /\ v ∈ xs := by
 obtain ⟨j, rfl⟩ : ∃ j : Nat, g = j := ⟨g.toNat, by omega⟩
 have hj : j < xs.length := by omega
 exact ⟨xs[j], Vg (List.getElem?_eq_getElem hj), List.getElem_mem hj⟩
theorem Fj {xs : List V} {g : Int} (h0 : 0 <= g) (h1 : g < (xs.length : Nat)) (h : xs.all (fun v => match v with | .int _ => true | _ => false) = true) : ∃ n, atI xs g = some (.int n) := by
 obtain ⟨v, e, m⟩ := rh h0 h1
 have := List.all_eq_true.mp h v m
 cases v <;> first | exact ⟨_, e⟩ | cases this
theorem yn {xs : List V} {g : Int} (h0 : 0 <= g) (h1 : g < (xs.length : Nat)) (h : xs.all (fun v => match v with | .str _ => true | _ => false) = true) : ∃ n, atI xs g = some (.str n) := by
 obtain ⟨v, e, m⟩ := rh h0 h1
 have := List.all_eq_true.mp h v m
 cases v <;> first | exact ⟨_, e⟩ | cases this
def dOn : On -> D
 | .lt b n => .t [.v (.str (if b = true then "lot" else "lots")), .v (.int n)]
 | .vt b n q w => .t [.v (.str (if b = true then "vote" else "votes")), .v (.int n), .v (.int q), .v (.str w)]
theorem isD_on {K : PySem.W.Frag} {H : Hp} {p : Addr} : ∀ {o : On}, H p = some (onO o) -> IsD K H (dOn o) (.ref p)
 | .lt b n, h => by
  show IsD K H (.t _) _
  unfold IsD
  exact ⟨p, _, rfl, SqT.of h, Va (fg rfl) (Va (fg rfl) ud)⟩
 | .vt b n q w, h => by
  show IsD K H (.t _) _
  unfold IsD
  exact ⟨p, _, rfl, SqT.of h, Va (fg rfl) (Va (fg rfl) (Va (fg rfl) (Va (fg rfl) ud)))⟩
theorem Ec {K : PySem.W.Frag} {H : Hp} : ∀ {ps : List Addr} {qs : List On}, ps.length = qs.length -> (∀ i : Nat, ∀ p, ps[i]? = some p -> ∃ q, qs[i]? = some q /\ H p = some (onO q)) -> IsDs K H (qs.map dOn) (ps.map V.ref)
 | [], [], _, _ => ud
 | [], _ :: _, h, _ => by simp at h
 | _ :: _, [], h, _ => by simp at h
 | p :: ps, q :: qs, h, hi => by
  refine Va ?_ (Ec (by simpa using h) fun i p' h' => ?_)
  . obtain ⟨q', e, hp⟩ := hi 0 p (by simp)
    simp at e
    subst e
    exact isD_on hp
  . obtain ⟨q', e, hp⟩ := hi (i + 1) p' (by simpa using h')
    exact ⟨q', by simpa using e, hp⟩
theorem qf : ∀ os : List On, deps (os.map dOn) <= 1
 | [] => by simp [deps]
 | o :: os => by
  rw [List.map_cons]
  unfold deps
  have := qf os
  have e : dep (dOn o) <= 1 := by cases o <;> simp [dOn, dep, deps]
  omega
section
variable {K : PySem.W.Frag} {H : Hp} {Q : VK} {f g : Addr} {ps ps' : List Addr} {os : List On}
theorem r_eqOn (F : TsAt onO H f ps os) (G : TsAt onO H g ps' os) (h : Q (.bl true) H) : rEqA K (.ref f) (.ref g) H Q := by
 have i1 : IsDs K H (os.map dOn) (ps.map V.ref) := Ec F.ln F.it
 refine r_eqDt (.l (os.map dOn)) (.l (os.map dOn)) rfl (by unfold dep; have := qf os; omega) (by unfold IsD; exact ⟨f, _, rfl, SqL.of F.ls, i1⟩) (by unfold IsD; exact ⟨g, _, rfl, SqL.of G.ls, Ec G.ln G.it⟩) ?_
 unfold eqD; rw [Ya i1]; exact h
theorem r_neOn (F : TsAt onO H f ps os) (G : TsAt onO H g ps' os) (h : Q (.bl false) H) : rNeA K (.ref f) (.ref g) H Q := by
 have i1 : IsDs K H (os.map dOn) (ps.map V.ref) := Ec F.ln F.it
 refine Li (.l (os.map dOn)) (.l (os.map dOn)) rfl (by unfold dep; have := qf os; omega) (by unfold IsD; exact ⟨f, _, rfl, SqL.of F.ls, i1⟩) (by unfold IsD; exact ⟨g, _, rfl, SqL.of G.ls, Ec G.ln G.it⟩) ?_
 unfold eqD; rw [Ya i1]; exact h
theorem qm {p u : Addr} {x y : V} (hx : md x = true) (hy : md y = true) (h1 : H p = some (.tup [x, y])) (h2 : H u = some (.tup [x, y])) (h : Q (.bl false) H) : rNeA K (.ref p) (.ref u) H Q := by
 have i1 : IsDs K H [.v x, .v y] [x, y] := Va (fg hx) (Va (fg hy) ud)
 refine Li (.t [.v x, .v y]) (.t [.v x, .v y]) rfl (by simp [dep, deps]) (by unfold IsD; exact ⟨p, _, rfl, SqT.of h1, i1⟩) (by unfold IsD; exact ⟨u, _, rfl, SqT.of h2, i1⟩) ?_
 unfold eqD; rw [Ya i1]; exact h
end
theorem kh (os : List On) : lstO os = (os.map On.n).map V.int := by unfold lstO; rw [List.map_map]; rfl
theorem cutF {xs : List V} {i : Nat} (h : i <= xs.length) : cutV xs (some (i : Int)) none = xs.drop i := by
 unfold cutV
 have e1 : HT.sIx xs.length 0 (some (i : Int)) = i := by
  unfold HT.sIx
  simp only
  split <;> omega
 have e2 : HT.sIx xs.length xs.length none = xs.length := rfl
 rw [e1, e2]
 exact List.take_of_length_le (by rw [List.length_drop]; exact Nat.le_refl _)
end BL
local macro_rules | `(‹$x›) => `(by with_unfolding_all exact $x)
local macro_rules | `(tactic| walk_at "ne") => `(tactic| first
 | with_reducible assumption
 | exact Ne.symm (by with_reducible assumption)
 | ((with_reducible apply L2.ne_fresh); (with_reducible assumption); walk_at "hp")
 | ((with_reducible apply Ne.symm); (with_reducible apply L2.ne_fresh); (with_reducible assumption); walk_at "hp"))
local macro_rules | `(tactic| walk_at "hp") => `(tactic| first
 | with_reducible assumption
 | with_reducible exact L2.la
 | ((with_reducible apply L2.yb); walk_at "ne"; walk_at "hp")
 | ((with_reducible apply L2.Fr1.get); (with_reducible assumption); walk_at "hp"; walk_at "ne"))
local macro_rules | `(tactic| walk_at "cond") => `(tactic| first
 | with_reducible assumption
 | exact L2.Wg.small (by omega) (by omega)
 | exact L2.pd.left (by omega) (by omega)
 | exact L2.pd.right (by omega) (by omega)
 | (show (0 : Int) < _; omega))
local macro_rules | `(tactic| walk_at "size") => `(tactic| first
 | (simp only [List.length_cons, List.length_nil]; decide)
 | (simp only [List.length_cons, List.length_nil, List.length_map, List.length_append, sizeLine_eq]; omega))
local macro_rules | `(tactic| walk_at "ty") => `(tactic| first
 | with_reducible exact L2.TyOf.int _
 | with_reducible exact L2.TyOf.bl _
 | with_reducible exact L2.TyOf.str _
 | with_reducible exact L2.TyOf.non
 | ((with_reducible apply L2.TyOf.tup); walk_at "hp")
 | ((with_reducible apply L2.TyOf.lst); walk_at "hp"))
local macro_rules | `(tactic| walk_at "rd") => `(tactic| repeat (first
 | with_reducible refine L2.r_seq ?_
 | with_reducible refine L2.r_asg ?_
 | with_reducible refine L2.um ?_
 | with_reducible refine L2.r_op ?_
 | ((with_reducible apply L2.r_var); exact rfl)
 | with_reducible refine L2.r_c ?_
 | with_reducible refine L2.jk ?_
 | with_reducible refine L2.zm ?_
 | with_reducible refine L2.gm ?_
 | with_reducible refine L2.qk ?_
 | with_reducible refine L2.r_part ?_
 | with_reducible refine L2.om ?_
 | with_reducible refine L2.r_ltI ?_
 | with_reducible refine L2.r_leI ?_
 | with_reducible refine L2.r_eqI ?_
 | with_reducible refine L2.r_neI ?_
 | with_reducible refine L2.r_eqB ?_
 | with_reducible refine L2.r_neB ?_
 | with_reducible refine L2.r_eqS ?_
 | with_reducible refine L2.r_neS ?_
 | with_reducible refine L2.r_test ?_
 | with_reducible refine L2.r_bl ?_
 | with_reducible refine L2.r_ifs ?_
 | with_reducible refine L2.r_ret ?_
 | with_reducible refine L2.r_retN ?_
 | with_reducible refine L2.r_next ?_
 | with_reducible refine L2.r_cons ?_
 | with_reducible refine L2.r_nil ?_
 | with_reducible refine L2.r_cl ?_
 | with_reducible refine L2.r_cb ?_
 | with_reducible refine L2.r_clE ?_
 | with_reducible refine L2.r_try ?_
 | with_reducible refine L2.km ?_
 | with_reducible refine L2.ik ?_
 | with_reducible refine L2.wm ?_
 | with_reducible refine L2.r_and ?_
 | with_reducible refine L2.r_or ?_
 | with_reducible refine L2.r_not ?_
 | with_reducible refine L2.r_andV ?_
 | with_reducible refine L2.r_orV ?_
 | with_reducible refine L2.r_notV ?_
 | with_reducible refine L2.r_ifx ?_
 | with_reducible refine L2.r_tru ?_
 | with_reducible refine L2.r_truI ?_
 | with_reducible refine L2.r_truB ?_
 | with_reducible refine L2.r_tB ?_
 | with_reducible refine L2.mm ?_
 | with_reducible refine L2.r_pow6 ?_
 | ((with_reducible apply L2.r_rI); walk_at "cond")
 | ((with_reducible apply L2.r_mulI); walk_at "cond")
 | with_reducible refine L2.r_abs ?_
 | with_reducible refine L2.r_min2 ?_
 | with_reducible refine L2.r_max2 ?_
 | with_reducible refine L2.r_int1 ?_
 | with_reducible refine L2.tm ?_
 | ((with_reducible apply L2.r_isi); walk_at "ty"; exact rfl)
 | ((with_reducible apply L2.r_lenL); walk_at "hp")
 | ((with_reducible apply L2.r_lenT); walk_at "hp")
 | ((with_reducible apply L2.Qf); walk_at "hp"; exact rfl)
 | ((with_reducible apply L2.xb); walk_at "hp"; exact rfl)
 | with_reducible refine L2.r_gsub ?_
 | with_reducible refine L2.r_isNo0 ?_
 | with_reducible refine L2.r_isNoR ?_
 | with_reducible refine L2.r_isNoI ?_
 | with_reducible refine L2.r_isNoS ?_
 | with_reducible refine L2.pk ?_
 | with_reducible refine L2.r_notNoR ?_
 | with_reducible refine L2.nk ?_
 | with_reducible refine L2.r_notNoS ?_
 | with_reducible refine L2.r_un ?_
 | with_reducible refine L2.r_rU ?_
 | ((with_reducible apply L2.r_setL); walk_at "hp"; exact rfl)
 | with_reducible refine L2.r_drop ?_
 | with_reducible refine L2.r_bmL ?_
 | ((with_reducible apply L2.r_tyL); walk_at "hp")
 | ((with_reducible apply L2.cf); walk_at "hp"; walk_at "size")
 | with_reducible refine L2.r_tup ?_
 | with_reducible refine L2.r_lst ?_
 | ((with_reducible apply L2.jm); walk_at "size")
 | with_reducible refine L2.r_par ?_
 | with_reducible refine L2.r_par2 ?_
 | ((with_reducible apply L2.r_aug); exact rfl)
 | with_reducible refine L2.r_ipI ?_
 | with_reducible refine L2.r_forR ?_
 | with_reducible refine L2.r_compR ?_
 | with_reducible refine L2.ym ?_
 | with_reducible refine L2.r_compT ?_
 | with_reducible refine L2.r_compE ?_
 | with_reducible refine L2.r_bm0 ?_
 | with_reducible refine L2.xm ?_
 | with_reducible refine L2.r_forE ?_
 | with_reducible refine L2.r_forZ ?_
 | with_reducible refine L2.r_forZ3 ?_
 | with_reducible refine L2.r_forD ?_
 | with_reducible refine L2.r_forR2 ?_
 | with_reducible refine L2.r_chain ?_
 | with_reducible refine L2.r_augS ?_
 | with_reducible refine L2.r_yes ?_
 | with_reducible refine L2.r_forL ?_
 | with_reducible refine L2.r_forT ?_
 | with_reducible refine L2.vm ?_
 | with_reducible refine L2.r_gnil ?_
 | ((with_reducible apply L2.r_gtup); walk_at "hp"; exact rfl)
 | with_reducible refine L2.iteT ?_
 | with_reducible refine L2.iteF ?_
 | with_reducible refine L2.rm ?_
 | with_reducible refine L2.sm ?_))
namespace K07
open PySem PySem.Spec PyProof.Rows L2
def top (i : Nat) : Stmt := PySem.Challenge.pw_ballotin_k07_sizes_of_benches.main.body.getD i (.Pass ⟨0, 0, 0, 0⟩)
abbrev Ji : Stmt := top 7
abbrev jc : Stmt := top 11
abbrev Ki : Stmt := top 12
abbrev Dg : Stmt := top 13
abbrev Ab : Stmt := top 14
abbrev Cg : Stmt := top 15
abbrev Bb : Stmt := top 16
abbrev kc : Stmt := top 17
abbrev Gg : Stmt := top 18
abbrev Xe : Stmt := top 19
abbrev rb : Stmt := top 20
abbrev bc : Stmt := top 21
abbrev Gd : Stmt := top 23
abbrev Ye : Stmt := top 24
abbrev Eg : Stmt := top 25
abbrev af : Stmt := top 26
abbrev Ze : Stmt := top 27
abbrev Mb : Stmt := top 28
abbrev gc : Stmt := top 29
abbrev bf : Stmt := top 30
abbrev Fd : Stmt := top 31
abbrev Ed : Stmt := top 32
abbrev Cb : Stmt := top 33
abbrev Fg : Stmt := top 34
abbrev cc : Stmt := top 35
abbrev ak : Stmt := top 36
theorem Zl : Ga ["many", "few", "found", "at"] ["many", "few"] (ua Ji) := ⟨rfl, rfl, rfl, by decide +kernel, rfl, by decide +kernel, by decide +kernel⟩
theorem Nf : Ga ["count", "sit", "seats", "needed", "word"] ["count", "sit", "seats", "needed", "word"] (ua jc) := ⟨rfl, rfl, rfl, by decide +kernel, rfl, by decide +kernel, by decide +kernel⟩
theorem cm : Ga ["count", "sit", "step"] ["count", "sit", "step"] (ua Ki) := ⟨rfl, rfl, rfl, by decide +kernel, rfl, by decide +kernel, by decide +kernel⟩
theorem Vj : Ga ["count", "row", "sit", "found", "at", "step"] ["count", "row"] (ua Dg) := ⟨rfl, rfl, rfl, by decide +kernel, rfl, by decide +kernel, by decide +kernel⟩
theorem fe : Ga ["count", "row"] ["count", "row"] (ua Ab) := ⟨rfl, rfl, rfl, by decide +kernel, rfl, by decide +kernel, by decide +kernel⟩
theorem Uj : Ga ["count", "row"] ["count", "row"] (ua Cg) := ⟨rfl, rfl, rfl, by decide +kernel, rfl, by decide +kernel, by decide +kernel⟩
theorem ie : Ga ["count", "sit", "step"] ["count", "sit", "step"] (ua Bb) := ⟨rfl, rfl, rfl, by decide +kernel, rfl, by decide +kernel, by decide +kernel⟩
theorem Of : Ga ["count", "row"] ["count", "row"] (ua kc) := ⟨rfl, rfl, rfl, by decide +kernel, rfl, by decide +kernel, by decide +kernel⟩
theorem Yj : Ga ["count", "row", "found", "many"] ["count", "row"] (ua Gg) := ⟨rfl, rfl, rfl, by decide +kernel, rfl, by decide +kernel, by decide +kernel⟩
theorem Ei : Ga ["count", "row", "number", "found", "many", "own"] ["count", "row", "number"] (ua Xe) := ⟨rfl, rfl, rfl, by decide +kernel, rfl, by decide +kernel, by decide +kernel⟩
theorem Dd : Ga ["count", "row", "numbers", "each", "found", "own", "many"] ["count", "row", "numbers"] (ua rb) := ⟨rfl, rfl, rfl, by decide +kernel, rfl, by decide +kernel, by decide +kernel⟩
theorem Kf : Ga ["count", "row", "sit", "found", "at", "step"] ["count", "row"] (ua bc) := ⟨rfl, rfl, rfl, by decide +kernel, rfl, by decide +kernel, by decide +kernel⟩
theorem Eh : Ga ["_law_script"] ["_law_script"] (ua Gd) := ⟨rfl, rfl, rfl, by decide +kernel, rfl, by decide +kernel, by decide +kernel⟩
theorem Fi : Ga ["_law_draw", "_law_many", "_law_number", "_law_got"] ["_law_draw", "_law_many"] (ua Ye) := ⟨rfl, rfl, rfl, by decide +kernel, rfl, by decide +kernel, by decide +kernel⟩
theorem Wj : Ga ["_law_thing"] ["_law_thing"] (ua Eg) := ⟨rfl, rfl, rfl, by decide +kernel, rfl, by decide +kernel, by decide +kernel⟩
theorem Hi : Ga ["_law_found"] ["_law_found"] (ua af) := ⟨rfl, rfl, rfl, by decide +kernel, rfl, by decide +kernel, by decide +kernel⟩
theorem Gi : Ga ["_law_draw", "_law_count", "_law_bench", "_law_most", "_law_word", "_law_lot", "_law_needed", "_law_n"] ["_law_draw", "_law_count", "_law_bench", "_law_most"] (ua Ze) := ⟨rfl, rfl, rfl, by decide +kernel, rfl, by decide +kernel, by decide +kernel⟩
theorem We : Ga ["_law_draw", "_law_count", "_law_bench", "_law_step_here", "_law_way", "_law_n", "_law_needed", "_law_word"] ["_law_draw", "_law_count", "_law_bench"] (ua Mb) := ⟨rfl, rfl, rfl, by decide +kernel, rfl, by decide +kernel, by decide +kernel⟩
theorem Mf : Ga ["_law_draw", "_law_count", "_law_seats_here", "_law_bench", "_law_row", "_law_k", "_law_step_here"] ["_law_draw", "_law_count"] (ua gc) := ⟨rfl, rfl, rfl, by decide +kernel, rfl, by decide +kernel, by decide +kernel⟩
theorem Ii : Ga ["_law_count", "_law_bench", "_law_step_here"] ["_law_count", "_law_bench", "_law_step_here"] (ua bf) := ⟨rfl, rfl, rfl, by decide +kernel, rfl, by decide +kernel, by decide +kernel⟩
theorem Dh : Ga ["_law_count", "_law_row", "_law_bench", "_law_k"] ["_law_count", "_law_row"] (ua Fd) := ⟨rfl, rfl, rfl, by decide +kernel, rfl, by decide +kernel, by decide +kernel⟩
theorem Bh : Ga ["_law_count", "_law_row"] ["_law_count", "_law_row"] (ua Ed) := ⟨rfl, rfl, rfl, by decide +kernel, rfl, by decide +kernel, by decide +kernel⟩
theorem je : Ga ["_law_draw"] ["_law_draw"] (ua Cb) := ⟨rfl, rfl, rfl, by decide +kernel, rfl, by decide +kernel, by decide +kernel⟩
theorem Xj : Ga ["_law_count", "_law_row", "_law_way"] ["_law_count", "_law_row", "_law_way"] (ua Fg) := ⟨rfl, rfl, rfl, by decide +kernel, rfl, by decide +kernel, by decide +kernel⟩
theorem Lf : Ga ["_law_count", "_law_row", "_law_way", "_law_told", "e"] ["_law_count", "_law_row", "_law_way"] (ua cc) := ⟨rfl, rfl, rfl, by decide +kernel, rfl, by decide +kernel, by decide +kernel⟩
theorem sc_law : Ga ["_law_script", "_law_draw", "_law_count", "_law_row", "_law_fault_here", "_law_at", "_law_handed", "_law_way", "_law_told", "_law_found", "_law_ends"] ["_law_script"] (ua ak) := ⟨rfl, rfl, rfl, by decide +kernel, rfl, by decide +kernel, by decide +kernel⟩
open BL BR
structure Txt (K : PySem.W.Frag) (mg : Str -> Option Value) (C_BallotError C_BadCount C_NoDraw C_NotWhole C_BadRound : Addr) : Prop where
 b_ValueError : mg "ValueError" = none
 b_abs : mg "abs" = none
 b_all : mg "all" = none
 b_bool : mg "bool" = none
 b_divmod : mg "divmod" = none
 b_enumerate : mg "enumerate" = none
 b_int : mg "int" = none
 b_isinstance : mg "isinstance" = none
 b_len : mg "len" = none
 b_list : mg "list" = none
 b_max : mg "max" = none
 b_min : mg "min" = none
 b_range : mg "range" = none
 b_zip : mg "zip" = none
 m_MOST_PEOPLE : ∃ t, mg "MOST_PEOPLE" = some (.int 500 t)
 m_MOST_SEATS : ∃ t, mg "MOST_SEATS" = some (.int 60 t)
 c_BallotError : mg "BallotError" = some (.ref C_BallotError)
 e_BallotError : ErrK K C_BallotError
 q_BallotError : PySem.W.excIn K C_BallotError bmV "ValueError.__new__" = true
 c_BadCount : mg "BadCount" = some (.ref C_BadCount)
 e_BadCount : ErrK K C_BadCount
 q_BadCount : PySem.W.excIn K C_BadCount bmV "ValueError.__new__" = true
 c_NoDraw : mg "NoDraw" = some (.ref C_NoDraw)
 e_NoDraw : ErrK K C_NoDraw
 q_NoDraw : PySem.W.excIn K C_NoDraw bmV "ValueError.__new__" = true
 c_NotWhole : mg "NotWhole" = some (.ref C_NotWhole)
 e_NotWhole : ErrK K C_NotWhole
 q_NotWhole : PySem.W.excIn K C_NotWhole bmV "ValueError.__new__" = true
 c_BadRound : mg "BadRound" = some (.ref C_BadRound)
 e_BadRound : ErrK K C_BadRound
 I_BadRound : Zh K C_BadRound C_BallotError
 f_BadRound : PySem.W.findIn K (.ref C_BadRound) "at" = some none
 d_BadRound : PySem.W.hasDictIn K C_BadRound = true
 x_BallotError_BadCount : PySem.W.exmOne K (.ref C_BallotError) (.ref C_BadCount) = some false
 x_BallotError_BadRound : PySem.W.exmOne K (.ref C_BallotError) (.ref C_BadRound) = some false
 i_BallotError_BallotError : PySem.W.kitOne K (.ref C_BallotError) (.ref C_BallotError) = some true
 i_BallotError_NotWhole : PySem.W.kitOne K (.ref C_BallotError) (.ref C_NotWhole) = some false
 i_BallotError_ValueError : PySem.W.kitOne K (.ref C_BallotError) (.type "ValueError") = some true
 x_BadCount_BadCount : PySem.W.exmOne K (.ref C_BadCount) (.ref C_BadCount) = some true
 x_BadCount_BadRound : PySem.W.exmOne K (.ref C_BadCount) (.ref C_BadRound) = some false
 i_BadCount_BallotError : PySem.W.kitOne K (.ref C_BadCount) (.ref C_BallotError) = some true
 i_BadCount_NotWhole : PySem.W.kitOne K (.ref C_BadCount) (.ref C_NotWhole) = some false
 i_BadCount_ValueError : PySem.W.kitOne K (.ref C_BadCount) (.type "ValueError") = some true
 x_NoDraw_BadCount : PySem.W.exmOne K (.ref C_NoDraw) (.ref C_BadCount) = some false
 x_NoDraw_BadRound : PySem.W.exmOne K (.ref C_NoDraw) (.ref C_BadRound) = some false
 i_NoDraw_BallotError : PySem.W.kitOne K (.ref C_NoDraw) (.ref C_BallotError) = some true
 i_NoDraw_NotWhole : PySem.W.kitOne K (.ref C_NoDraw) (.ref C_NotWhole) = some false
 i_NoDraw_ValueError : PySem.W.kitOne K (.ref C_NoDraw) (.type "ValueError") = some true
 x_NotWhole_BadCount : PySem.W.exmOne K (.ref C_NotWhole) (.ref C_BadCount) = some false
 x_NotWhole_BadRound : PySem.W.exmOne K (.ref C_NotWhole) (.ref C_BadRound) = some false
 i_NotWhole_BallotError : PySem.W.kitOne K (.ref C_NotWhole) (.ref C_BallotError) = some true
 i_NotWhole_NotWhole : PySem.W.kitOne K (.ref C_NotWhole) (.ref C_NotWhole) = some true
 i_NotWhole_ValueError : PySem.W.kitOne K (.ref C_NotWhole) (.type "ValueError") = some true
 x_BadRound_BadCount : PySem.W.exmOne K (.ref C_BadRound) (.ref C_BadCount) = some false
 x_BadRound_BadRound : PySem.W.exmOne K (.ref C_BadRound) (.ref C_BadRound) = some true
 i_BadRound_BallotError : PySem.W.kitOne K (.ref C_BadRound) (.ref C_BallotError) = some true
 i_BadRound_NotWhole : PySem.W.kitOne K (.ref C_BadRound) (.ref C_NotWhole) = some false
 i_BadRound_ValueError : PySem.W.kitOne K (.ref C_BadRound) (.type "ValueError") = some true
section
variable (P : Program) (w : World) (K : PySem.W.Frag) (mg : Str -> Option Value) (base : Heap)
abbrev Ij : Prop := Callee P w K mg base 1 "ways" ["many", "few"] (jl)
abbrev zc : Prop := Callee P w K mg base 1 "fits_vote" ["count", "sit", "seats", "needed", "word"] (rl)
abbrev Jj : Prop := Callee P w K mg base 2 "fits" ["count", "sit", "step"] (yi)
abbrev Yd (C_BadCount C_BadRound : Addr) : Prop := Ma P w K mg base 3 "sizes" ["count", "row"] (Te C_BadCount C_BadRound)
abbrev Wa (C_BadCount C_BadRound : Addr) : Prop := Ma P w K mg base 4 "sizes_ahead" ["count", "row"] (Ue C_BadCount C_BadRound)
abbrev sf (C_BadCount C_BadRound : Addr) : Prop := Ma P w K mg base 5 "whole" ["count", "row"] (Qe C_BadCount C_BadRound)
abbrev Hb : Prop := Callee P w K mg base 2 "round_draws" ["count", "sit", "step"] (Gf)
abbrev Xa (C_BadCount C_BadRound : Addr) : Prop := Ma P w K mg base 5 "draws_row" ["count", "row"] (eh C_BadCount C_BadRound)
abbrev Yg (C_BadCount C_BadRound : Addr) : Prop := Ma P w K mg base 6 "draws" ["count", "row"] (eh C_BadCount C_BadRound)
abbrev uf (C_BadCount C_BadRound : Addr) : Prop := Ma P w K mg base 6 "parted" ["count", "row", "number"] (Bg C_BadCount C_BadRound)
abbrev wb (C_BadCount C_BadRound : Addr) : Prop := Ma P w K mg base 6 "put_together" ["count", "row", "numbers"] (Bg C_BadCount C_BadRound)
abbrev vc (C_BadCount C_BadRound : Addr) : Prop := Ma P w K mg base 5 "shortened" ["count", "row"] (eh C_BadCount C_BadRound)
abbrev de : Prop := Callee P w K mg base 1 "_law_begin" ["_law_script"] (Ci K)
abbrev Ib : Prop := Callee P w K mg base 1 "_law_take" ["_law_draw", "_law_many"] (kl)
abbrev xf : Prop := Callee P w K mg base 1 "_law_int" ["_law_thing"] (spInt)
abbrev vf : Prop := Callee P w K mg base 2 "_law_ints" ["_law_found"] (ql)
abbrev yd : Prop := Callee P w K mg base 2 "_law_step" ["_law_draw", "_law_count", "_law_bench", "_law_most"] (oi)
abbrev Sb : Prop := Callee P w K mg base 3 "_law_any_step" ["_law_draw", "_law_count", "_law_bench"] (zl)
abbrev xc : Prop := Callee P w K mg base 4 "_law_odd_row" ["_law_draw", "_law_count"] (ml)
abbrev yf : Prop := Callee P w K mg base 1 "_law_fits" ["_law_count", "_law_bench", "_law_step_here"] (yi)
abbrev ae : Prop := Callee P w K mg base 2 "_law_fault" ["_law_count", "_law_row"] (Ai)
abbrev Zd : Prop := Callee P w K mg base 1 "_law_seats" ["_law_count", "_law_row"] (si)
abbrev Jb : Prop := Callee P w K mg base 2 "_law_any_count" ["_law_draw"] (Al)
abbrev Xg (C_BadCount C_BadRound : Addr) : Prop := Ma P w K mg base 7 "_law_ask" ["_law_count", "_law_row", "_law_way"] (xl C_BadCount C_BadRound)
abbrev wc : Prop := Callee P w K mg base 8 "_law_refusal" ["_law_count", "_law_row", "_law_way"] (ll)
end
variable {P : Program} {w : World} {K : PySem.W.Frag} {mg : Str -> Option Value} {base : Heap}
local macro_rules | `(tactic| left) => `(tactic| walk_at "rd")
theorem Nm {C_BallotError C_BadCount C_NoDraw C_NotWhole C_BadRound : Addr} (T : Txt K mg C_BallotError C_BadCount C_NoDraw C_NotWhole C_BadRound) (U : Up K mg "ways" Ji ["many", "few"]) : Ij P w K mg base := by
 have sc := Zl
 refine Callee.of (k := 0) U sc (fun vs H Q E h => ?_) (fun f cdv A outer s H vs Q E hr h => ?_)
 . obtain ⟨m, k, rfl, _⟩ := h; rfl
 . obtain ⟨m, k, rfl, hm, q⟩ := h
   have hu := hr.units
   conv in (za _) => whnf
   with_reducible refine ⟨_, (da (La (PW.pt (Wb (ma (ltK (K := K) ‹rfl› ‹hu›) (pv 1) ba ‹ra _›) (Lb (ma df (pv 1) (pv 0) ‹ra _›)))) (ja (ya ba)) xa) (da (Ca (i := 2) ‹sc.nd› ‹rfl› ‹Or.inl rfl› ba) (da (Cc PassesOwn.never ‹rfl› (Ld ‹rfl› ‹T.b_range› (aa (Ba (Td ‹rfl›) ‹rfl› ‹T.b_min› ug (aa (pv 1) (aa (Ka aj (pv 0) (pv 1)) ia))) ia)) (Oa (i := 3) ‹sc.nd› ‹rfl› ‹Or.inl rfl›) (ja (Ca (i := 2) ‹sc.nd› ‹rfl› ‹Or.inl rfl› (Ka Eb (Ka Ob (pv 2) (Ka aj (pv 0) (pv 3))) (Ka (addK (K := K) ‹rfl›) (pv 3) ba))))) (ja (ya (pv 2)))))), ?_⟩
   rw [show L2.start ["many", "few", "found", "at"] [V.int m, V.int k] = [some (V.int m), some (V.int k), none, none] from rfl]
   left
   refine va (fun h1 => ?_) (fun h1 => ?_)
   . left
     rw [MB.Hj (.inl h1)] at q
     exact q
   . left
     refine va (fun h2 => ?_) (fun h2 => ?_)
     . left
       rw [MB.Hj (.inr h2)] at q
       exact q
     . left
       obtain ⟨j, hj, hj1, hj2, hj3⟩ : ∃ j : Int, (if m - k < k then m - k else k) = j /\ 0 <= j /\ j <= m /\ (j = k \/ j = m - k) := by
        by_cases z : m - k < k
        . exact ⟨m - k, if_pos z, by omega, by omega, .inr rfl⟩
        . exact ⟨k, if_neg z, by omega, by omega, .inl rfl⟩
       rw [hj]
       refine forR (fun i σ' H' => H' = H /\ ∃ x, σ' = [some (.int m), some (.int k), some (.int (MB.ch m.toNat i)), x]) (by omega) (by omega) ⟨rfl, none, by rw [MB.Ud]; rfl⟩ ?_ ?_
       . rintro i σ' H' hi ⟨rfl, x, rfl⟩
         left
         refine ⟨rfl, some (.int i), ?_⟩
         have e := MB.ch_div m.toNat i (by omega)
         have e2 : ((m.toNat : Nat) : Int) = m := by omega
         rw [e2] at e
         rw [e]
         rfl
       . rintro σ' H' ⟨rfl, x, rfl⟩
         left
         rw [<- MB.ch_min (j := j) (by omega) (by omega) hj3] at q
         exact q
theorem ag {C_BallotError C_BadCount C_NoDraw C_NotWhole C_BadRound : Addr} (T : Txt K mg C_BallotError C_BadCount C_NoDraw C_NotWhole C_BadRound) (U : Up K mg "fits_vote" jc ["count", "sit", "seats", "needed", "word"]) : zc P w K mg base := by
 have sc := Nf
 refine Callee.of (k := 0) U sc (fun vs H Q E h => ?_) (fun f cdv A outer s H vs Q E hr h => ?_)
 . obtain ⟨c, s, n, q, w, rfl, _⟩ := h; rfl
 . obtain ⟨c, s, n, q, w, rfl, k⟩ := h
   have hu := hr.units
   conv in (za _) => whnf
   with_reducible refine ⟨_, (da (La (PW.pt (Wb (ma df (pv 2) (pv 0) ‹ra _›) (Wb (ma (leK (K := K) ‹rfl› ‹hu›) (Ka Ob (pv 3) ba) (pv 1) ‹ra _›) (Lb (ma df (pv 3) (pv 1) ‹ra _›))))) (ja (ya Kg)) xa) (da (La (ma (eqK (K := K) ‹rfl› ‹hu›) (pv 4) Aa ‹ra _›) (ja (ya (Qa (leK (K := K) ‹rfl› ‹hu›) (pv 2) (pv 1) ‹ra _›))) xa) (da (La (ma (eqK (K := K) ‹rfl› ‹hu›) (pv 4) Aa ‹ra _›) (ja (ya (Qa (eqK (K := K) ‹rfl› ‹hu›) (pv 2) (pv 1) ‹ra _›))) xa) (ja (ya (Qa (eqK (K := K) ‹rfl› ‹hu›) (pv 4) Aa ‹ra _›)))))), ?_⟩
   rw [show L2.start ["count", "sit", "seats", "needed", "word"] [V.int c, V.int s, V.int n, V.int q, V.str w] = [some (V.int c), some (V.int s), some (V.int n), some (V.int q), some (V.str w)] from rfl]
   left
   refine va (fun h1 => ?_) (fun h1 => ?_)
   . left
     rw [show fitV c s n q w = false from decide_eq_false fun z => by have := z.1; omega] at k
     exact k
   left
   refine va (fun h2 => ?_) (fun h2 => ?_)
   . left
     rw [show fitV c s n q w = false from decide_eq_false fun z => by have := z.2.1; omega] at k
     exact k
   left
   refine va (fun h3 => ?_) (fun h3 => ?_)
   . left
     rw [show fitV c s n q w = false from decide_eq_false fun z => by have := z.2.2.1; omega] at k
     exact k
   left
   refine va (fun h4 => ?_) (fun h4 => ?_)
   . left
     rw [Kl h4 (by omega) (by omega) (by omega)] at k
     exact k
   left
   refine va (fun h5 => ?_) (fun h5 => ?_)
   . left
     rw [Il h4 h5 (by omega) (by omega) (by omega)] at k
     exact k
   left
   rw [Jl h4 h5 (by omega) (by omega) (by omega)] at k
   exact k
theorem Om {C_BallotError C_BadCount C_NoDraw C_NotWhole C_BadRound : Addr} (T : Txt K mg C_BallotError C_BadCount C_NoDraw C_NotWhole C_BadRound) (U : Up K mg "fits" Ki ["count", "sit", "step"]) (C_fits_vote : zc P w K mg base) : Jj P w K mg base := by
 have sc := cm
 refine Callee.of (k := 1) U sc (fun vs H Q E h => ?_) (fun f cdv A outer s H vs Q E hr h => ?_)
 . obtain ⟨c, s, p, o, rfl, _⟩ := h; rfl
 . obtain ⟨c, s, p, o, rfl, hp, k⟩ := h
   have hu := hr.units
   conv in (za _) => whnf
   with_reducible refine ⟨_, (da (La (PW.pt (Wb (ma (ltK (K := K) ‹rfl› ‹hu›) (Ea (ixK (K := K) ‹rfl›) (pv 2) ba ‹fun _ _ => rfl›) ba ‹ra _›) (Lb (ma df (Ea (ixK (K := K) ‹rfl›) (pv 2) ba ‹fun _ _ => rfl›) (jh ‹rfl› ‹T.m_MOST_SEATS›) ‹ra _›)))) (ja (ya Kg)) xa) (da (La (PW.pt (Wc (ma (eqK (K := K) ‹rfl› ‹hu›) (Ea (ixK (K := K) ‹rfl›) (pv 2) ba ‹fun _ _ => rfl›) Aa ‹ra _›) (nc (ma (eqK (K := K) ‹rfl› ‹hu›) (Ba (lenK (K := K) ‹rfl›) ‹rfl› ‹T.b_len› jd (aa (pv 2) ia)) ba ‹ra _›)))) (ja (ya (Qa (leK (K := K) ‹rfl› ‹hu›) (Ea (ixK (K := K) ‹rfl›) (pv 2) ba ‹fun _ _ => rfl›) (pv 1) ‹ra _›))) xa) (da (La (PW.pt (Wc (ma (eqK (K := K) ‹rfl› ‹hu›) (Ea (ixK (K := K) ‹rfl›) (pv 2) ba ‹fun _ _ => rfl›) Aa ‹ra _›) (nc (ma (eqK (K := K) ‹rfl› ‹hu›) (Ba (lenK (K := K) ‹rfl›) ‹rfl› ‹T.b_len› jd (aa (pv 2) ia)) ba ‹ra _›)))) (ja (ya (pe_c ‹C_fits_vote› ‹hr.mono (by decide)› ‹rfl› (aa (pv 0) (aa (pv 1) (aa (Ea (ixK (K := K) ‹rfl›) (pv 2) ba ‹fun _ _ => rfl›) (aa (Ea (ixK (K := K) ‹rfl›) (pv 2) ba ‹fun _ _ => rfl›) (aa (Ea (ixK (K := K) ‹rfl›) (pv 2) ba ‹fun _ _ => rfl›) ia)))))))) xa) (ja (ya Kg))))), ?_⟩
   rw [show L2.start ["count", "sit", "step"] [V.int c, V.int s, V.ref p] = [some (V.int c), some (V.int s), some (V.ref p)] from rfl]
   cases o with
   | lt b n =>
    have hp' : H p = some (.tup [.str (if b = true then "lot" else "lots"), .int n]) := hp
    left
    refine va (fun h1 => ?_) (fun h1 => ?_)
    . left
      rw [show fitO c s (.lt b n) = false from decide_eq_false fun z => by have := z.1; omega] at k
      exact k
    left
    refine va (fun h2 => ?_) (fun h2 => ?_)
    . left
      rw [show fitO c s (.lt b n) = false from decide_eq_false fun z => by have := z.2.1; omega] at k
      exact k
    cases b with
    | true =>
     left
     refine va (fun _ => ?_) (fun h1 => absurd rfl h1)
     left
     refine va (fun _ => ?_) (fun h1 => absurd rfl h1)
     left
     rw [show fitO c s (.lt true n) = decide (n <= s) from decide_eq_decide.mpr ⟨fun z => z.2.2.2, fun z => ⟨by omega, by omega, rfl, z⟩⟩] at k
     exact k
    | false =>
     left
     refine va (fun h1 => absurd h1 (by decide)) (fun _ => ?_)
     left
     refine va (fun h1 => absurd h1 (by decide)) (fun _ => ?_)
     left
     rw [show fitO c s (.lt false n) = false from decide_eq_false fun z => by cases z.2.2.1] at k
     exact k
   | vt b n q w =>
    have hp' : H p = some (.tup [.str (if b = true then "vote" else "votes"), .int n, .int q, .str w]) := hp
    left
    refine va (fun h1 => ?_) (fun h1 => ?_)
    . left
      rw [Le (fun z => by have := z.1; omega)] at k
      exact k
    left
    refine va (fun h2 => ?_) (fun h2 => ?_)
    . left
      rw [Le (fun z => by have := z.2.1; omega)] at k
      exact k
    cases b with
    | true =>
     left
     refine va (fun h1 => absurd h1 (by decide)) (fun _ => ?_)
     left
     refine va (fun _ => ?_) (fun h1 => absurd rfl h1)
     left
     refine va (fun _ => ?_) (fun h1 => absurd rfl h1)
     left
     rw [Ll ⟨by omega, by omega⟩] at k
     exact Qj k
    | false =>
     left
     refine va (fun h1 => absurd h1 (by decide)) (fun _ => ?_)
     left
     refine va (fun h1 => absurd h1 (by decide)) (fun _ => ?_)
     left
     rw [Le (fun z => by cases z.2.2)] at k
     exact k
theorem Ek {C_BallotError C_BadCount C_NoDraw C_NotWhole C_BadRound : Addr} (T : Txt K mg C_BallotError C_BadCount C_NoDraw C_NotWhole C_BadRound) (U : Up K mg "sizes" Dg ["count", "row"]) (C_fits : Jj P w K mg base) : Yd P w K mg base C_BadCount C_BadRound := by
 have sc := Vj
 refine Ma.of (k := 2) U sc (fun vs H Q E h => ?_) (fun f cdv A outer s H vs Q E hr h => ?_)
 . obtain ⟨c, a, ps, os, rfl, _⟩ := h; rfl
 . obtain ⟨c, a, ps, os, rfl, R, hl, q1, q2⟩ := h
   have hu := hr.units
   have pl := R.ln
   conv in (za _) => whnf
   with_reducible refine ⟨_, (da (La (PW.pt (Wb (ma (ltK (K := K) ‹rfl› ‹hu›) (pv 0) ba ‹ra _›) (Lb (ma df (pv 0) (jh ‹rfl› ‹T.m_MOST_PEOPLE›) ‹ra _›)))) (ja (sd Bc ‹rfl› ‹rfl› ‹T.c_BadCount› ‹T.q_BadCount› (aa Aa ia))) xa) (da (Ca (i := 2) ‹sc.nd› ‹rfl› ‹Or.inl rfl› (pv 0)) (da (Ca (i := 3) ‹sc.nd› ‹rfl› ‹Or.inl rfl› (Yc ia)) (da (Cc PassesOwn.leaving ‹rfl› (Ti ‹rfl› ‹T.b_enumerate› (aa (pv 1) ia)) (Th (K := K) (n := 2) ‹rfl› ‹rfl› (Sa (Oa (i := 4) ‹sc.nd› ‹rfl› ‹Or.inl rfl›) (Sa (Oa (i := 5) ‹sc.nd› ‹rfl› ‹Or.inl rfl›) Nc))) (da (La (Sf (truK (K := K) ‹rfl› (pe_c ‹C_fits› ‹hr.mono (by decide)› ‹rfl› (aa (pv 0) (aa (pv 2) (aa (pv 5) ia)))))) (ja (Ri Bc ‹rfl› ‹hr› ‹rfl› ‹T.c_BadRound› ‹T.I_BadRound› ‹T.c_BallotError› (aa (pv 4) ia))) xa) (da (Ca (i := 2) ‹sc.nd› ‹rfl› ‹Or.inl rfl› (Ea (ixK (K := K) ‹rfl›) (pv 5) ba ‹fun _ _ => rfl›)) (ja (Mc (Xi ‹PySem.F.plainAttrs_list› ‹PySem.F.slot_list_append› ‹PySem.F.type_list_append› ‹Pb› (pv 3) (aa (pv 2) ia))))))) (ja (ya (pv 3))))))), ?_⟩
   rw [show L2.start ["count", "row", "sit", "found", "at", "step"] [V.int c, V.ref a] = [some (V.int c), some (V.ref a), none, none, none, none] from rfl]
   left
   refine va (fun h1 => ?_) (fun h1 => ?_)
   . left
     exact fun ea hea => q1 (by omega) _ ea (Same.refl _) hea
   left
   refine va (fun h2 => ?_) (fun h2 => ?_)
   . left
     exact fun ea hea => q1 (by omega) _ ea (Same.refl _) hea
   obtain ⟨qa, qb⟩ := q2 (by omega) (by omega)
   left
   intro f hf
   left
   have haf : a ≠ f := ka R.ls hf
   refine forE (a := a) (xs := ps.map V.ref) (fun i σ' H' => ∃ x y : Option V, okTo c os i /\ Fr1 f H H' /\ H' f = some (.lst (lstO (os.take i))) /\ σ' = [some (.int c), some (.ref a), some (.int (ub c (os.take i))), some (.ref f), x, y]) ⟨none, none, fun j o hj => absurd hj (Nat.not_lt_zero _), (Fr1.refl f H).new hf, la, rfl⟩ (fun i σ' H' _ h => by obtain ⟨_, _, _, fr, _⟩ := h; exact fr.get R.ls haf) ?_ ?_
   . rintro i x σ' H' T hi ⟨x1, y1, ok, fr, hf', rfl⟩ hT
     obtain ⟨p, o, rfl, hp, ho, hob⟩ := R.get hi
     have hil : i < os.length := (List.getElem?_eq_some_iff.mp ho).1
     have hpf : p ≠ f := ka hob hf
     have ho' : H' p = some (onO o) := fr.get hob hpf
     have hpT : p ≠ T := ka ho' hT
     have hfT : f ≠ T := ka hf' hT
     have hoT := yb (o := .tup [.int i, .ref p]) hpT ho'
     have sS : Same H (upd H' T (.tup [.int i, .ref p])) := fun b u hb => by rw [wa (ka (fr b u hb (ka hb hf)) hT)]; exact fr b u hb (ka hb hf)
     left
     refine dh hoT ?_
     cases ft : fitO c (ub c (os.take i)) o with
     | false =>
      left
      refine ⟨i, rfl, by omega, by omega, fun ea dx h1 h2 h3 => ?_⟩
      have e := kf (k := 0) ok ho ft
      rw [Nat.zero_add] at e
      exact qa i e _ ea dx sS h1 h2 h3
     | true =>
      left
      obtain ⟨xs, e1, e2⟩ := on_n o
      refine xb (xs := xs) (by rw [<- e1]; exact hoT) e2 ?_
      left
      refine cf (xs := lstO (os.take i)) (yb hfT hf') (by unfold lstO; rw [List.length_map, List.length_take, sizeLine_eq]; omega) ?_
      left
      have en := BR.Cd ho
      refine ⟨some (.int i), some (.ref p), fun j o' hj hj' => ?_, ((fr.new hT).upd), ?_, ?_⟩
      . by_cases z : j = i
        . subst z
          rw [ho] at hj'
          cases hj'
          exact ft
        . exact ok j o' (by omega) hj'
      . rw [la, en]
        unfold lstO
        rw [List.map_append]
        rfl
      . rw [en, Qc]; rfl
   . rintro σ' H' ⟨x1, y1, ok, fr, hf', rfl⟩
     left
     rw [List.length_map, pl] at ok hf'
     rw [List.take_length] at hf'
     exact qb (mf fun j o hj => ok j o (List.getElem?_eq_some_iff.mp hj).1 hj) f H' hf (fun b o z => fr b o z (ka z hf)) hf'
theorem ke {C_BallotError C_BadCount C_NoDraw C_NotWhole C_BadRound : Addr} (T : Txt K mg C_BallotError C_BadCount C_NoDraw C_NotWhole C_BadRound) (U : Up K mg "sizes_ahead" Ab ["count", "row"]) (C_sizes : Yd P w K mg base C_BadCount C_BadRound) : Wa P w K mg base C_BadCount C_BadRound := by
 have sc := fe
 refine Ma.of (k := 3) U sc (fun vs H Q E h => ?_) (fun f cdv A outer s H vs Q E hr h => ?_)
 . obtain ⟨c, a, ps, os, rfl, _⟩ := h; rfl
 . obtain ⟨c, a, ps, os, rfl, R, hl, q1, q2⟩ := h
   have hu := hr.units
   conv in (za _) => whnf
   with_reducible refine ⟨_, (ja (ya (Ka (addK (K := K) ‹rfl›) (Yc (aa (pv 0) ia)) (Nb ‹C_sizes› Ua ‹hr.mono (by decide)› ‹rfl› (aa (pv 0) (aa (pv 1) ia)))))), ?_⟩
   rw [show L2.start ["count", "row"] [V.int c, V.ref a] = [some (V.int c), some (V.ref a)] from rfl]
   left
   intro f hf
   have s1 : Same H (upd H f (.lst [.int c])) := (Same.refl H).new hf
   left
   refine Lc (R.same s1) hl (fun h => (q1 h).same s1) fun h1 h2 => ⟨fun k hk => ((q2 h1 h2).1 k hk).same s1, fun hn p H' hp s2 hp' => ?_⟩
   refine Ni (xs := [.int c]) (ys := lstO os) (s2 _ _ la) hp' (by unfold lstO; rw [List.length_map, sizeLine_eq]; simp only [List.length_cons, List.length_nil]; omega) ?_
   intro p2 hp2
   exact (q2 h1 h2).2 hn p2 _ (s1.free (s2.free hp2)) ((s1.tr s2).new hp2) la
theorem Ck {C_BallotError C_BadCount C_NoDraw C_NotWhole C_BadRound : Addr} (T : Txt K mg C_BallotError C_BadCount C_NoDraw C_NotWhole C_BadRound) (U : Up K mg "whole" Cg ["count", "row"]) (C_sizes_ahead : Wa P w K mg base C_BadCount C_BadRound) : sf P w K mg base C_BadCount C_BadRound := by
 have sc := Uj
 refine Ma.of (k := 4) U sc (fun vs H Q E h => ?_) (fun f cdv A outer s H vs Q E hr h => ?_)
 . obtain ⟨c, a, ps, os, rfl, _⟩ := h; rfl
 . obtain ⟨c, a, ps, os, rfl, R, hl, q1, q2⟩ := h
   have hu := hr.units
   conv in (za _) => whnf
   with_reducible refine ⟨_, (ja (ya (Qa (eqK (K := K) ‹rfl› ‹hu›) (Ea (ixK (K := K) ‹rfl›) (Nb ‹C_sizes_ahead› Ua ‹hr.mono (by decide)› ‹rfl› (aa (pv 0) (aa (pv 1) ia))) (Ui Af ba) ‹fun _ _ => rfl›) ba ‹ra _›))), ?_⟩
   rw [show L2.start ["count", "row"] [V.int c, V.ref a] = [some (V.int c), some (V.ref a)] from rfl]
   left
   refine Be R hl q1 fun h1 h2 => ⟨(q2 h1 h2).1, fun hn p H' hp s2 hp' => ?_⟩
   left
   refine Qf hp' (Wh c os) ?_
   left
   exact (q2 h1 h2).2 hn _ s2
theorem me {C_BallotError C_BadCount C_NoDraw C_NotWhole C_BadRound : Addr} (T : Txt K mg C_BallotError C_BadCount C_NoDraw C_NotWhole C_BadRound) (U : Up K mg "round_draws" Bb ["count", "sit", "step"]) (C_ways : Ij P w K mg base) : Hb P w K mg base := by
 have sc := ie
 refine Callee.of (k := 1) U sc (fun vs H Q E h => ?_) (fun f cdv A outer s H vs Q E hr h => ?_)
 . obtain ⟨c, s, p, r, rfl, _⟩ := h; rfl
 . obtain ⟨c, s, p, r, rfl, hp, h1, h2, k⟩ := h
   have hu := hr.units
   conv in (za _) => whnf
   with_reducible refine ⟨_, (da (La (PW.pt (Wb (ma (eqK (K := K) ‹rfl› ‹hu›) (Ea (ixK (K := K) ‹rfl›) (pv 2) ba ‹fun _ _ => rfl›) Aa ‹ra _›) (Lb (ma (eqK (K := K) ‹rfl› ‹hu›) (Ea (ixK (K := K) ‹rfl›) (pv 2) ba ‹fun _ _ => rfl›) Aa ‹ra _›)))) (ja (ya (pe_c ‹C_ways› ‹hr.mono (by decide)› ‹rfl› (aa (pv 1) (aa (Ea (ixK (K := K) ‹rfl›) (pv 2) ba ‹fun _ _ => rfl›) ia))))) xa) (da (La (ma (eqK (K := K) ‹rfl› ‹hu›) (Ea (ixK (K := K) ‹rfl›) (pv 2) ba ‹fun _ _ => rfl›) Aa ‹ra _›) (ja (ya (pe_c ‹C_ways› ‹hr.mono (by decide)› ‹rfl› (aa (pv 0) (aa (Ea (ixK (K := K) ‹rfl›) (pv 2) ba ‹fun _ _ => rfl›) ia))))) xa) (ja (ya ba)))), ?_⟩
   rw [show L2.start ["count", "sit", "step"] [V.int c, V.int s, V.ref p] = [some (V.int c), some (V.int s), some (V.ref p)] from rfl]
   cases r with
   | lot n =>
    have hp' : H p = some (.tup [.str "lot", .int n]) := hp
    left
    refine va (fun _ => ?_) (fun h1 => absurd rfl h1)
    left
    refine Se (by omega) ?_
    rw [MB.Bn]
    exact k
   | vote n q w =>
    have hp' : H p = some (.tup [.str "vote", .int n, .int q, .str (wdS w)]) := hp
    left
    refine va (fun h1 => absurd h1 (by decide)) (fun _ => ?_)
    left
    cases w with
    | council =>
     refine va (fun h1 => absurd h1 (by decide)) (fun _ => ?_)
     left
     refine va (fun _ => ?_) (fun h1 => absurd rfl h1)
     left
     refine Se (by omega) ?_
     rw [MB.Bn]
     exact k
    | bench =>
     refine va (fun _ => ?_) (fun h1 => absurd rfl h1)
     left
     refine Se (by omega) ?_
     rw [MB.Bn]
     exact k
    | stay =>
     refine va (fun h1 => absurd h1 (by decide)) (fun _ => ?_)
     left
     refine va (fun h1 => absurd h1 (by decide)) (fun _ => ?_)
     left
     exact k
theorem bg {C_BallotError C_BadCount C_NoDraw C_NotWhole C_BadRound : Addr} (T : Txt K mg C_BallotError C_BadCount C_NoDraw C_NotWhole C_BadRound) (U : Up K mg "draws_row" kc ["count", "row"]) (C_sizes_ahead : Wa P w K mg base C_BadCount C_BadRound) (C_round_draws : Hb P w K mg base) : Xa P w K mg base C_BadCount C_BadRound := by
 have sc := Of
 refine Ma.of (k := 4) U sc (fun vs H Q E h => ?_) (fun f cdv A outer s H vs Q E hr h => ?_)
 . obtain ⟨c, a, ps, os, rfl, _⟩ := h; rfl
 . obtain ⟨c, a, ps, os, rfl, R, hl, d⟩ := h
   have hu := hr.units
   conv in (za _) => whnf
   with_reducible refine ⟨_, (ja (ya (pe_lcx ["count"] ["step", "sit"] [0] (by with_unfolding_all rfl) ‹rfl› (Fl ‹rfl› ‹T.b_zip› (aa (pv 1) (aa (Nb ‹C_sizes_ahead› Ua ‹hr.mono (by decide)› ‹rfl› (aa (pv 0) (aa (pv 1) ia))) ia))) (by decide) ‹rfl› (by decide) ‹⟨rfl, trivial⟩› (by with_unfolding_all rfl) (fun _ => ‹⟨cap1 rfl rfl rfl rfl, trivial⟩›) (fun _ _ _ _ => (Th (K := K) (n := 2) ‹rfl› ‹rfl› (Sa (Oa (i := 1) ‹show List.Nodup (["count", "step", "sit"] : List Str) from by decide +kernel› ‹rfl› ‹Or.inl rfl› ‹.inr rfl›) (Sa (Oa (i := 2) ‹show List.Nodup (["count", "step", "sit"] : List Str) from by decide +kernel› ‹rfl› ‹Or.inl rfl› ‹.inr rfl›) Nc)))) (fun _ _ _ _ => Jg) (fun _ _ _ _ => (pe_c ‹C_round_draws› ‹hr.mono (by decide)› ‹rfl› (aa (pv 0) (aa (pv 2) (aa (pv 1) ia)))))))), ?_⟩
   rw [show L2.start ["count", "row"] [V.int c, V.ref a] = [some (V.int c), some (V.ref a)] from rfl]
   left
   exact Ce R hl d
theorem Ik {C_BallotError C_BadCount C_NoDraw C_NotWhole C_BadRound : Addr} (T : Txt K mg C_BallotError C_BadCount C_NoDraw C_NotWhole C_BadRound) (U : Up K mg "draws" Gg ["count", "row"]) (C_draws_row : Xa P w K mg base C_BadCount C_BadRound) : Yg P w K mg base C_BadCount C_BadRound := by
 have sc := Yj
 refine Ma.of (k := 5) U sc (fun vs H Q E h => ?_) (fun f cdv A outer s H vs Q E hr h => ?_)
 . obtain ⟨c, a, ps, os, rfl, _⟩ := h; rfl
 . obtain ⟨c, a, ps, os, rfl, R, hl, d⟩ := h
   have hu := hr.units
   conv in (za _) => whnf
   with_reducible refine ⟨_, (da (Ca (i := 2) ‹sc.nd› ‹rfl› ‹Or.inl rfl› ba) (da (Cc PassesOwn.leaving ‹rfl› (piLK (K := K) ‹rfl› (Nb ‹C_draws_row› Ua ‹hr.mono (by decide)› ‹rfl› (aa (pv 0) (aa (pv 1) ia)))) (Oa (i := 3) ‹sc.nd› ‹rfl› ‹Or.inl rfl›) (ja (ps_aug (i := 2) ‹sc.nd› ‹rfl› ‹Or.inl rfl› (pv 3) ip_mul))) (ja (ya (pv 2))))), ?_⟩
   rw [show L2.start ["count", "row", "found", "many"] [V.int c, V.ref a] = [some (V.int c), some (V.ref a), none, none] from rfl]
   left
   exact Ub R hl d
theorem cj {C_BallotError C_BadCount C_NoDraw C_NotWhole C_BadRound : Addr} (T : Txt K mg C_BallotError C_BadCount C_NoDraw C_NotWhole C_BadRound) (U : Up K mg "parted" Xe ["count", "row", "number"]) (C_draws_row : Xa P w K mg base C_BadCount C_BadRound) : uf P w K mg base C_BadCount C_BadRound := by
 have sc := Ei
 refine Ma.of (k := 5) U sc (fun vs H Q E h => ?_) (fun f cdv A outer s H vs Q E hr h => ?_)
 . obtain ⟨c, a, v, ps, os, rfl, _⟩ := h; rfl
 . obtain ⟨c, a, v, ps, os, rfl, R, hl, d⟩ := h
   have hu := hr.units
   conv in (za _) => whnf
   with_reducible refine ⟨_, (da (Ca (i := 3) ‹sc.nd› ‹rfl› ‹Or.inl rfl› (Yc ia)) (da (Cc PassesOwn.leaving ‹rfl› (piLK (K := K) ‹rfl› (Vi (K := K) ‹rfl› (Nb ‹C_draws_row› Ua ‹hr.mono (by decide)› ‹rfl› (aa (pv 0) (aa (pv 1) ia))) (Ui Af ba))) (Oa (i := 4) ‹sc.nd› ‹rfl› ‹Or.inl rfl›) (da (Xc (Ba yj ‹rfl› ‹T.b_divmod› Dj (aa (pv 2) (aa (pv 4) ia))) (Th (K := K) (n := 2) ‹rfl› ‹rfl› (Sa (Oa (i := 2) ‹sc.nd› ‹rfl› ‹Or.inl rfl›) (Sa (Oa (i := 5) ‹sc.nd› ‹rfl› ‹Or.inl rfl›) Nc)))) (ja (Mc (Xi ‹PySem.F.plainAttrs_list› ‹PySem.F.slot_list_append› ‹PySem.F.type_list_append› ‹Pb› (pv 3) (aa (pv 5) ia)))))) (da (La (ma (neK (K := K) ‹rfl› ‹hu›) (pv 2) ba ‹ra _›) (ja (sd Bc ‹rfl› ‹rfl› ‹T.c_NoDraw› ‹T.q_NoDraw› (aa Aa ia))) xa) (ja (ya (Vi (K := K) ‹rfl› (pv 3) (Ui Af ba))))))), ?_⟩
   rw [show L2.start ["count", "row", "number", "found", "many", "own"] [V.int c, V.ref a, v] = [some (V.int c), some (V.ref a), some (v), none, none, none] from rfl]
   left
   intro fa hfa
   have s1 : Same H (upd H fa (.lst [])) := (Same.refl H).new hfa
   left
   exact Ub (R.same s1) hl (d.same s1)
theorem Md {C_BallotError C_BadCount C_NoDraw C_NotWhole C_BadRound : Addr} (T : Txt K mg C_BallotError C_BadCount C_NoDraw C_NotWhole C_BadRound) (U : Up K mg "put_together" rb ["count", "row", "numbers"]) (C_draws_row : Xa P w K mg base C_BadCount C_BadRound) : wb P w K mg base C_BadCount C_BadRound := by
 have sc := Dd
 refine Ma.of (k := 5) U sc (fun vs H Q E h => ?_) (fun f cdv A outer s H vs Q E hr h => ?_)
 . obtain ⟨c, a, v, ps, os, rfl, _⟩ := h; rfl
 . obtain ⟨c, a, v, ps, os, rfl, R, hl, d⟩ := h
   have hu := hr.units
   conv in (za _) => whnf
   with_reducible refine ⟨_, (da (Ca (i := 3) ‹sc.nd› ‹rfl› ‹Or.inl rfl› (Nb ‹C_draws_row› Ua ‹hr.mono (by decide)› ‹rfl› (aa (pv 0) (aa (pv 1) ia)))) (da (La (ma (neK (K := K) ‹rfl› ‹hu›) (Ba (lenK (K := K) ‹rfl›) ‹rfl› ‹T.b_len› jd (aa (pv 2) ia)) (Ba (lenK (K := K) ‹rfl›) ‹rfl› ‹T.b_len› jd (aa (pv 3) ia)) ‹ra _›) (ja (sd Bc ‹rfl› ‹rfl› ‹T.c_NoDraw› ‹T.q_NoDraw› (aa Aa ia))) xa) (da (Ca (i := 4) ‹sc.nd› ‹rfl› ‹Or.inl rfl› ba) (da (Cc PassesOwn.leaving ‹rfl› (Fl ‹rfl› ‹T.b_zip› (aa (pv 2) (aa (pv 3) ia))) (Th (K := K) (n := 2) ‹rfl› ‹rfl› (Sa (Oa (i := 5) ‹sc.nd› ‹rfl› ‹Or.inl rfl›) (Sa (Oa (i := 6) ‹sc.nd› ‹rfl› ‹Or.inl rfl›) Nc))) (da (La (PW.pt (Wb (ma (ltK (K := K) ‹rfl› ‹hu›) (pv 5) ba ‹ra _›) (Lb (ma Km (pv 5) (pv 6) ‹ra _›)))) (ja (sd Bc ‹rfl› ‹rfl› ‹T.c_NoDraw› ‹T.q_NoDraw› (aa Aa ia))) xa) (ja (Ca (i := 4) ‹sc.nd› ‹rfl› ‹Or.inl rfl› (Ka (addK (K := K) ‹rfl›) (Ka Ob (pv 4) (pv 6)) (pv 5)))))) (ja (ya (pv 4))))))), ?_⟩
   rw [show L2.start ["count", "row", "numbers", "each", "found", "own", "many"] [V.int c, V.ref a, v] = [some (V.int c), some (V.ref a), some (v), none, none, none, none] from rfl]
   left
   exact Ub R hl d
theorem Xf {C_BallotError C_BadCount C_NoDraw C_NotWhole C_BadRound : Addr} (T : Txt K mg C_BallotError C_BadCount C_NoDraw C_NotWhole C_BadRound) (U : Up K mg "shortened" bc ["count", "row"]) (C_sizes_ahead : Wa P w K mg base C_BadCount C_BadRound) : vc P w K mg base C_BadCount C_BadRound := by
 have sc := Kf
 refine Ma.of (k := 4) U sc (fun vs H Q E h => ?_) (fun f cdv A outer s H vs Q E hr h => ?_)
 . obtain ⟨c, a, ps, os, rfl, _⟩ := h; rfl
 . obtain ⟨c, a, ps, os, rfl, R, hl, d⟩ := h
   have hu := hr.units
   conv in (za _) => whnf
   with_reducible refine ⟨_, (da (Ca (i := 2) ‹sc.nd› ‹rfl› ‹Or.inl rfl› (Ea (ixK (K := K) ‹rfl›) (Nb ‹C_sizes_ahead› Ua ‹hr.mono (by decide)› ‹rfl› (aa (pv 0) (aa (pv 1) ia))) ba ‹fun _ _ => rfl›)) (da (Ca (i := 3) ‹sc.nd› ‹rfl› ‹Or.inl rfl› (Yc ia)) (da (Cc PassesOwn.leaving ‹rfl› (Ti ‹rfl› ‹T.b_enumerate› (aa (pv 1) ia)) (Th (K := K) (n := 2) ‹rfl› ‹rfl› (Sa (Oa (i := 4) ‹sc.nd› ‹rfl› ‹Or.inl rfl›) (Sa (Oa (i := 5) ‹sc.nd› ‹rfl› ‹Or.inl rfl›) Nc))) (ja (La (ma (eqK (K := K) ‹rfl› ‹hu›) (Ea (ixK (K := K) ‹rfl›) (pv 5) ba ‹fun _ _ => rfl›) Aa ‹ra _›) (da (Mc (Xi ‹PySem.F.plainAttrs_list› ‹PySem.F.slot_list_append› ‹PySem.F.type_list_append› ‹Pb› (pv 3) (aa (pv 5) ia))) (ja (Ca (i := 2) ‹sc.nd› ‹rfl› ‹Or.inl rfl› (Ea (ixK (K := K) ‹rfl›) (pv 5) ba ‹fun _ _ => rfl›)))) (ja (La (PW.pt (Wb (ma (eqK (K := K) ‹rfl› ‹hu›) (Ka (addK (K := K) ‹rfl›) (pv 4) ba) (Ba (lenK (K := K) ‹rfl›) ‹rfl› ‹T.b_len› jd (aa (pv 1) ia)) ‹ra _›) (Lb (ma (eqK (K := K) ‹rfl› ‹hu›) (Ea (ixK (K := K) ‹rfl›) (Ea (ixK (K := K) ‹rfl›) (pv 1) (Ka (addK (K := K) ‹rfl›) (pv 4) ba) ‹fun _ _ => rfl›) ba ‹fun _ _ => rfl›) Aa ‹ra _›)))) (ja (La (ma (neK (K := K) ‹rfl› ‹hu›) (Ea (ixK (K := K) ‹rfl›) (pv 5) ba ‹fun _ _ => rfl›) (pv 2) ‹ra _›) (ja (Mc (Xi ‹PySem.F.plainAttrs_list› ‹PySem.F.slot_list_append› ‹PySem.F.type_list_append› ‹Pb› (pv 3) (aa (pv 5) ia)))) xa)) xa))))) (ja (ya (pv 3)))))), ?_⟩
   rw [show L2.start ["count", "row", "sit", "found", "at", "step"] [V.int c, V.ref a] = [some (V.int c), some (V.ref a), none, none, none, none] from rfl]
   left
   exact Ce R hl d
theorem Jh {C_BallotError C_BadCount C_NoDraw C_NotWhole C_BadRound : Addr} (T : Txt K mg C_BallotError C_BadCount C_NoDraw C_NotWhole C_BadRound) (U : Up K mg "_law_begin" Gd ["_law_script"]) : de P w K mg base := by
 have sc := Eh
 refine Callee.of (k := 0) U sc (fun vs H Q E h => ?_) (fun f cdv A outer s H vs Q E hr h => ?_)
 . obtain ⟨a, ns, rfl, _⟩ := h; rfl
 . obtain ⟨a, ns, rfl, hS, k⟩ := h
   have hu := hr.units
   conv in (za _) => whnf
   with_reducible refine ⟨_, (ja (ya (Yc (aa (Dc (listK (K := K) ‹rfl›) ‹rfl› ‹T.b_list› Tg (aa (pv 0) ia)) (aa ba (aa ba (aa ba ia))))))), ?_⟩
   rw [show L2.start ["_law_script"] [V.ref a] = [some (V.ref a)] from rfl]
   left
   refine Hg (xs := ns.map V.int) hS ?_
   intro l hl
   left
   intro d hd
   have hld : l ≠ d := ka la hd
   have s1 : Same H (upd H l (.lst (ns.map V.int))) := (Same.refl H).new hl
   refine k d l _ (s1.free hd) hl ⟨ns, 0, 0, 17, la, by walk_at "hp", hld, by decide⟩ (s1.new hd)
theorem dj {C_BallotError C_BadCount C_NoDraw C_NotWhole C_BadRound : Addr} (T : Txt K mg C_BallotError C_BadCount C_NoDraw C_NotWhole C_BadRound) (U : Up K mg "_law_take" Ye ["_law_draw", "_law_many"]) : Ib P w K mg base := by
 have sc := Fi
 refine Callee.of (k := 0) U sc (fun vs H Q E h => ?_) (fun f cdv A outer s H vs Q E hr h => ?_)
 . obtain ⟨d, l, m, rfl, _⟩ := h; rfl
 . obtain ⟨d, l, m, rfl, ⟨ns, i, c, r, hd, hl, hne, hi⟩, hm, hb, k⟩ := h
   have hu := hr.units
   conv in (za _) => whnf
   with_reducible refine ⟨_, (Tf (La (PW.pt (Wc (ma (ltK (K := K) ‹rfl› ‹hu›) (Ea (ixK (K := K) ‹rfl›) (pv 0) ba ‹fun _ _ => rfl›) (pv 1) ‹ra _›) (nc (ma (ltK (K := K) ‹rfl› ‹hu›) (Ea (ixK (K := K) ‹rfl›) (pv 0) ba ‹fun _ _ => rfl›) (Ba (lenK (K := K) ‹rfl›) ‹rfl› ‹T.b_len› jd (aa (Ea (ixK (K := K) ‹rfl›) (pv 0) ba ‹fun _ _ => rfl›) ia)) ‹ra _›)))) (da (Ca (i := 2) ‹sc.nd› ‹rfl› ‹Or.inl rfl› (Ea (ixK (K := K) ‹rfl›) (Ea (ixK (K := K) ‹rfl›) (pv 0) ba ‹fun _ _ => rfl›) (Ea (ixK (K := K) ‹rfl›) (pv 0) ba ‹fun _ _ => rfl›) ‹fun _ _ => rfl›)) (da (Xc (Ka (addK (K := K) ‹rfl›) (Ea (ixK (K := K) ‹rfl›) (pv 0) ba ‹fun _ _ => rfl›) ba) (Ee (pv 0) ba set_list)) (da (Xc ba (Ee (pv 0) ba set_list)) (ja (La (ma Km (Ba Pl ‹rfl› ‹T.b_abs› Rl (aa (pv 2) ia)) (Ka op_pow ba ba) ‹ra _›) (ja (Xc (Ba Pl ‹rfl› ‹T.b_abs› Rl (aa (pv 2) ia)) (Ee (pv 0) ba set_list))) (ja (Xc (Ka Wf (Ka (addK (K := K) ‹rfl›) (Ka (addK (K := K) ‹rfl›) (Ka Ob (Ea (ixK (K := K) ‹rfl›) (pv 0) ba ‹fun _ _ => rfl›) ba) (Ka Ob (Ka Wf (pv 2) ba) ba)) ba) ba) (Ee (pv 0) ba set_list)))))))) xa) (da (La (ma Km (Ea (ixK (K := K) ‹rfl›) (pv 0) ba ‹fun _ _ => rfl›) (pv 1) ‹ra _›) (da (Ca (i := 3) ‹sc.nd› ‹rfl› ‹Or.inl rfl› (Ka Wf (Ea (ixK (K := K) ‹rfl›) (pv 0) ba ‹fun _ _ => rfl›) (pv 1))) (da (Xc (Ka Eb (Ea (ixK (K := K) ‹rfl›) (pv 0) ba ‹fun _ _ => rfl›) (pv 1)) (Ee (pv 0) ba set_list)) (ja (ya (pv 3))))) xa) (da (Xc (Ka Wf (Ka (addK (K := K) ‹rfl›) (Ka Ob (Ea (ixK (K := K) ‹rfl›) (pv 0) ba ‹fun _ _ => rfl›) ba) ba) ba) (Ee (pv 0) ba set_list)) (ja (ya (Ka Wf (Ka Eb (Ea (ixK (K := K) ‹rfl›) (pv 0) ba ‹fun _ _ => rfl›) ba) (pv 1))))))), ?_⟩
   rw [show L2.start ["_law_draw", "_law_many", "_law_number", "_law_got"] [V.ref d, V.int m] = [some (V.ref d), some (V.int m), none, none] from rfl]
   refine Bl (fun σ' H' => (∃ x, σ' = [some (.ref d), some (.int m), x, none]) /\ (∃ i' c' r' : Int, H' d = some (.lst [.ref l, .int i', .int c', .int r']) /\ 0 <= i') /\ Fr1 d H H') ?_ ?_
   . left
     refine va (fun h1 => ?_) (fun h1 => ?_)
     . left
       refine va (fun h2 => ?_) (fun h2 => ?_)
       . left
         rw [List.length_map] at h2
         refine Qf hl (el hi h2) ?_
         left
         refine va (fun h3 => ?_) (fun h3 => ?_)
         . left
           exact ⟨⟨_, rfl⟩, ⟨_, _, _, la, by omega⟩, (((Fr1.refl d H).upd).upd).upd⟩
         . left
           exact ⟨⟨_, rfl⟩, ⟨_, _, _, la, by omega⟩, (((Fr1.refl d H).upd).upd).upd⟩
       . left
         exact ⟨⟨_, rfl⟩, ⟨_, _, _, hd, by omega⟩, Fr1.refl d H⟩
     . left
       exact ⟨⟨_, rfl⟩, ⟨_, _, _, hd, by omega⟩, Fr1.refl d H⟩
   . rintro σ1 H1 ⟨⟨x, rfl⟩, ⟨i', c', r', hd1, hi1⟩, fr⟩
     obtain ⟨n, hn1, hn2⟩ := hb
     have hl1 : H1 l = some (.lst (ns.map V.int)) := fr.get hl hne
     left
     refine va (fun h1 => ?_) (fun h1 => ?_)
     . left
       refine r_rI ⟨hm, n, hn1, hn2⟩ ?_
       left
       refine k _ _ (Int.emod_nonneg _ (by omega)) (Int.emod_lt_of_pos _ hm) ⟨ns, i', _, r', la, ?_, hne, hi1⟩ fr.upd
       walk_at "hp"
     . left
       refine k _ _ (Int.emod_nonneg _ (by omega)) (Int.emod_lt_of_pos _ hm) ⟨ns, i', c', _, la, ?_, hne, hi1⟩ fr.upd
       walk_at "hp"
theorem Gk {C_BallotError C_BadCount C_NoDraw C_NotWhole C_BadRound : Addr} (T : Txt K mg C_BallotError C_BadCount C_NoDraw C_NotWhole C_BadRound) (U : Up K mg "_law_int" Eg ["_law_thing"]) : xf P w K mg base := by
 have sc := Wj
 refine Callee.of (k := 0) U sc (fun vs H Q E h => ?_) (fun f cdv A outer s H vs Q E hr h => ?_)
 . obtain ⟨n, rfl, _⟩ := h; rfl
 . obtain ⟨n, rfl, k⟩ := h
   have hu := hr.units
   conv in (za _) => whnf
   with_reducible refine ⟨_, (ja (ya (Ie (Ba (isiK (K := K) ‹rfl›) ‹rfl› ‹T.b_isinstance› Ia (aa (pv 0) (aa (Oc ‹rfl› ‹T.b_int› Cj (v := .ty "int") ‹rfl›) ia))) (Fe (pe_not (Ba (isiK (K := K) ‹rfl›) ‹rfl› ‹T.b_isinstance› Ia (aa (pv 0) (aa (Oc ‹rfl› ‹T.b_bool› Ej (v := .ty "bool") ‹rfl›) ia)))))))), ?_⟩
   rw [show L2.start ["_law_thing"] [V.int n] = [some (V.int n)] from rfl]
   left
   exact k
theorem fj {C_BallotError C_BadCount C_NoDraw C_NotWhole C_BadRound : Addr} (T : Txt K mg C_BallotError C_BadCount C_NoDraw C_NotWhole C_BadRound) (U : Up K mg "_law_ints" af ["_law_found"]) (C_l_int : xf P w K mg base) : vf P w K mg base := by
 have sc := Hi
 refine Callee.of (k := 1) U sc (fun vs H Q E h => ?_) (fun f cdv A outer s H vs Q E hr h => ?_)
 . obtain ⟨p, ns, rfl, _⟩ := h; rfl
 . obtain ⟨p, ns, rfl, hp, hlen, q⟩ := h
   have hu := hr.units
   conv in (za _) => whnf
   with_reducible refine ⟨_, (ja (ya (Ie (Ba (isiK (K := K) ‹rfl›) ‹rfl› ‹T.b_isinstance› Ia (aa (pv 0) (aa (Oc ‹rfl› ‹T.b_list› Tg (v := .ty "list") ‹rfl›) ia))) (Fe (Ba (allK (K := K) ‹rfl› ‹rfl›) ‹rfl› ‹T.b_all› bt_all (aa (pe_lc [] ["_law_one"] [] (by with_unfolding_all rfl) ‹rfl› ‹rfl› (piLK (K := K) ‹rfl› (pv 0)) (by decide) ‹rfl› (by decide) ‹trivial› (by with_unfolding_all rfl) (fun _ => ‹trivial›) (fun _ _ _ _ => (Oa (i := 0) ‹show List.Nodup (["_law_one"] : List Str) from by decide +kernel› ‹rfl› ‹Or.inl rfl› ‹.inr rfl›)) (fun _ _ _ _ => Jg) (fun _ _ _ _ => (pe_c ‹C_l_int› ‹hr.mono (by decide)› ‹rfl› (aa (pv 0) ia)))) ia)))))), ?_⟩
   rw [show L2.start ["_law_found"] [V.ref p] = [some (V.ref p)] from rfl]
   left
   refine compL (a := p) (xs := ns.map V.int) [] (fun i ys H' => H' = H /\ ys = (List.replicate i true).map V.bl) rfl (by rw [List.length_map, sizeLine_eq]; omega) ⟨rfl, rfl⟩ (fun i ys H' _ ⟨e, _⟩ => by subst e; exact SqL.of hp) (fun i ys H' ⟨_, e⟩ => by rw [e, List.length_map, List.length_replicate]; exact Nat.le_refl _) ?_ ?_
   . rintro i v ys z H' hi ⟨rfl, rfl⟩
     rw [List.getElem?_map] at hi
     obtain ⟨n, rfl⟩ : ∃ n, v = V.int n := by
      cases w : ns[i]? with
      | none => rw [w] at hi; cases hi
      | some n => rw [w] at hi; exact ⟨n, (Option.some.inj hi).symm⟩
     left
     refine xi ?_
     refine ⟨⟨rfl, ?_⟩, _, rfl⟩
     rw [List.replicate_succ', List.map_append]
     rfl
   . rintro ys H' ⟨rfl, rfl⟩ D hD
     left
     refine r_all la ?_
     rw [show (List.replicate (ns.map V.int).length true).all id = true by simp]
     exact q _ ((Same.refl _).new hD)
theorem ej {C_BallotError C_BadCount C_NoDraw C_NotWhole C_BadRound : Addr} (T : Txt K mg C_BallotError C_BadCount C_NoDraw C_NotWhole C_BadRound) (U : Up K mg "_law_step" Ze ["_law_draw", "_law_count", "_law_bench", "_law_most"]) (C_l_take : Ib P w K mg base) : yd P w K mg base := by
 have sc := Gi
 refine Callee.of (k := 1) U sc (fun vs H Q E h => ?_) (fun f cdv A outer s H vs Q E hr h => ?_)
 . obtain ⟨d, l, c, s, m, rfl, _⟩ := h; rfl
 . obtain ⟨d, l, c, s, m, rfl, D, s1, s2, c0, s3, m1, m2, q⟩ := h
   have hu := hr.units
   conv in (za _) => whnf
   with_reducible refine ⟨_, (da (Ca (i := 4) ‹sc.nd› ‹rfl› ‹Or.inl rfl› (Ea (ixK (K := K) ‹rfl›) (Ra (aa Aa (aa Aa (aa Aa ia)))) (pe_c ‹C_l_take› ‹hr.mono (by decide)› ‹rfl› (aa (pv 0) (aa ba ia))) ‹fun _ _ => rfl›)) (da (Ca (i := 5) ‹sc.nd› ‹rfl› ‹Or.inl rfl› (Qa (eqK (K := K) ‹rfl› ‹hu›) (pe_c ‹C_l_take› ‹hr.mono (by decide)› ‹rfl› (aa (pv 0) (aa ba ia))) ba ‹ra _›)) (da (Ca (i := 6) ‹sc.nd› ‹rfl› ‹Or.inl rfl› (Ka (addK (K := K) ‹rfl›) (Ka (addK (K := K) ‹rfl›) (Ka Eb (pv 2) ba) ba) (pe_c ‹C_l_take› ‹hr.mono (by decide)› ‹rfl› (aa (pv 0) (aa (Ka aj (pv 2) (Ka Eb (pv 2) ba)) ia))))) (da (Ca (i := 7) ‹sc.nd› ‹rfl› ‹Or.inl rfl› (Ka (addK (K := K) ‹rfl›) ba (pe_c ‹C_l_take› ‹hr.mono (by decide)› ‹rfl› (aa (pv 0) (aa (Ba (Td ‹rfl›) ‹rfl› ‹T.b_min› ug (aa (pv 2) (aa (pv 3) ia))) ia))))) (da (La (truK (K := K) ‹rfl› (pv 5)) (ja (ya (Ra (aa Aa (aa (pv 7) ia))))) xa) (da (La (ma (eqK (K := K) ‹rfl› ‹hu›) (pv 4) Aa ‹ra _›) (ja (Ca (i := 7) ‹sc.nd› ‹rfl› ‹Or.inl rfl› (Ka (addK (K := K) ‹rfl›) ba (pe_c ‹C_l_take› ‹hr.mono (by decide)› ‹rfl› (aa (pv 0) (aa (Ba (Td ‹rfl›) ‹rfl› ‹T.b_min› ug (aa (pv 1) (aa (pv 3) ia))) ia)))))) xa) (da (La (PW.pt (Wc (ma (eqK (K := K) ‹rfl› ‹hu›) (pv 4) Aa ‹ra _›) (nc (ma (leK (K := K) ‹rfl› ‹hu›) (pv 2) ba ‹ra _›)))) (ja (ya (Ra (aa Aa (aa (pv 2) (aa (pv 6) (aa (pv 4) ia))))))) xa) (da (La (ma (eqK (K := K) ‹rfl› ‹hu›) (pv 4) Aa ‹ra _›) (ja (Ca (i := 4) ‹sc.nd› ‹rfl› ‹Or.inl rfl› Aa)) xa) (ja (ya (Ra (aa Aa (aa (pv 7) (aa (pv 6) (aa (pv 4) ia))))))))))))))), ?_⟩
   rw [show L2.start ["_law_draw", "_law_count", "_law_bench", "_law_most", "_law_word", "_law_lot", "_law_needed", "_law_n"] [V.ref d, V.int c, V.int s, V.int m] = [some (V.ref d), some (V.int c), some (V.int s), some (V.int m), none, none, none, none] from rfl]
   left
   intro tp htp
   have D0 := D.new (o := .tup [.str "council", .str "bench", .str "stay"]) htp
   have fr0 : Fr1 d H (upd H tp (.tup [.str "council", .str "bench", .str "stay"])) := (Fr1.refl d H).new htp
   have ntp := (D.ne htp).1
   left
   refine Na D0 (by omega) (by omega) fun g1 H1 g10 g11 D1 f1 => ?_
   obtain ⟨w, hw⟩ : ∃ w : Wd, atI [V.str "council", V.str "bench", V.str "stay"] g1 = some (.str (wdS w)) := by
    have : g1 = 0 \/ g1 = 1 \/ g1 = 2 := by omega
    rcases this with rfl | rfl | rfl
    . exact ⟨.council, rfl⟩
    . exact ⟨.bench, rfl⟩
    . exact ⟨.stay, rfl⟩
   refine xb (f1.get la ntp) hw ?_
   left
   refine Na D1 (by omega) (by omega) fun g2 H2 g20 g21 D2 f2 => ?_
   left
   refine Na D2 (by omega) (by omega) fun g3 H3 g30 g31 D3 f3 => ?_
   obtain ⟨nd, hnd, nd1, nd2⟩ : ∃ nd : Nat, (s : Int) / 2 + 1 + g3 = (nd : Int) /\ s < 2 * nd /\ nd <= s := ⟨((s : Int) / 2 + 1 + g3).toNat, by omega, by omega, by omega⟩
   left
   rw [hnd]
   have hmin : ∀ x : Nat, 1 <= x -> 0 < (if (m : Int) < (x : Int) then (m : Int) else (x : Int)) /\ (if (m : Int) < (x : Int) then (m : Int) else (x : Int)) <= x /\ (if (m : Int) < (x : Int) then (m : Int) else (x : Int)) <= 60 := fun x hx => by split <;> omega
   have hm1 := hmin s s1
   refine Na D3 (by omega) (by omega) fun g4 H4 g40 g41 D4 f4 => ?_
   have fr4 := ((((fr0.trans f1).trans f2).trans f3).trans f4)
   obtain ⟨n0, hn0, n01, n02, n03⟩ : ∃ n0 : Nat, 1 + g4 = (n0 : Int) /\ 1 <= n0 /\ n0 <= s /\ n0 <= 60 := ⟨(1 + g4).toNat, by omega, by omega, by omega, by omega⟩
   left
   rw [hn0]
   refine va (fun h1 => ?_) (fun h1 => ?_)
   . left
     intro p hp
     exact q p _ (.lot n0) (D4.new hp) (fr4.new hp) la
   . cases w with
     | council =>
      left
      refine va (fun _ => ?_) (fun z => absurd rfl z)
      left
      have hm2 := hmin c (by omega)
      refine Na D4 (by omega) (by omega) fun g5 H5 g50 g51 D5 f5 => ?_
      obtain ⟨n1, hn1, n11, n12, n13⟩ : ∃ n1 : Nat, 1 + g5 = (n1 : Int) /\ 1 <= n1 /\ n1 <= c /\ n1 <= 60 := ⟨(1 + g5).toNat, by omega, by omega, by omega, by omega⟩
      left
      rw [hn1]
      refine va (fun z => absurd z (by decide)) (fun _ => ?_)
      left
      refine va (fun z => absurd z (by decide)) (fun _ => ?_)
      left
      intro p hp
      exact q p _ (.vote n1 nd .council) (D5.new hp) ((fr4.trans f5).new hp) la
     | bench =>
      left
      refine va (fun z => absurd z (by decide)) (fun _ => ?_)
      left
      refine va (fun z => absurd z (by decide)) (fun _ => ?_)
      left
      refine va (fun z => absurd z (by decide)) (fun _ => ?_)
      left
      intro p hp
      exact q p _ (.vote n0 nd .bench) (D4.new hp) (fr4.new hp) la
     | stay =>
      left
      refine va (fun z => absurd z (by decide)) (fun _ => ?_)
      left
      refine va (fun _ => ?_) (fun z => absurd rfl z)
      left
      refine va (fun h5 => ?_) (fun h5 => ?_)
      . left
        intro p hp
        exact q p _ (.vote s nd .stay) (D4.new hp) (fr4.new hp) la
      . left
        refine va (fun _ => ?_) (fun z => absurd rfl z)
        left
        intro p hp
        exact q p _ (.vote n0 nd .council) (D4.new hp) (fr4.new hp) la
theorem ef {C_BallotError C_BadCount C_NoDraw C_NotWhole C_BadRound : Addr} (T : Txt K mg C_BallotError C_BadCount C_NoDraw C_NotWhole C_BadRound) (U : Up K mg "_law_any_step" Mb ["_law_draw", "_law_count", "_law_bench"]) (C_l_take : Ib P w K mg base) (C_l_step : yd P w K mg base) : Sb P w K mg base := by
 have sc := We
 refine Callee.of (k := 2) U sc (fun vs H Q E h => ?_) (fun f cdv A outer s H vs Q E hr h => ?_)
 . obtain ⟨d, l, c, s, rfl, _⟩ := h; rfl
 . obtain ⟨d, l, c, s, rfl, D, s1, s2, s0, s3, q⟩ := h
   have hu := hr.units
   conv in (za _) => whnf
   with_reducible refine ⟨_, (da (Ca (i := 3) ‹sc.nd› ‹rfl› ‹Or.inl rfl› (pe_c ‹C_l_step› ‹hr.mono (by decide)› ‹rfl› (aa (pv 0) (aa (pv 1) (aa (pv 2) (aa ba ia)))))) (da (Ca (i := 4) ‹sc.nd› ‹rfl› ‹Or.inl rfl› (pe_c ‹C_l_take› ‹hr.mono (by decide)› ‹rfl› (aa (pv 0) (aa ba ia)))) (da (Ca (i := 5) ‹sc.nd› ‹rfl› ‹Or.inl rfl› (Ea (ixK (K := K) ‹rfl›) (Ra (aa (Ea (ixK (K := K) ‹rfl›) (pv 3) ba ‹fun _ _ => rfl›) (aa (pv 2) (aa (Ka (addK (K := K) ‹rfl›) (pv 2) ba) (aa ba (aa ba (aa (Ui Af ba) (aa (Ka (addK (K := K) ‹rfl›) (pv 1) ba) (aa ba ia))))))))) (pv 4) ‹fun _ _ => rfl›)) (da (La (ma (eqK (K := K) ‹rfl› ‹hu›) (Ea (ixK (K := K) ‹rfl›) (pv 3) ba ‹fun _ _ => rfl›) Aa ‹ra _›) (ja (ya (Ra (aa (Ea (ixK (K := K) ‹rfl›) (Ra (aa Aa (aa Aa ia))) (Dc xj ‹rfl› ‹T.b_int› Cj (aa (Qa (eqK (K := K) ‹rfl› ‹hu›) (pe_c ‹C_l_take› ‹hr.mono (by decide)› ‹rfl› (aa (pv 0) (aa ba ia))) ba ‹ra _›) ia)) ‹fun _ _ => rfl›) (aa (pv 5) ia))))) xa) (da (Ca (i := 6) ‹sc.nd› ‹rfl› ‹Or.inl rfl› (Ea (ixK (K := K) ‹rfl›) (Ra (aa (Ea (ixK (K := K) ‹rfl›) (pv 3) ba ‹fun _ _ => rfl›) (aa (pv 2) (aa (Ka (addK (K := K) ‹rfl›) (pv 2) ba) (aa (Ka Eb (pv 2) ba) (aa ba (aa (Ka (addK (K := K) ‹rfl›) (Ka Eb (pv 2) ba) ba) ia))))))) (pe_c ‹C_l_take› ‹hr.mono (by decide)› ‹rfl› (aa (pv 0) (aa ba ia))) ‹fun _ _ => rfl›)) (da (Ca (i := 7) ‹sc.nd› ‹rfl› ‹Or.inl rfl› (Ea (ixK (K := K) ‹rfl›) (Ra (aa (Ea (ixK (K := K) ‹rfl›) (pv 3) ba ‹fun _ _ => rfl›) (aa Aa (aa Aa (aa Aa (aa Aa (aa Aa ia))))))) (pe_c ‹C_l_take› ‹hr.mono (by decide)› ‹rfl› (aa (pv 0) (aa ba ia))) ‹fun _ _ => rfl›)) (ja (ya (Ra (aa (Ea (ixK (K := K) ‹rfl›) (Ra (aa Aa (aa Aa ia))) (Dc xj ‹rfl› ‹T.b_int› Cj (aa (Qa (eqK (K := K) ‹rfl› ‹hu›) (pe_c ‹C_l_take› ‹hr.mono (by decide)› ‹rfl› (aa (pv 0) (aa ba ia))) ba ‹ra _›) ia)) ‹fun _ _ => rfl›) (aa (pv 5) (aa (pv 6) (aa (pv 7) ia))))))))))))), ?_⟩
   rw [show L2.start ["_law_draw", "_law_count", "_law_bench", "_law_step_here", "_law_way", "_law_n", "_law_needed", "_law_word"] [V.ref d, V.int c, V.int s] = [some (V.ref d), some (V.int c), some (V.int s), none, none, none, none, none] from rfl]
   left
   refine Ff (m := 60) D s1 s2 s0 s3 (by decide) (by decide) fun p H1 r D1 f1 hp => ?_
   left
   refine Na D1 (by omega) (by omega) fun g1 H2 g10 g11 D2 f2 => ?_
   obtain ⟨xs0, e1, e2⟩ := rn_n r
   have npd : p ≠ d := dr_nt D1 (by rw [<- e1]; exact hp)
   have hp2 := f2.get hp npd
   left
   refine xb (xs := xs0) (by rw [<- e1]; exact hp2) e2 ?_
   left
   intro tp htp
   have D2' := D2.new (o := .tup [.int (r.n : Nat), .int s, .int (s + 1), .int 61, .int 0, .int (-1), .int (c + 1), .int 60]) htp
   have F2 := (f1.trans f2).new (o := .tup [.int (r.n : Nat), .int s, .int (s + 1), .int 61, .int 0, .int (-1), .int (c + 1), .int 60]) htp
   have p2' := yb (o := .tup [.int (r.n : Nat), .int s, .int (s + 1), .int 61, .int 0, .int (-1), .int (c + 1), .int 60]) (ka hp2 htp) hp2
   have w2 : upd H2 tp (.tup [.int (r.n : Nat), .int s, .int (s + 1), .int 61, .int 0, .int (-1), .int (c + 1), .int 60]) tp = some (.tup [.int (r.n : Nat), .int s, .int (s + 1), .int 61, .int 0, .int (-1), .int (c + 1), .int 60]) := la
   generalize upd H2 tp (.tup [.int (r.n : Nat), .int s, .int (s + 1), .int 61, .int 0, .int (-1), .int (c + 1), .int 60]) = H3 at D2' F2 p2' w2 ⊢
   left
   obtain ⟨n, hn⟩ : ∃ n, atI [V.int (r.n : Nat), .int s, .int (s + 1), .int 61, .int 0, .int (-1), .int (c + 1), .int 60] g1 = some (.int n) := Fj g10 g11 rfl
   refine xb w2 hn ?_
   cases r with
   | lot n0 =>
    have p3 : H3 p = some (.tup [.str "lot", .int n0]) := p2'
    left
    refine va (fun _ => ?_) (fun h1 => absurd rfl h1)
    left
    intro tq htq
    have D3 := D2'.new (o := .tup [.str "lot", .str "lots"]) htq
    have F3 := F2.new (o := .tup [.str "lot", .str "lots"]) htq
    have w3 : upd H3 tq (.tup [.str "lot", .str "lots"]) tq = some (.tup [.str "lot", .str "lots"]) := la
    have ntq := (D2'.ne htq).1
    generalize upd H3 tq (.tup [.str "lot", .str "lots"]) = H4 at D3 F3 w3 ⊢
    left
    refine Na D3 (by omega) (by omega) fun g2 H5 g20 g21 D5 f5 => ?_
    left
    obtain ⟨b, hb⟩ : ∃ b : Bool, atI [V.str "lot", V.str "lots"] (if decide (g2 = 1) = true then 1 else 0) = some (.str (if b = true then "lot" else "lots")) := by
     by_cases z : g2 = 1
     . rw [if_pos (decide_eq_true z)]; exact ⟨false, rfl⟩
     . rw [if_neg (by simpa using z)]; exact ⟨true, rfl⟩
    refine xb (f5.get w3 ntq) hb ?_
    left
    intro pz hpz
    exact q pz _ (.lt b n) (D5.new hpz) ((F3.trans f5).new hpz) la
   | vote n0 q0 w0 =>
    have p3 : H3 p = some (.tup [.str "vote", .int n0, .int q0, .str (wdS w0)]) := p2'
    left
    refine va (fun h1 => absurd h1 (by decide)) (fun _ => ?_)
    left
    intro tq htq
    have D3 := D2'.new (o := .tup [.int q0, .int s, .int (s + 1), .int (s / 2), .int 0, .int (s / 2 + 1)]) htq
    have F3 := F2.new (o := .tup [.int q0, .int s, .int (s + 1), .int (s / 2), .int 0, .int (s / 2 + 1)]) htq
    have p4 := yb (o := .tup [.int q0, .int s, .int (s + 1), .int (s / 2), .int 0, .int (s / 2 + 1)]) (ka p3 htq) p3
    have w3 : upd H3 tq (.tup [.int q0, .int s, .int (s + 1), .int (s / 2), .int 0, .int (s / 2 + 1)]) tq = some (.tup [.int q0, .int s, .int (s + 1), .int (s / 2), .int 0, .int (s / 2 + 1)]) := la
    have ntq := (D2'.ne htq).1
    generalize upd H3 tq (.tup [.int q0, .int s, .int (s + 1), .int (s / 2), .int 0, .int (s / 2 + 1)]) = H4 at D3 F3 w3 p4 ⊢
    left
    refine Na D3 (by omega) (by omega) fun g2 H5 g20 g21 D5 f5 => ?_
    obtain ⟨m, hm⟩ : ∃ m, atI [V.int q0, .int s, .int (s + 1), .int (s / 2), .int 0, .int (s / 2 + 1)] g2 = some (.int m) := Fj g20 g21 rfl
    have p5 := f5.get p4 npd
    left
    refine xb (f5.get w3 ntq) hm ?_
    left
    intro tr htr
    have D6 := D5.new (o := .tup [.str (wdS w0), .str "council", .str "bench", .str "stay", .str "Bench", .str ""]) htr
    have F6 := (F3.trans f5).new (o := .tup [.str (wdS w0), .str "council", .str "bench", .str "stay", .str "Bench", .str ""]) htr
    have w6 : upd H5 tr (.tup [.str (wdS w0), .str "council", .str "bench", .str "stay", .str "Bench", .str ""]) tr = some (.tup [.str (wdS w0), .str "council", .str "bench", .str "stay", .str "Bench", .str ""]) := la
    have ntr := (D5.ne htr).1
    generalize upd H5 tr (.tup [.str (wdS w0), .str "council", .str "bench", .str "stay", .str "Bench", .str ""]) = H6 at D6 F6 w6 ⊢
    left
    refine Na D6 (by omega) (by omega) fun g3 H7 g30 g31 D7 f7 => ?_
    obtain ⟨wd, hwd⟩ : ∃ m, atI [V.str (wdS w0), .str "council", .str "bench", .str "stay", .str "Bench", .str ""] g3 = some (.str m) := yn g30 g31 rfl
    left
    refine xb (f7.get w6 ntr) hwd ?_
    left
    intro tu htu
    have D8 := D7.new (o := .tup [.str "vote", .str "votes"]) htu
    have F8 := (F6.trans f7).new (o := .tup [.str "vote", .str "votes"]) htu
    have w8 : upd H7 tu (.tup [.str "vote", .str "votes"]) tu = some (.tup [.str "vote", .str "votes"]) := la
    have ntu := (D7.ne htu).1
    generalize upd H7 tu (.tup [.str "vote", .str "votes"]) = H8 at D8 F8 w8 ⊢
    left
    refine Na D8 (by omega) (by omega) fun g4 H9 g40 g41 D9 f9 => ?_
    left
    obtain ⟨b, hb⟩ : ∃ b : Bool, atI [V.str "vote", V.str "votes"] (if decide (g4 = 1) = true then 1 else 0) = some (.str (if b = true then "vote" else "votes")) := by
     by_cases z : g4 = 1
     . rw [if_pos (decide_eq_true z)]; exact ⟨false, rfl⟩
     . rw [if_neg (by simpa using z)]; exact ⟨true, rfl⟩
    refine xb (f9.get w8 ntu) hb ?_
    left
    intro pz hpz
    exact q pz _ (.vt b n m wd) (D9.new hpz) ((F8.trans f9).new hpz) la
theorem Zf {C_BallotError C_BadCount C_NoDraw C_NotWhole C_BadRound : Addr} (T : Txt K mg C_BallotError C_BadCount C_NoDraw C_NotWhole C_BadRound) (U : Up K mg "_law_odd_row" gc ["_law_draw", "_law_count"]) (C_l_take : Ib P w K mg base) (C_l_step : yd P w K mg base) (C_l_any_step : Sb P w K mg base) : xc P w K mg base := by
 have sc := Mf
 refine Callee.of (k := 3) U sc (fun vs H Q E h => ?_) (fun f cdv A outer s H vs Q E hr h => ?_)
 . obtain ⟨d, l, c, rfl, _⟩ := h; rfl
 . obtain ⟨d, l, c, rfl, D, c1, c2, q⟩ := h
   have hu := hr.units
   conv in (za _) => whnf
   with_reducible refine ⟨_, (da (Ca (i := 2) ‹sc.nd› ‹rfl› ‹Or.inl rfl› (Ba (wj ‹rfl›) ‹rfl› ‹T.b_max› Ql (aa ba (aa (Ba (Td ‹rfl›) ‹rfl› ‹T.b_min› ug (aa (pv 1) (aa ba ia))) ia)))) (da (Ca (i := 3) ‹sc.nd› ‹rfl› ‹Or.inl rfl› (pv 2)) (da (Ca (i := 4) ‹sc.nd› ‹rfl› ‹Or.inl rfl› (Yc ia)) (da (Cc PassesOwn.never ‹rfl› (Ld ‹rfl› ‹T.b_range› (aa (pe_c ‹C_l_take› ‹hr.mono (by decide)› ‹rfl› (aa (pv 0) (aa ba ia))) ia)) (Oa (i := 5) ‹sc.nd› ‹rfl› ‹Or.inl rfl›) (da (Ca (i := 6) ‹sc.nd› ‹rfl› ‹Or.inl rfl› (pe_c ‹C_l_step› ‹hr.mono (by decide)› ‹rfl› (aa (pv 0) (aa (pv 2) (aa (pv 3) (aa ba ia)))))) (Tf (La (ma (eqK (K := K) ‹rfl› ‹hu›) (pe_c ‹C_l_take› ‹hr.mono (by decide)› ‹rfl› (aa (pv 0) (aa ba ia))) ba ‹ra _›) (ja (Ca (i := 6) ‹sc.nd› ‹rfl› ‹Or.inl rfl› (pe_c ‹C_l_any_step› ‹hr.mono (by decide)› ‹rfl› (aa (pv 0) (aa (pv 2) (aa (pv 3) ia)))))) xa) (da (Mc (Xi ‹PySem.F.plainAttrs_list› ‹PySem.F.slot_list_append› ‹PySem.F.type_list_append› ‹Pb› (pv 4) (aa (pv 6) ia))) (ja (Ca (i := 3) ‹sc.nd› ‹rfl› ‹Or.inl rfl› (Ba (wj ‹rfl›) ‹rfl› ‹T.b_max› Ql (aa ba (aa (Ba (Td ‹rfl›) ‹rfl› ‹T.b_min› ug (aa (Ea (ixK (K := K) ‹rfl›) (pv 6) ba ‹fun _ _ => rfl›) (aa ba ia))) ia))))))))) (ja (ya (pv 4))))))), ?_⟩
   rw [show L2.start ["_law_draw", "_law_count", "_law_seats_here", "_law_bench", "_law_row", "_law_k", "_law_step_here"] [V.ref d, V.int c] = [some (V.ref d), some (V.int c), none, none, none, none, none] from rfl]
   left
   obtain ⟨s, hs, s1, s2⟩ : ∃ s : Nat, (if (if 500 < c then 500 else c) > 1 then (if 500 < c then 500 else c) else 1) = (s : Int) /\ 1 <= s /\ s <= 500 := ⟨((if (if 500 < c then 500 else c) > 1 then (if 500 < c then 500 else c) else 1)).toNat, by split <;> split <;> omega, by split <;> split <;> omega, by split <;> split <;> omega⟩
   intro a ha
   rw [hs]
   have Da := D.new (o := .lst []) ha
   have na := D.ne ha
   have Fa : Fr1 d H (upd H a (.lst [])) := (Fr1.refl d H).new ha
   have Ta : TsAt onO (upd H a (.lst [])) a [] [] := ⟨la, fun i p h => by simp at h, rfl⟩
   generalize upd H a (.lst []) = H0 at Da Fa Ta ⊢
   left
   refine Na Da (by omega) (by omega) fun g1 H1 g10 g11 D1 f1 => ?_
   have T1 := Ta.fr1 (fun q => by cases q <;> exact ⟨_, rfl⟩) Da na.1 f1
   left
   refine forR (fun i σ' H' => ∃ (b : Nat) (ps : List Addr) (os : List On) (x y : Option V), 1 <= b /\ b <= 500 /\ os.length = i /\ TsAt onO H' a ps os /\ DrL H' d l /\ Fr1 d H H' /\ σ' = [some (.ref d), some (.int c), some (.int s), some (.int b), some (.ref a), x, y]) (by omega) (by omega) ⟨s, [], [], none, none, s1, s2, rfl, T1, D1, Fa.trans f1, rfl⟩ ?_ ?_
   . rintro i σ' H' hi ⟨b, ps, os, x, y, b1, b2, ol, T', D', F', rfl⟩
     left
     refine Ff (m := 9) D' b1 b2 s1 s2 (by decide) (by decide) fun p H2 r D2 f2 hp => ?_
     have T2 := T'.fr1 (fun q => by cases q <;> exact ⟨_, rfl⟩) D' na.1 f2
     have F2 := F'.trans f2
     rw [rnOn_o] at hp
     left
     refine Bl (fun σ' H' => ∃ (p : Addr) (o : On), H' p = some (onO o) /\ TsAt onO H' a ps os /\ DrL H' d l /\ Fr1 d H H' /\ σ' = [some (.ref d), some (.int c), some (.int s), some (.int b), some (.ref a), some (.int i), some (.ref p)]) ?_ ?_
     . left
       refine Na D2 (by omega) (by omega) fun g2 H3 g20 g21 D3 f3 => ?_
       have T3 := T2.fr1 (fun q => by cases q <;> exact ⟨_, rfl⟩) D2 na.1 f3
       obtain ⟨xs0, e1, _⟩ := on_n (rnOn r)
       have hp3 := f3.get hp (dr_nt D2 (by rw [<- e1]; exact hp))
       left
       refine va (fun z => ?_) (fun z => ?_)
       . left
         refine Sj D3 b1 b2 s1 s2 fun p2 H4 o D4 f4 hp4 => ?_
         have T4 := T3.fr1 (fun q => by cases q <;> exact ⟨_, rfl⟩) D3 na.1 f4
         left
         exact ⟨p2, o, hp4, T4, D4, (F2.trans f3).trans f4, rfl⟩
       . left
         exact ⟨p, _, hp3, T3, D3, F2.trans f3, rfl⟩
     . rintro σ' H4 ⟨p2, o, hp4, T4, D4, F4, rfl⟩
       have pl4 := T4.ln
       obtain ⟨xs0, e1, e2⟩ := on_n o
       have npa : p2 ≠ a := by rw [e1] at hp4; exact Nd hp4 T4.ls zd
       left
       refine r_tyL T4.ls ?_
       left
       refine cf T4.ls (by rw [List.length_map, sizeLine_eq]; omega) ?_
       have T5 := T4.push (fun q => by cases q <;> exact ⟨_, rfl⟩) hp4
       have D5 := D4.upd (o := .lst (ps.map V.ref ++ [.ref p2])) na.1 na.2
       have hp5 := yb (o := .lst (ps.map V.ref ++ [.ref p2])) npa hp4
       have F5 : Fr1 d H (upd H4 a (.lst (ps.map V.ref ++ [.ref p2]))) := fun x u hx nx => by rw [wa (ka hx ha)]; exact F4 x u hx nx
       generalize upd H4 a (.lst (ps.map V.ref ++ [.ref p2])) = H5 at T5 D5 hp5 F5 ⊢
       left
       refine xb (xs := xs0) (by rw [<- e1]; exact hp5) e2 ?_
       left
       obtain ⟨b', hb', b1', b2'⟩ : ∃ b : Nat, (if (if 60 < o.n then 60 else o.n) > 1 then (if 60 < o.n then 60 else o.n) else 1) = (b : Int) /\ 1 <= b /\ b <= 500 := ⟨((if (if 60 < o.n then 60 else o.n) > 1 then (if 60 < o.n then 60 else o.n) else 1)).toNat, by split <;> split <;> omega, by split <;> split <;> omega, by split <;> split <;> omega⟩
       rw [hb']
       exact ⟨b', ps ++ [p2], os ++ [o], _, _, b1', b2', by rw [List.length_append, ol]; rfl, T5, D5, F5, rfl⟩
   . rintro σ' H' ⟨b, ps, os, x, y, b1, b2, ol, T', D', F', rfl⟩
     left
     exact q a _ ps os T' (by omega) D' F' ha
theorem gj {C_BallotError C_BadCount C_NoDraw C_NotWhole C_BadRound : Addr} (T : Txt K mg C_BallotError C_BadCount C_NoDraw C_NotWhole C_BadRound) (U : Up K mg "_law_fits" bf ["_law_count", "_law_bench", "_law_step_here"]) : yf P w K mg base := by
 have sc := Ii
 refine Callee.of (k := 0) U sc (fun vs H Q E h => ?_) (fun f cdv A outer s H vs Q E hr h => ?_)
 . obtain ⟨c, s, p, o, rfl, _⟩ := h; rfl
 . obtain ⟨c, s, p, o, rfl, hp, k⟩ := h
   have hu := hr.units
   conv in (za _) => whnf
   with_reducible refine ⟨_, (da (La (ma (eqK (K := K) ‹rfl› ‹hu›) (Ea (ixK (K := K) ‹rfl›) (pv 2) ba ‹fun _ _ => rfl›) Aa ‹ra _›) (ja (ya (Ie (Qa (leK (K := K) ‹rfl› ‹hu›) ba (Ea (ixK (K := K) ‹rfl›) (pv 2) ba ‹fun _ _ => rfl›) ‹ra _›) (Ie (Qa (leK (K := K) ‹rfl› ‹hu›) (Ea (ixK (K := K) ‹rfl›) (pv 2) ba ‹fun _ _ => rfl›) ba ‹ra _›) (Fe (Qa (leK (K := K) ‹rfl› ‹hu›) (Ea (ixK (K := K) ‹rfl›) (pv 2) ba ‹fun _ _ => rfl›) (pv 1) ‹ra _›)))))) xa) (da (La (PW.pt (Wb (ma (neK (K := K) ‹rfl› ‹hu›) (Ea (ixK (K := K) ‹rfl›) (pv 2) ba ‹fun _ _ => rfl›) Aa ‹ra _›) (Wb (ma (ltK (K := K) ‹rfl› ‹hu›) (Ea (ixK (K := K) ‹rfl›) (pv 2) ba ‹fun _ _ => rfl›) ba ‹ra _›) (Wb (ma df (Ea (ixK (K := K) ‹rfl›) (pv 2) ba ‹fun _ _ => rfl›) ba ‹ra _›) (Lb (ma df (Ea (ixK (K := K) ‹rfl›) (pv 2) ba ‹fun _ _ => rfl›) (pv 0) ‹ra _›)))))) (ja (ya Kg)) xa) (da (La (PW.pt (Wb (ma df (Ea (ixK (K := K) ‹rfl›) (pv 2) ba ‹fun _ _ => rfl›) (pv 1) ‹ra _›) (Lb (ma (leK (K := K) ‹rfl› ‹hu›) (Ka Ob ba (Ea (ixK (K := K) ‹rfl›) (pv 2) ba ‹fun _ _ => rfl›)) (pv 1) ‹ra _›)))) (ja (ya Kg)) xa) (da (La (ma (eqK (K := K) ‹rfl› ‹hu›) (Ea (ixK (K := K) ‹rfl›) (pv 2) ba ‹fun _ _ => rfl›) Aa ‹ra _›) (ja (ya (Qa (leK (K := K) ‹rfl› ‹hu›) (Ea (ixK (K := K) ‹rfl›) (pv 2) ba ‹fun _ _ => rfl›) (pv 1) ‹ra _›))) xa) (ja (ya (pe_or (Qa (eqK (K := K) ‹rfl› ‹hu›) (Ea (ixK (K := K) ‹rfl›) (pv 2) ba ‹fun _ _ => rfl›) Aa ‹ra _›) (Fe (Ie (Qa (eqK (K := K) ‹rfl› ‹hu›) (Ea (ixK (K := K) ‹rfl›) (pv 2) ba ‹fun _ _ => rfl›) Aa ‹ra _›) (Fe (Qa (eqK (K := K) ‹rfl› ‹hu›) (Ea (ixK (K := K) ‹rfl›) (pv 2) ba ‹fun _ _ => rfl›) (pv 1) ‹ra _›))))))))))), ?_⟩
   rw [show L2.start ["_law_count", "_law_bench", "_law_step_here"] [V.int c, V.int s, V.ref p] = [some (V.int c), some (V.int s), some (V.ref p)] from rfl]
   cases o with
   | lt b n =>
    have hp' : H p = some (.tup [.str (if b = true then "lot" else "lots"), .int n]) := hp
    cases b with
    | true =>
     left
     refine va (fun _ => ?_) (fun h1 => absurd rfl h1)
     left
     refine va (fun h1 => ?_) (fun h1 => ?_)
     . left
       refine va (fun h2 => ?_) (fun h2 => ?_)
       . left
         rw [show fitO c s (.lt true n) = decide (n <= s) from decide_eq_decide.mpr ⟨fun z => z.2.2.2, fun z => ⟨h1, h2, rfl, z⟩⟩] at k
         exact k
       . rw [show fitO c s (.lt true n) = false from decide_eq_false fun z => h2 z.2.1] at k
         exact k
     . rw [show fitO c s (.lt true n) = false from decide_eq_false fun z => h1 z.1] at k
       exact k
    | false =>
     left
     refine va (fun h1 => absurd h1 (by decide)) (fun _ => ?_)
     left
     rw [show fitO c s (.lt false n) = false from decide_eq_false fun z => by cases z.2.2.1] at k
     refine Rf (fun _ => ?_) (fun h1 => absurd h1 (by decide))
     left
     exact k
   | vt b n q w =>
    have hp' : H p = some (.tup [.str (if b = true then "vote" else "votes"), .int n, .int q, .str w]) := hp
    cases b with
    | false =>
     left
     refine va (fun h1 => absurd h1 (by decide)) (fun _ => ?_)
     left
     rw [Le (fun z => by cases z.2.2)] at k
     refine Rf (fun _ => ?_) (fun h1 => absurd h1 (by decide))
     left
     exact k
    | true =>
     left
     refine va (fun h1 => absurd h1 (by decide)) (fun _ => ?_)
     left
     refine Rf (fun h1 => absurd rfl h1) (fun _ => ?_)
     left
     refine va (fun h1 => ?_) (fun h1 => ?_)
     . left
       rw [Le (fun z => by have := z.1; omega)] at k
       exact k
     left
     refine va (fun h2 => ?_) (fun h2 => ?_)
     . left
       rw [Le (fun z => by have := z.2.1; omega)] at k
       exact k
     rw [Ll ⟨by omega, by omega⟩] at k
     left
     refine va (fun h3 => ?_) (fun h3 => ?_)
     . left
       rw [show fitV c s n q w = false from decide_eq_false fun z => by have := z.1; omega] at k
       exact k
     left
     refine va (fun h4 => ?_) (fun h4 => ?_)
     . left
       rw [show fitV c s n q w = false from decide_eq_false fun z => by have := z.2.2.1; omega] at k
       exact k
     left
     refine va (fun h5 => ?_) (fun h5 => ?_)
     . left
       rw [show fitV c s n q w = false from decide_eq_false fun z => by have := z.2.1; omega] at k
       exact k
     left
     refine va (fun h6 => ?_) (fun h6 => ?_)
     . left
       rw [Kl h6 (by omega) (by omega) (by omega)] at k
       exact k
     left
     by_cases h7 : w = "stay"
     . rw [Il h6 h7 (by omega) (by omega) (by omega)] at k
       refine va (fun h8 => absurd (h7.symm.trans h8) (by decide)) (fun _ => ?_)
       left
       refine va (fun _ => ?_) (fun h8 => absurd h7 h8)
       left
       exact k
     . rw [Jl h6 h7 (by omega) (by omega) (by omega)] at k
       refine va (fun h8 => ?_) (fun h8 => ?_)
       . rw [decide_eq_true h8] at k
         exact k
       . rw [decide_eq_false h8] at k
         left
         refine va (fun h9 => absurd h9 h7) (fun _ => ?_)
         exact k
theorem Ih {C_BallotError C_BadCount C_NoDraw C_NotWhole C_BadRound : Addr} (T : Txt K mg C_BallotError C_BadCount C_NoDraw C_NotWhole C_BadRound) (U : Up K mg "_law_fault" Fd ["_law_count", "_law_row"]) (C_l_fits : yf P w K mg base) : ae P w K mg base := by
 have sc := Dh
 refine Callee.of (k := 1) U sc (fun vs H Q E h => ?_) (fun f cdv A outer s H vs Q E hr h => ?_)
 . obtain ⟨c, a, ps, os, rfl, _⟩ := h; rfl
 . obtain ⟨c, a, ps, os, rfl, R, hl, q⟩ := h
   have hu := hr.units
   have pl := R.ln
   have wl := R.ls
   conv in (za _) => whnf
   with_reducible refine ⟨_, (da (La (PW.pt (Wb (ma (ltK (K := K) ‹rfl› ‹hu›) (pv 0) ba ‹ra _›) (Lb (ma df (pv 0) ba ‹ra _›)))) (ja (ya (Ra (aa Aa (aa Ge ia))))) xa) (da (Ca (i := 2) ‹sc.nd› ‹rfl› ‹Or.inl rfl› (pv 0)) (da (Cc PassesOwn.never ‹rfl› (Ld ‹rfl› ‹T.b_range› (aa (Ba (lenK (K := K) ‹rfl›) ‹rfl› ‹T.b_len› jd (aa (pv 1) ia)) ia)) (Oa (i := 3) ‹sc.nd› ‹rfl› ‹Or.inl rfl›) (da (La (Sf (truK (K := K) ‹rfl› (pe_c ‹C_l_fits› ‹hr.mono (by decide)› ‹rfl› (aa (pv 0) (aa (pv 2) (aa (Ea (ixK (K := K) ‹rfl›) (pv 1) (pv 3) ‹fun _ _ => rfl›) ia)))))) (ja (ya (Ra (aa Aa (aa (pv 3) ia))))) xa) (ja (Ca (i := 2) ‹sc.nd› ‹rfl› ‹Or.inl rfl› (Ea (ixK (K := K) ‹rfl›) (Ea (ixK (K := K) ‹rfl›) (pv 1) (pv 3) ‹fun _ _ => rfl›) ba ‹fun _ _ => rfl›))))) (ja (ya (Ra (aa Aa (aa (pv 2) ia)))))))), ?_⟩
   rw [show L2.start ["_law_count", "_law_row", "_law_bench", "_law_k"] [V.int c, V.ref a] = [some (V.int c), some (V.ref a), none, none] from rfl]
   left
   refine va (fun h1 => ?_) (fun h1 => ?_)
   . left
     intro p hp
     left
     refine q p _ hp ((Same.refl H).new hp) ?_
     rw [la]
     unfold Zb
     rw [if_pos (by omega)]
   left
   refine va (fun h2 => ?_) (fun h2 => ?_)
   . left
     intro p hp
     left
     refine q p _ hp ((Same.refl H).new hp) ?_
     rw [la]
     unfold Zb
     rw [if_pos (by omega)]
   left
   rw [List.length_map, pl]
   refine forR (fun i σ' H' => ∃ x : Option V, okTo c os i /\ H' = H /\ σ' = [some (.int c), some (.ref a), some (.int (ub c (os.take i))), x]) (by omega) (by omega) ⟨none, fun j o hj => absurd hj (Nat.not_lt_zero _), rfl, rfl⟩ ?_ ?_
   . rintro i σ' H' hi ⟨x, ok, rfl, rfl⟩
     have hil : i < os.length := by omega
     obtain ⟨p, o, hat, ho, hob⟩ := R.ix hil
     obtain ⟨xs, e1, e2⟩ := on_n o
     left
     refine Qf wl hat ?_
     left
     refine dh hob ?_
     cases ft : fitO c (ub c (os.take i)) o with
     | false =>
      left
      intro p2 hp2
      left
      refine q p2 _ hp2 ((Same.refl _).new hp2) ?_
      rw [la]
      have e := kf (k := 0) ok ho ft
      rw [Nat.zero_add] at e
      unfold Zb
      rw [if_neg (by omega), e]
     | true =>
      left
      refine Qf wl hat ?_
      left
      refine xb (xs := xs) (by rw [<- e1]; exact hob) e2 ?_
      left
      have en := BR.Cd ho
      refine ⟨some (.int i), fun j o' hj hj' => ?_, rfl, ?_⟩
      . by_cases z : j = i
        . subst z
          rw [ho] at hj'
          cases hj'
          exact ft
        . exact ok j o' (by omega) hj'
      . rw [en, Qc]; rfl
   . rintro σ' H' ⟨x, ok, rfl, rfl⟩
     left
     intro p hp
     left
     refine q p _ hp ((Same.refl _).new hp) ?_
     rw [la]
     have hn := mf (c := c) (os := os) (s := c) (k := 0) fun j o hj => ok j o (by have := (List.getElem?_eq_some_iff.mp hj).1; omega) hj
     unfold Zb
     rw [if_neg (by omega), hn, show (((os.length : Nat) : Int)).toNat = os.length from rfl, List.take_length]
theorem Hh {C_BallotError C_BadCount C_NoDraw C_NotWhole C_BadRound : Addr} (T : Txt K mg C_BallotError C_BadCount C_NoDraw C_NotWhole C_BadRound) (U : Up K mg "_law_seats" Ed ["_law_count", "_law_row"]) : Zd P w K mg base := by
 have sc := Bh
 refine Callee.of (k := 0) U sc (fun vs H Q E h => ?_) (fun f cdv A outer s H vs Q E hr h => ?_)
 . obtain ⟨c, a, ps, os, rfl, _⟩ := h; rfl
 . obtain ⟨c, a, ps, os, rfl, R, hl, q⟩ := h
   have hu := hr.units
   have pl := R.ln
   conv in (za _) => whnf
   with_reducible refine ⟨_, (ja (ya (Ka (addK (K := K) ‹rfl›) (Yc (aa (pv 0) ia)) (pe_lc [] ["_law_step_here"] [] (by with_unfolding_all rfl) ‹rfl› ‹rfl› (piLK (K := K) ‹rfl› (pv 1)) (by decide) ‹rfl› (by decide) ‹trivial› (by with_unfolding_all rfl) (fun _ => ‹trivial›) (fun _ _ _ _ => (Oa (i := 0) ‹show List.Nodup (["_law_step_here"] : List Str) from by decide +kernel› ‹rfl› ‹Or.inl rfl› ‹.inr rfl›)) (fun _ _ _ _ => Jg) (fun _ _ _ _ => (Ea (ixK (K := K) ‹rfl›) (pv 0) ba ‹fun _ _ => rfl›)))))), ?_⟩
   rw [show L2.start ["_law_count", "_law_row"] [V.int c, V.ref a] = [some (V.int c), some (V.ref a)] from rfl]
   left
   intro f hf
   have s1 : Same H (upd H f (.lst [.int c])) := (Same.refl H).new hf
   have w1 : upd H f (.lst [.int c]) f = some (.lst [.int c]) := la
   generalize upd H f (.lst [.int c]) = H1 at s1 w1 ⊢
   have R1 := R.same s1
   left
   refine compL (a := a) (xs := ps.map V.ref) [] (fun i ys H' => H' = H1 /\ ys = lstO (os.take i)) rfl (by rw [List.length_map, sizeLine_eq]; omega) ⟨rfl, rfl⟩ (fun i ys H' _ h => by obtain ⟨e, _⟩ := h; subst e; exact SqL.of R1.ls) (fun i ys H' h => by
    obtain ⟨_, e⟩ := h
    rw [e]
    unfold lstO
    rw [List.length_map, List.length_take]
    omega) ?_ ?_
   . rintro i v ys z H' hv ⟨e, rfl⟩
     subst e
     obtain ⟨p, o, rfl, hp, ho, hob⟩ := R1.get hv
     obtain ⟨xs, e1, e2⟩ := on_n o
     left
     refine xb (xs := xs) (by rw [<- e1]; exact hob) e2 ?_
     refine ⟨⟨rfl, ?_⟩, _, rfl⟩
     rw [BR.Cd ho]
     unfold lstO
     rw [List.map_append]
     rfl
   . rintro ys H' ⟨e, rfl⟩ D hD
     subst e
     rw [List.length_map, pl, List.take_length]
     have s2 := s1.new (o := .lst (lstO os)) hD
     have t2 := (Same.refl H').new (o := .lst (lstO os)) hD
     left
     refine Ni (xs := [.int c]) (ys := lstO os) (t2 _ _ w1) la (by unfold lstO; rw [List.length_map, sizeLine_eq]; simp only [List.length_cons, List.length_nil]; omega) ?_
     intro p2 hp2
     exact q p2 _ (s2.free hp2) (s2.new hp2) la
theorem pe {C_BallotError C_BadCount C_NoDraw C_NotWhole C_BadRound : Addr} (T : Txt K mg C_BallotError C_BadCount C_NoDraw C_NotWhole C_BadRound) (U : Up K mg "_law_any_count" Cb ["_law_draw"]) (C_l_take : Ib P w K mg base) : Jb P w K mg base := by
 have sc := je
 refine Callee.of (k := 1) U sc (fun vs H Q E h => ?_) (fun f cdv A outer s H vs Q E hr h => ?_)
 . obtain ⟨d, l, rfl, _⟩ := h; rfl
 . obtain ⟨d, l, rfl, D, q⟩ := h
   have hu := hr.units
   conv in (za _) => whnf
   with_reducible refine ⟨_, (ja (ya (Ea (ixK (K := K) ‹rfl›) (Ra (aa (Ka (addK (K := K) ‹rfl›) ba (pe_c ‹C_l_take› ‹hr.mono (by decide)› ‹rfl› (aa (pv 0) (aa ba ia)))) (aa (Ka (addK (K := K) ‹rfl›) ba (pe_c ‹C_l_take› ‹hr.mono (by decide)› ‹rfl› (aa (pv 0) (aa ba ia)))) (aa ba (aa (Ui Af ba) (aa ba (aa ba (aa ba ia)))))))) (pe_c ‹C_l_take› ‹hr.mono (by decide)› ‹rfl› (aa (pv 0) (aa ba ia))) ‹fun _ _ => rfl›))), ?_⟩
   rw [show L2.start ["_law_draw"] [V.ref d] = [some (V.ref d)] from rfl]
   left
   refine Na D (by omega) (by omega) fun g1 H1 g10 g11 D1 f1 => ?_
   left
   refine Na D1 (by omega) (by omega) fun g2 H2 g20 g21 D2 f2 => ?_
   left
   intro tp htp
   have D2' := D2.new (o := .tup [.int (1 + g1), .int (1 + g2), .int 0, .int (-1), .int 500, .int 501, .int 1]) htp
   have F2 := (f1.trans f2).new (o := .tup [.int (1 + g1), .int (1 + g2), .int 0, .int (-1), .int 500, .int 501, .int 1]) htp
   have w2 : upd H2 tp (.tup [.int (1 + g1), .int (1 + g2), .int 0, .int (-1), .int 500, .int 501, .int 1]) tp = some (.tup [.int (1 + g1), .int (1 + g2), .int 0, .int (-1), .int 500, .int 501, .int 1]) := la
   have ntp := (D2.ne htp).1
   generalize upd H2 tp (.tup [.int (1 + g1), .int (1 + g2), .int 0, .int (-1), .int 500, .int 501, .int 1]) = H2' at D2' F2 w2 ⊢
   left
   refine Na D2' (by omega) (by omega) fun g3 H3 g30 g31 D3 f3 => ?_
   obtain ⟨g, rfl⟩ : ∃ g : Nat, g3 = g := ⟨g3.toNat, by omega⟩
   obtain ⟨c, hc, c1, c2⟩ : ∃ c : Int, atI [V.int (1 + g1), V.int (1 + g2), V.int 0, V.int (-1), V.int 500, V.int 501, V.int 1] (g : Int) = some (.int c) /\ -1 <= c /\ c <= 501 := by
    match g, g31 with
    | 0, _ => exact ⟨_, rfl, by omega, by omega⟩
    | 1, _ => exact ⟨_, rfl, by omega, by omega⟩
    | 2, _ => exact ⟨0, rfl, by omega, by omega⟩
    | 3, _ => exact ⟨-1, rfl, by omega, by omega⟩
    | 4, _ => exact ⟨500, rfl, by omega, by omega⟩
    | 5, _ => exact ⟨501, rfl, by omega, by omega⟩
    | 6, _ => exact ⟨1, rfl, by omega, by omega⟩
    | g + 7, h => omega
   refine xb (f3.get w2 ntp) hc ?_
   exact q c _ c1 c2 D3 (F2.trans f3)
theorem Hk {C_BallotError C_BadCount C_NoDraw C_NotWhole C_BadRound : Addr} (T : Txt K mg C_BallotError C_BadCount C_NoDraw C_NotWhole C_BadRound) (U : Up K mg "_law_ask" Fg ["_law_count", "_law_row", "_law_way"]) (C_sizes : Yd P w K mg base C_BadCount C_BadRound) (C_whole : sf P w K mg base C_BadCount C_BadRound) (C_draws_row : Xa P w K mg base C_BadCount C_BadRound) (C_draws : Yg P w K mg base C_BadCount C_BadRound) (C_parted : uf P w K mg base C_BadCount C_BadRound) (C_put_together : wb P w K mg base C_BadCount C_BadRound) (C_shortened : vc P w K mg base C_BadCount C_BadRound) : Xg P w K mg base C_BadCount C_BadRound := by
 have sc := Xj
 refine Ma.of (k := 6) U sc (fun vs H Q E h => ?_) (fun f cdv A outer s H vs Q E hr h => ?_)
 . obtain ⟨c, a, w, ps, os, rfl, _⟩ := h; rfl
 . obtain ⟨c, a, w, ps, os, rfl, R, hl, d⟩ := h
   have hu := hr.units
   have wl := R.ls
   have pl := R.ln
   conv in (za _) => whnf
   with_reducible refine ⟨_, (da (La (ma (eqK (K := K) ‹rfl› ‹hu›) (pv 2) ba ‹ra _›) (ja (ya (Nb ‹C_sizes› Ua ‹hr.mono (by decide)› ‹rfl› (aa (pv 0) (aa (pv 1) ia))))) xa) (da (La (ma (eqK (K := K) ‹rfl› ‹hu›) (pv 2) ba ‹ra _›) (ja (ya (Nb ‹C_whole› Ua ‹hr.mono (by decide)› ‹rfl› (aa (pv 0) (aa (pv 1) ia))))) xa) (da (La (ma (eqK (K := K) ‹rfl› ‹hu›) (pv 2) ba ‹ra _›) (ja (ya (Nb ‹C_draws_row› Ua ‹hr.mono (by decide)› ‹rfl› (aa (pv 0) (aa (pv 1) ia))))) xa) (da (La (ma (eqK (K := K) ‹rfl› ‹hu›) (pv 2) ba ‹ra _›) (ja (ya (Nb ‹C_draws› Ua ‹hr.mono (by decide)› ‹rfl› (aa (pv 0) (aa (pv 1) ia))))) xa) (da (La (ma (eqK (K := K) ‹rfl› ‹hu›) (pv 2) ba ‹ra _›) (ja (ya (Nb ‹C_shortened› Ua ‹hr.mono (by decide)› ‹rfl› (aa (pv 0) (aa (pv 1) ia))))) xa) (da (La (ma (eqK (K := K) ‹rfl› ‹hu›) (pv 2) ba ‹ra _›) (ja (ya (Nb ‹C_parted› Ua ‹hr.mono (by decide)› ‹rfl› (aa (pv 0) (aa (pv 1) (aa ba ia)))))) xa) (ja (ya (Nb ‹C_put_together› Ua ‹hr.mono (by decide)› ‹rfl› (aa (pv 0) (aa (pv 1) (aa (Ka Ob (Yc (aa ba ia)) (Ba (lenK (K := K) ‹rfl›) ‹rfl› ‹T.b_len› jd (aa (pv 1) ia))) ia)))))))))))), ?_⟩
   rw [show L2.start ["_law_count", "_law_row", "_law_way"] [V.int c, V.ref a, V.int w] = [some (V.int c), some (V.ref a), some (V.int w)] from rfl]
   left
   refine va (fun _ => ?_) (fun _ => ?_)
   . left
     exact Ah R hl d
   left
   refine va (fun _ => ?_) (fun _ => ?_)
   . left
     exact zh R hl d
   left
   refine va (fun _ => ?_) (fun _ => ?_)
   . left
     exact Ub R hl d
   left
   refine va (fun _ => ?_) (fun _ => ?_)
   . left
     exact Ub R hl d
   left
   refine va (fun _ => ?_) (fun _ => ?_)
   . left
     exact Ub R hl d
   left
   refine va (fun _ => ?_) (fun _ => ?_)
   . left
     exact Hf R hl d
   left
   intro z hz
   have s1 := (Same.refl H).new (o := .lst [.int 0]) hz
   have w1 := s1 _ _ wl
   have z1 : upd H z (.lst [.int 0]) z = some (.lst [.int 0]) := la
   generalize upd H z (.lst [.int 0]) = H1 at s1 w1 z1 ⊢
   left
   refine r_repI z1 (by omega) (by rw [List.length_map]; omega) fun p hp => ?_
   left
   have s2 := s1.new (o := .lst ((List.replicate (((ps.map V.ref).length : Nat) : Int).toNat 0).map V.int)) hp
   exact Hf (R.same s2) hl (d.same s2)
theorem Yf {C_BallotError C_BadCount C_NoDraw C_NotWhole C_BadRound : Addr} (T : Txt K mg C_BallotError C_BadCount C_NoDraw C_NotWhole C_BadRound) (U : Up K mg "_law_refusal" cc ["_law_count", "_law_row", "_law_way"]) (C_l_ask : Xg P w K mg base C_BadCount C_BadRound) : wc P w K mg base := by
 have sc := Lf
 refine Callee.of (k := 7) U sc (fun vs H Q E h => ?_) (fun f cdv A outer s H vs Q E hr h => ?_)
 . obtain ⟨c, a, w, ps, os, rfl, _⟩ := h; rfl
 . obtain ⟨c, a, w, ps, os, rfl, R, hl, d, q⟩ := h
   have hu := hr.units
   conv in (za _) => whnf
   with_reducible refine ⟨_, (da (Ca (i := 3) ‹sc.nd› ‹rfl› ‹Or.inl rfl› (Ra (aa Aa (aa Ge ia)))) (da (ps_try (fun _ _ => (ja (Mc (Nb ‹C_l_ask› (Vl ⟨rfl, rfl⟩) ‹hr.mono (by decide)› ‹rfl› (aa (pv 0) (aa (pv 1) (aa (pv 2) ia))))))) (ph_as (i := 4) ‹sc.nd› ‹rfl› ‹rfl› (Yi ‹rfl› ‹T.c_BadRound›) (fun _ _ => (da (Ca (i := 3) ‹sc.nd› ‹rfl› ‹Or.inl rfl› (Ra (aa Aa (aa Ge ia)))) (ja (La (PW.pt (Wc (truK (K := K) ‹rfl› (Ba (isiE (K := K) ‹rfl›) ‹rfl› ‹T.b_isinstance› Ia (aa (pv 4) (aa (Wi ‹rfl› ‹T.c_BallotError›) ia)))) (nc (truK (K := K) ‹rfl› (Ba (isiE (K := K) ‹rfl›) ‹rfl› ‹T.b_isinstance› Ia (aa (pv 4) (aa (Oc ‹rfl› ‹T.b_ValueError› Ic (v := .ty "ValueError") ‹rfl›) ia))))))) (ja (Ca (i := 3) ‹sc.nd› ‹rfl› ‹Or.inl rfl› (Ra (aa Aa (aa (zk (K := K) ‹rfl› (pv 4)) ia))))) xa)))) (ph_as (i := 4) ‹sc.nd› ‹rfl› ‹rfl› (Yi ‹rfl› ‹T.c_BadCount›) (fun _ _ => (da (Ca (i := 3) ‹sc.nd› ‹rfl› ‹Or.inl rfl› (Ra (aa Aa (aa Ge ia)))) (ja (La (PW.pt (Wc (truK (K := K) ‹rfl› (Ba (isiE (K := K) ‹rfl›) ‹rfl› ‹T.b_isinstance› Ia (aa (pv 4) (aa (Wi ‹rfl› ‹T.c_BallotError›) ia)))) (Wc (truK (K := K) ‹rfl› (Ba (isiE (K := K) ‹rfl›) ‹rfl› ‹T.b_isinstance› Ia (aa (pv 4) (aa (Oc ‹rfl› ‹T.b_ValueError› Ic (v := .ty "ValueError") ‹rfl›) ia)))) (nc (Sf (truK (K := K) ‹rfl› (Ba (isiE (K := K) ‹rfl›) ‹rfl› ‹T.b_isinstance› Ia (aa (pv 4) (aa (Wi ‹rfl› ‹T.c_NotWhole›) ia))))))))) (ja (Ca (i := 3) ‹sc.nd› ‹rfl› ‹Or.inl rfl› (Ra (aa Aa (aa Ge ia))))) xa)))) ph_nil))) (ja (ya (pv 3))))), ?_⟩
   rw [show L2.start ["_law_count", "_law_row", "_law_way", "_law_told", "e"] [V.int c, V.ref a, V.int w] = [some (V.int c), some (V.ref a), some (V.int w), none, none] from rfl]
   left
   intro t0 ht0
   have s0 := (Same.refl H).new (o := .tup [.str "told", .non]) ht0
   generalize upd H t0 (.tup [.str "told", .non]) = H0 at s0 ⊢
   left
   refine Rj (R.same s0) hl ?_
   by_cases hc : c < 1 \/ 500 < c
   . refine .inl ⟨hc, fun H1 ea s1 hea => ⟨ea, rfl, r_asF T.x_BadCount_BadRound (r_as T.x_BadCount_BadCount ?_)⟩⟩
     left
     intro t1 ht1
     have x0 : upd H1 ea (ErrO ea (.ref C_BadCount)) ea = some (ErrO ea (.ref C_BadCount)) := la
     have z1 := yb (o := .tup [.str "else", .non]) (ka x0 ht1) x0
     have S1 := (s0.tr (s1.new hea)).new (o := .tup [.str "else", .non]) ht1
     generalize upd (upd H1 ea (ErrO ea (.ref C_BadCount))) t1 (.tup [.str "else", .non]) = H2 at S1 z1 ⊢
     left
     refine Mi z1 T.e_BadCount ClV.own T.i_BadCount_BallotError ?_
     left
     refine Mi z1 T.e_BadCount ClV.blt T.i_BadCount_ValueError ?_
     left
     refine Mi z1 T.e_BadCount ClV.own T.i_BadCount_NotWhole ?_
     left
     intro t2 ht2
     left
     refine q t2 _ (S1.free ht2) (S1.new ht2) ?_
     rw [la]
     unfold Zb
     rw [if_pos hc]
   . obtain ⟨k, hk⟩ : ∃ k, fltA c c 0 os = some k := by
      rcases d with d | d
      . exact absurd d hc
      . exact d
     refine .inr ⟨by omega, by omega, k, hk, fun H1 ea dx s1 h1 h2 h3 => ⟨ea, rfl, r_as T.x_BadRound_BadRound ?_⟩⟩
     left
     intro t1 ht1
     have y0 : upd (upd H1 dx (.xd [("at", .int k)])) ea (ErrO ea (.int C_BadRound dx)) dx = some (.xd [("at", .int k)]) := by rw [wa h3.symm]; exact la
     have x0 : upd (upd H1 dx (.xd [("at", .int k)])) ea (ErrO ea (.int C_BadRound dx)) ea = some (ErrO ea (.int C_BadRound dx)) := la
     have S0 := ((s0.tr s1).new (o := .xd [("at", .int k)]) h2).new (o := ErrO ea (.int C_BadRound dx)) (by rw [wa h3]; exact h1)
     have y1 := yb (o := .tup [.str "else", .non]) (ka y0 ht1) y0
     have x1 := yb (o := .tup [.str "else", .non]) (ka x0 ht1) x0
     have S1 := S0.new (o := .tup [.str "else", .non]) ht1
     generalize upd (upd (upd H1 dx (.xd [("at", .int k)])) ea (ErrO ea (.int C_BadRound dx))) t1 (.tup [.str "else", .non]) = H2 at S1 y1 x1 ⊢
     left
     refine Dl x1 T.e_BadRound ClV.own T.i_BadRound_BallotError ?_
     left
     refine Dl x1 T.e_BadRound ClV.blt T.i_BadRound_ValueError ?_
     left
     refine ⟨ea, C_BadRound, dx, _, k, rfl, x1, y1, rfl, T.e_BadRound, T.f_BadRound, T.d_BadRound, ?_⟩
     left
     intro t2 ht2
     left
     refine q t2 _ (S1.free ht2) (S1.new ht2) ?_
     rw [la]
     unfold Zb
     rw [if_neg hc, hk]
theorem ok_law {C_BallotError C_BadCount C_NoDraw C_NotWhole C_BadRound : Addr} (T : Txt K mg C_BallotError C_BadCount C_NoDraw C_NotWhole C_BadRound) {f : Addr} {fd : FuncData} (U : Fun K "law" "law" ak f fd) (C_sizes : Yd P w K mg base C_BadCount C_BadRound) (C_whole : sf P w K mg base C_BadCount C_BadRound) (C_l_begin : de P w K mg base) (C_l_take : Ib P w K mg base) (C_l_int : xf P w K mg base) (C_l_ints : vf P w K mg base) (C_l_odd_row : xc P w K mg base) (C_l_fault : ae P w K mg base) (C_l_seats : Zd P w K mg base) (C_l_any_count : Jb P w K mg base) (C_l_refusal : wc P w K mg base) : FnOk P w K mg base CX0 9 f fd ["_law_script"] (vi K) := by
 have sc := sc_law
 refine U.ok (k := 8) sc (fun vs H Q E h => ?_) (fun cdv A outer s H vs Q E hr h => ?_)
 . exact ui h
 . obtain ⟨a, ns, rfl, hS, hn, q⟩ := h
   have hu := hr.units
   conv in (za _) => whnf
   with_reducible refine ⟨_, (da (Ca (i := 1) ‹sc.nd› ‹rfl› ‹Or.inl rfl› (pe_c ‹C_l_begin› ‹hr.mono (by decide)› ‹rfl› (aa (pv 0) ia))) (da (Ca (i := 2) ‹sc.nd› ‹rfl› ‹Or.inl rfl› (pe_c ‹C_l_any_count› ‹hr.mono (by decide)› ‹rfl› (aa (pv 1) ia))) (da (Ca (i := 3) ‹sc.nd› ‹rfl› ‹Or.inl rfl› (pe_c ‹C_l_odd_row› ‹hr.mono (by decide)› ‹rfl› (aa (pv 1) (aa (pv 2) ia)))) (da (Xc (pe_c ‹C_l_fault› ‹hr.mono (by decide)› ‹rfl› (aa (pv 2) (aa (pv 3) ia))) (Th (K := K) (n := 2) ‹rfl› ‹rfl› (Sa (Oa (i := 4) ‹sc.nd› ‹rfl› ‹Or.inl rfl›) (Sa (Oa (i := 5) ‹sc.nd› ‹rfl› ‹Or.inl rfl›) Nc)))) (da (Ca (i := 6) ‹sc.nd› ‹rfl› ‹Or.inl rfl› (Dc (listK (K := K) ‹rfl›) ‹rfl› ‹T.b_list› Tg (aa (pv 3) ia))) (da (La (ma (neK (K := K) ‹rfl› ‹hu›) (pv 4) Aa ‹ra _›) (da (Cc PassesOwn.never ‹rfl› (piTK (K := K) ‹rfl› (Ra (aa ba (aa ba (aa (Ka (addK (K := K) ‹rfl›) ba (pe_c ‹C_l_take› ‹hr.mono (by decide)› ‹rfl› (aa (pv 1) (aa ba ia)))) ia))))) (Oa (i := 7) ‹sc.nd› ‹rfl› ‹Or.inl rfl›) (da (Ca (i := 8) ‹sc.nd› ‹rfl› ‹Or.inl rfl› (pe_c ‹C_l_refusal› ‹hr.mono (by decide)› ‹rfl› (aa (pv 2) (aa (pv 6) (aa (pv 7) ia))))) (ja (La (PW.pt (Wb (ma (neK (K := K) ‹rfl› ‹hu›) (pv 8) (Ra (aa (pv 4) (aa (pv 5) ia))) ‹ra _›) (Lb (PW.pt (Wc (ma Ak (pv 5) Ge ‹ra _›) (nc (Sf (truK (K := K) ‹rfl› (pe_c ‹C_l_int› ‹hr.mono (by decide)› ‹rfl› (aa (Ea (ixK (K := K) ‹rfl›) (pv 8) ba ‹fun _ _ => rfl›) ia)))))))))) (ja (ya Kg)) xa)))) (ja (ya (Qa (eqK (K := K) ‹rfl› ‹hu›) (pv 6) (pv 3) ‹ra _›)))) xa) (da (Ca (i := 9) ‹sc.nd› ‹rfl› ‹Or.inl rfl› (Nb ‹C_sizes› gi ‹hr.mono (by decide)› ‹rfl› (aa (pv 2) (aa (pv 6) ia)))) (da (La (PW.pt (Wb (Sf (truK (K := K) ‹rfl› (pe_c ‹C_l_ints› ‹hr.mono (by decide)› ‹rfl› (aa (pv 9) ia)))) (Wb (ma (neK (K := K) ‹rfl› ‹hu›) (pv 9) (yk (slK (K := K) ‹rfl›) (pe_c ‹C_l_seats› ‹hr.mono (by decide)› ‹rfl› (aa (pv 2) (aa (pv 3) ia))) (Dm ba) Em) ‹ra _›) (Lb (ma (neK (K := K) ‹rfl› ‹hu›) (pv 6) (pv 3) ‹ra _›))))) (ja (ya Kg)) xa) (da (Ca (i := 10) ‹sc.nd› ‹rfl› ‹Or.inl rfl› (Nb ‹C_whole› gi ‹hr.mono (by decide)› ‹rfl› (aa (pv 2) (aa (pv 6) ia)))) (ja (ya (Ie (Ba (isiK (K := K) ‹rfl›) ‹rfl› ‹T.b_isinstance› Ia (aa (pv 10) (aa (Oc ‹rfl› ‹T.b_bool› Ej (v := .ty "bool") ‹rfl›) ia))) (Fe (Qa (eqK (K := K) ‹rfl› ‹hu›) (pv 10) (Qa (eqK (K := K) ‹rfl› ‹hu›) (pv 5) ba ‹ra _›) ‹ra _›)))))))))))))), ?_⟩
   rw [show L2.start ["_law_script", "_law_draw", "_law_count", "_law_row", "_law_fault_here", "_law_at", "_law_handed", "_law_way", "_law_told", "_law_found", "_law_ends"] [V.ref a] = [some (V.ref a), none, none, none, none, none, none, none, none, none, none] from rfl]
   left
   refine Bi hS fun d l H1 hd hl D1 s1 => ?_
   left
   refine Tj D1 fun c H2 c1 c2 D2 f2 => ?_
   left
   refine Oj D2 c1 c2 fun b H3 ps os R3 ol D3 f3 hb => ?_
   have nb : b ≠ d := (D2.ne hb).1
   have pl := R3.ln
   left
   refine zi R3 (by omega) fun tf H4 htf s4 w4 => ?_
   have R4 := R3.same s4
   have D4 := D3.same s4
   have hob : ∀ q : On, ∃ xs, onO q = .tup xs := fun q => by cases q <;> exact ⟨_, rfl⟩
   have key : ((c < 1 \/ 500 < c) \/ ∃ k, fltA c c 0 os = some k) /\ (∃ fs fa, Zb c os = [.str fs, fa] /\ ¬ fs = "" /\ (fa = .non \/ ∃ k : Int, fa = .int k)) \/ (1 <= c /\ c <= 500 /\ fltA c c 0 os = none) := by
    by_cases hc : c < 1 \/ 500 < c
    . exact .inl ⟨.inl hc, "count", .non, by unfold Zb; rw [if_pos hc], by decide, .inl rfl⟩
    . cases fl : fltA c c 0 os with
      | some k => exact .inl ⟨.inr ⟨k, rfl⟩, "round", .int k, by unfold Zb; rw [if_neg hc, fl], by decide, .inr ⟨k, rfl⟩⟩
      | none => exact .inr ⟨by omega, by omega, rfl⟩
   rcases key with ⟨due, fs, fa, e4, hfs, hfa⟩ | ⟨ca, cb, fl⟩
   . rw [e4] at w4
     have ffa : md fa = true := by rcases hfa with rfl | ⟨k, rfl⟩ <;> rfl
     left
     refine Hg (SqL.of R4.ls) ?_
     intro hx hhx
     have s5 := (Same.refl H4).new (o := .lst (ps.map V.ref)) hhx
     have w5 : TsAt onO (upd H4 hx (.lst (ps.map V.ref))) hx ps os := R4.lay hhx
     generalize upd H4 hx (.lst (ps.map V.ref)) = H5 at s5 w5 ⊢
     have R5 := R4.same s5
     have D5 := D4.same s5
     have nhx : hx ≠ d := (D4.ne hhx).1
     left
     refine Rf (fun _ => ?_) (fun z => absurd z hfs)
     left
     refine Na D5 (by omega) (by omega) fun g1 H6 g10 g11 D6 f6 => ?_
     have R6 := R5.fr1 hob D5 nb f6
     have w6 := w5.fr1 hob D5 nhx f6
     left
     intro tw htw
     have s7 := (Same.refl H6).new (o := .tup [.int 0, .int 1, .int (2 + g1)]) htw
     have w7 : upd H6 tw (.tup [.int 0, .int 1, .int (2 + g1)]) tw = some (.tup [.int 0, .int 1, .int (2 + g1)]) := la
     generalize upd H6 tw (.tup [.int 0, .int 1, .int (2 + g1)]) = H7 at s7 w7 ⊢
     refine forT (a := tw) (xs := [.int 0, .int 1, .int (2 + g1)]) (fun i σ' H' => ∃ x y : Option V, Same H7 H' /\ σ' = [some (.ref a), some (.ref d), some (.int c), some (.ref b), some (.str fs), some fa, some (.ref hx), x, y, none, none]) ⟨none, none, Same.refl _, rfl⟩ (fun i σ' H' _ h => by obtain ⟨_, _, s, _⟩ := h; exact SqT.of (s _ _ w7)) ?_ ?_
     . rintro i v σ' H' hi ⟨x, y, s8, rfl⟩
       obtain ⟨w, rfl⟩ : ∃ w : Int, v = .int w := by
        match i, hi with
        | 0, hi => exact ⟨_, (Option.some.inj hi).symm⟩
        | 1, hi => exact ⟨_, (Option.some.inj hi).symm⟩
        | 2, hi => exact ⟨_, (Option.some.inj hi).symm⟩
        | i + 3, hi => simp at hi
       have w8 := (w6.same s7).same s8
       left
       refine Nj w8 (by omega) due fun tt H9 htt s9 w9 => ?_
       rw [e4] at w9
       left
       intro tu htu
       have s10 := (Same.refl H9).new (o := .tup [.str fs, fa]) htu
       have w10 : upd H9 tu (.tup [.str fs, fa]) tu = some (.tup [.str fs, fa]) := la
       generalize upd H9 tu (.tup [.str fs, fa]) = H10 at s10 w10 ⊢
       have w9' := s10 _ _ w9
       refine qm rfl ffa w9' w10 ?_
       rcases hfa with rfl | ⟨k, rfl⟩
       . left
         exact ⟨_, _, (s8.tr s9).tr s10, rfl⟩
       . left
         refine xi ?_
         left
         exact ⟨_, _, (s8.tr s9).tr s10, rfl⟩
     . rintro σ' H' ⟨x, y, s8, rfl⟩
       left
       exact r_eqOn ((w6.same s7).same s8) ((R6.same s7).same s8) (q _)
   . have e4 : Zb c os = [.str "", .int (ub c os)] := by unfold Zb; rw [if_neg (by omega), fl]
     rw [e4] at w4
     left
     refine Hg (SqL.of R4.ls) ?_
     intro hx hhx
     have s5 := (Same.refl H4).new (o := .lst (ps.map V.ref)) hhx
     have w5 : TsAt onO (upd H4 hx (.lst (ps.map V.ref))) hx ps os := R4.lay hhx
     generalize upd H4 hx (.lst (ps.map V.ref)) = H5 at s5 w5 ⊢
     have R5 := R4.same s5
     left
     refine Rf (fun z => absurd rfl z) (fun _ => ?_)
     left
     refine Lc w5 (by omega) (fun h => by omega) fun _ _ => ⟨fun k hk => (by rw [fl] at hk; cases hk), fun _ pz H6 hpz s6 w6 => ?_⟩
     rw [kh] at w6
     left
     refine Pj w6 (by rw [List.length_map]; omega) fun H7 s7 => ?_
     have S7 := s6.tr s7
     left
     refine qi (R5.same S7) (by omega) fun pq H8 hpq s8 w8 => ?_
     have S8 := S7.tr s8
     left
     refine r_sl2L w8 fun pr hpr => ?_
     have ec : cutV (.int c :: lstO os) (some 1) none = (os.map On.n).map V.int := (cutF (xs := .int c :: lstO os) (i := 1) (Nat.le_add_left 1 _)).trans (by rw [<- kh]; rfl)
     rw [ec]
     have s9 := (Same.refl H8).new (o := .lst ((os.map On.n).map V.int)) hpr
     have w9 : upd H8 pr (.lst ((os.map On.n).map V.int)) pr = some (.lst ((os.map On.n).map V.int)) := la
     generalize upd H8 pr (.lst ((os.map On.n).map V.int)) = H9 at s9 w9 ⊢
     have S9 := S8.tr s9
     refine r_neLI (s9 _ _ (s8 _ _ (s7 _ _ w6))) w9 ?_
     rw [decide_eq_true rfl]
     left
     refine r_neOn (w5.same S9) (R5.same S9) ?_
     left
     refine Ae (w5.same S9) (by omega) (fun h => by omega) fun _ _ => ⟨fun k hk => (by rw [fl] at hk; cases hk), fun _ H10 s10 => ?_⟩
     left
     rw [beq_self_eq_true]
     exact q _
inductive Dn (K : PySem.W.Frag) (x : Str) (st : Stmt) : Prop
 | mk {f : Addr} {od an : Option Addr} {sl : Array (Option Value)} {oc kV dc pm cd ct : Value} (a : PySem.W.nsIn K mainGlobals x = some (some (.ref f))) (l : K.lookup f = some ⟨oc, od, .func (PySem.W.fnOf x x (Gb st) (za st) (ua st) .none kV dc pm an cd ct), sl⟩) (c : PySem.W.codeIn K cd x = true) (k : PySem.W.keepIn K (.ref f) = true) : Dn K x st
theorem Dn.up {h : Heap} {x : Str} {st : Stmt} (D : Dn K x st) (X : K.In h) (G : h.Ns mainGlobals mg) {ps : List Str} (b : ∀ (kV doc pm : Value) (an : Option Addr) (cdv ct : Value) (us : List Value), us.length = ps.length -> bindArgs (PySem.W.fnOf x x (Gb st) (za st) (ua st) .none kV doc pm an cdv ct) ⟨us, []⟩ = pure (ps.zip us)) : Up K mg x st ps := by
 cases D with
 | mk a l c k => exact up_mk X G a l c k b
theorem all_mk {l : PySem.W.OpenLaw} {w : World} {K : PySem.W.Frag} {h : Heap} {mg : Str -> Option Value} {fa : Addr} (X : K.In h) (G : h.Ns mainGlobals mg) (hfa : mg "law" = some (.ref fa))
 (D0 : Dn K "ways" Ji)
 (D1 : Dn K "fits_vote" jc)
 (D2 : Dn K "fits" Ki)
 (D3 : Dn K "sizes" Dg)
 (D4 : Dn K "sizes_ahead" Ab)
 (D5 : Dn K "whole" Cg)
 (D6 : Dn K "round_draws" Bb)
 (D7 : Dn K "draws_row" kc)
 (D8 : Dn K "draws" Gg)
 (D9 : Dn K "parted" Xe)
 (D10 : Dn K "put_together" rb)
 (D11 : Dn K "shortened" bc)
 (D12 : Dn K "_law_begin" Gd)
 (D13 : Dn K "_law_take" Ye)
 (D14 : Dn K "_law_int" Eg)
 (D15 : Dn K "_law_ints" af)
 (D16 : Dn K "_law_step" Ze)
 (D17 : Dn K "_law_any_step" Mb)
 (D18 : Dn K "_law_odd_row" gc)
 (D19 : Dn K "_law_fits" bf)
 (D20 : Dn K "_law_fault" Fd)
 (D21 : Dn K "_law_seats" Ed)
 (D22 : Dn K "_law_any_count" Cb)
 (D23 : Dn K "_law_ask" Fg)
 (D24 : Dn K "_law_refusal" cc)
 (D25 : Dn K "law" ak)
 (z_ValueError : PySem.W.nsIn K mainGlobals "ValueError" = some none)
 (z_abs : PySem.W.nsIn K mainGlobals "abs" = some none)
 (z_all : PySem.W.nsIn K mainGlobals "all" = some none)
 (z_bool : PySem.W.nsIn K mainGlobals "bool" = some none)
 (z_divmod : PySem.W.nsIn K mainGlobals "divmod" = some none)
 (z_enumerate : PySem.W.nsIn K mainGlobals "enumerate" = some none)
 (z_int : PySem.W.nsIn K mainGlobals "int" = some none)
 (z_isinstance : PySem.W.nsIn K mainGlobals "isinstance" = some none)
 (z_len : PySem.W.nsIn K mainGlobals "len" = some none)
 (z_list : PySem.W.nsIn K mainGlobals "list" = some none)
 (z_max : PySem.W.nsIn K mainGlobals "max" = some none)
 (z_min : PySem.W.nsIn K mainGlobals "min" = some none)
 (z_range : PySem.W.nsIn K mainGlobals "range" = some none)
 (z_zip : PySem.W.nsIn K mainGlobals "zip" = some none)
 {t_MOST_PEOPLE : Tok} (m_MOST_PEOPLE : PySem.W.nsIn K mainGlobals "MOST_PEOPLE" = some (some (.int 500 t_MOST_PEOPLE)))
 {t_MOST_SEATS : Tok} (m_MOST_SEATS : PySem.W.nsIn K mainGlobals "MOST_SEATS" = some (some (.int 60 t_MOST_SEATS)))
 {C_BallotError : Addr} (g0_0 : PySem.W.nsIn K mainGlobals "BallotError" = some (some (.ref C_BallotError))) (g0_2 : PySem.W.findIn K (.ref C_BallotError) "__getattribute__" = some (some (.builtin "BaseException.__getattribute__"))) (g0_3 : PySem.W.findIn K (.ref C_BallotError) "__getattr__" = some none) (g0_4 : PySem.W.findIn K (.ref C_BallotError) "__class__" = some (some (.builtin "object.__class__"))) (g0_5 : PySem.W.mroIn K C_BallotError (.type "BaseException") = some true) (g0_6 : PySem.W.mroIn K C_BallotError (.type "object") = some true)
 {C_BadCount : Addr} (g1_0 : PySem.W.nsIn K mainGlobals "BadCount" = some (some (.ref C_BadCount))) (g1_2 : PySem.W.findIn K (.ref C_BadCount) "__getattribute__" = some (some (.builtin "BaseException.__getattribute__"))) (g1_3 : PySem.W.findIn K (.ref C_BadCount) "__getattr__" = some none) (g1_4 : PySem.W.findIn K (.ref C_BadCount) "__class__" = some (some (.builtin "object.__class__"))) (g1_5 : PySem.W.mroIn K C_BadCount (.type "BaseException") = some true) (g1_6 : PySem.W.mroIn K C_BadCount (.type "object") = some true)
 {C_NoDraw : Addr} (g2_0 : PySem.W.nsIn K mainGlobals "NoDraw" = some (some (.ref C_NoDraw))) (g2_2 : PySem.W.findIn K (.ref C_NoDraw) "__getattribute__" = some (some (.builtin "BaseException.__getattribute__"))) (g2_3 : PySem.W.findIn K (.ref C_NoDraw) "__getattr__" = some none) (g2_4 : PySem.W.findIn K (.ref C_NoDraw) "__class__" = some (some (.builtin "object.__class__"))) (g2_5 : PySem.W.mroIn K C_NoDraw (.type "BaseException") = some true) (g2_6 : PySem.W.mroIn K C_NoDraw (.type "object") = some true)
 {C_NotWhole : Addr} (g3_0 : PySem.W.nsIn K mainGlobals "NotWhole" = some (some (.ref C_NotWhole))) (g3_2 : PySem.W.findIn K (.ref C_NotWhole) "__getattribute__" = some (some (.builtin "BaseException.__getattribute__"))) (g3_3 : PySem.W.findIn K (.ref C_NotWhole) "__getattr__" = some none) (g3_4 : PySem.W.findIn K (.ref C_NotWhole) "__class__" = some (some (.builtin "object.__class__"))) (g3_5 : PySem.W.mroIn K C_NotWhole (.type "BaseException") = some true) (g3_6 : PySem.W.mroIn K C_NotWhole (.type "object") = some true)
 {C_BadRound : Addr} (g4_0 : PySem.W.nsIn K mainGlobals "BadRound" = some (some (.ref C_BadRound))) (g4_2 : PySem.W.findIn K (.ref C_BadRound) "__getattribute__" = some (some (.builtin "BaseException.__getattribute__"))) (g4_3 : PySem.W.findIn K (.ref C_BadRound) "__getattr__" = some none) (g4_4 : PySem.W.findIn K (.ref C_BadRound) "__class__" = some (some (.builtin "object.__class__"))) (g4_5 : PySem.W.mroIn K C_BadRound (.type "BaseException") = some true) (g4_6 : PySem.W.mroIn K C_BadRound (.type "object") = some true)
 (h_q_BallotError : PySem.W.excIn K C_BallotError bmV "ValueError.__new__" = true)
 (h_q_BadCount : PySem.W.excIn K C_BadCount bmV "ValueError.__new__" = true)
 (h_q_NoDraw : PySem.W.excIn K C_NoDraw bmV "ValueError.__new__" = true)
 (h_q_NotWhole : PySem.W.excIn K C_NotWhole bmV "ValueError.__new__" = true)
 (h_I_BadRound : Zh K C_BadRound C_BallotError)
 (h_f_BadRound : PySem.W.findIn K (.ref C_BadRound) "at" = some none)
 (h_d_BadRound : PySem.W.hasDictIn K C_BadRound = true)
 (h_x_BallotError_BadCount : PySem.W.exmOne K (.ref C_BallotError) (.ref C_BadCount) = some false)
 (h_x_BallotError_BadRound : PySem.W.exmOne K (.ref C_BallotError) (.ref C_BadRound) = some false)
 (h_i_BallotError_BallotError : PySem.W.kitOne K (.ref C_BallotError) (.ref C_BallotError) = some true)
 (h_i_BallotError_NotWhole : PySem.W.kitOne K (.ref C_BallotError) (.ref C_NotWhole) = some false)
 (h_i_BallotError_ValueError : PySem.W.kitOne K (.ref C_BallotError) (.type "ValueError") = some true)
 (h_x_BadCount_BadCount : PySem.W.exmOne K (.ref C_BadCount) (.ref C_BadCount) = some true)
 (h_x_BadCount_BadRound : PySem.W.exmOne K (.ref C_BadCount) (.ref C_BadRound) = some false)
 (h_i_BadCount_BallotError : PySem.W.kitOne K (.ref C_BadCount) (.ref C_BallotError) = some true)
 (h_i_BadCount_NotWhole : PySem.W.kitOne K (.ref C_BadCount) (.ref C_NotWhole) = some false)
 (h_i_BadCount_ValueError : PySem.W.kitOne K (.ref C_BadCount) (.type "ValueError") = some true)
 (h_x_NoDraw_BadCount : PySem.W.exmOne K (.ref C_NoDraw) (.ref C_BadCount) = some false)
 (h_x_NoDraw_BadRound : PySem.W.exmOne K (.ref C_NoDraw) (.ref C_BadRound) = some false)
 (h_i_NoDraw_BallotError : PySem.W.kitOne K (.ref C_NoDraw) (.ref C_BallotError) = some true)
 (h_i_NoDraw_NotWhole : PySem.W.kitOne K (.ref C_NoDraw) (.ref C_NotWhole) = some false)
 (h_i_NoDraw_ValueError : PySem.W.kitOne K (.ref C_NoDraw) (.type "ValueError") = some true)
 (h_x_NotWhole_BadCount : PySem.W.exmOne K (.ref C_NotWhole) (.ref C_BadCount) = some false)
 (h_x_NotWhole_BadRound : PySem.W.exmOne K (.ref C_NotWhole) (.ref C_BadRound) = some false)
 (h_i_NotWhole_BallotError : PySem.W.kitOne K (.ref C_NotWhole) (.ref C_BallotError) = some true)
 (h_i_NotWhole_NotWhole : PySem.W.kitOne K (.ref C_NotWhole) (.ref C_NotWhole) = some true)
 (h_i_NotWhole_ValueError : PySem.W.kitOne K (.ref C_NotWhole) (.type "ValueError") = some true)
 (h_x_BadRound_BadCount : PySem.W.exmOne K (.ref C_BadRound) (.ref C_BadCount) = some false)
 (h_x_BadRound_BadRound : PySem.W.exmOne K (.ref C_BadRound) (.ref C_BadRound) = some true)
 (h_i_BadRound_BallotError : PySem.W.kitOne K (.ref C_BadRound) (.ref C_BallotError) = some true)
 (h_i_BadRound_NotWhole : PySem.W.kitOne K (.ref C_BadRound) (.ref C_NotWhole) = some false)
 (h_i_BadRound_ValueError : PySem.W.kitOne K (.ref C_BadRound) (.type "ValueError") = some true)
 : ∃ fd : FuncData, (∀ (s : Shared) (v : Value), BindsTo s fd ⟨[v], []⟩ [("_law_script", v)]) /\ ∀ base : Heap, K.In base -> base.Ns mainGlobals mg -> FnOk l.prog w K mg base CX0 9 fa fd ["_law_script"] (vi K) := by
 have T : Txt K mg C_BallotError C_BadCount C_NoDraw C_NotWhole C_BadRound := ⟨PySem.W.mg_none_of X G z_ValueError, PySem.W.mg_none_of X G z_abs, PySem.W.mg_none_of X G z_all, PySem.W.mg_none_of X G z_bool, PySem.W.mg_none_of X G z_divmod, PySem.W.mg_none_of X G z_enumerate, PySem.W.mg_none_of X G z_int, PySem.W.mg_none_of X G z_isinstance, PySem.W.mg_none_of X G z_len, PySem.W.mg_none_of X G z_list, PySem.W.mg_none_of X G z_max, PySem.W.mg_none_of X G z_min, PySem.W.mg_none_of X G z_range, PySem.W.mg_none_of X G z_zip, ⟨_, PySem.W.mg_of X G m_MOST_PEOPLE⟩, ⟨_, PySem.W.mg_of X G m_MOST_SEATS⟩, PySem.W.mg_of X G g0_0, ⟨g0_2, g0_3, g0_4, g0_5, g0_6⟩, h_q_BallotError, PySem.W.mg_of X G g1_0, ⟨g1_2, g1_3, g1_4, g1_5, g1_6⟩, h_q_BadCount, PySem.W.mg_of X G g2_0, ⟨g2_2, g2_3, g2_4, g2_5, g2_6⟩, h_q_NoDraw, PySem.W.mg_of X G g3_0, ⟨g3_2, g3_3, g3_4, g3_5, g3_6⟩, h_q_NotWhole, PySem.W.mg_of X G g4_0, ⟨g4_2, g4_3, g4_4, g4_5, g4_6⟩, h_I_BadRound, h_f_BadRound, h_d_BadRound, h_x_BallotError_BadCount, h_x_BallotError_BadRound, h_i_BallotError_BallotError, h_i_BallotError_NotWhole, h_i_BallotError_ValueError, h_x_BadCount_BadCount, h_x_BadCount_BadRound, h_i_BadCount_BallotError, h_i_BadCount_NotWhole, h_i_BadCount_ValueError, h_x_NoDraw_BadCount, h_x_NoDraw_BadRound, h_i_NoDraw_BallotError, h_i_NoDraw_NotWhole, h_i_NoDraw_ValueError, h_x_NotWhole_BadCount, h_x_NotWhole_BadRound, h_i_NotWhole_BallotError, h_i_NotWhole_NotWhole, h_i_NotWhole_ValueError, h_x_BadRound_BadCount, h_x_BadRound_BadRound, h_i_BadRound_BallotError, h_i_BadRound_NotWhole, h_i_BadRound_ValueError⟩
 have U_law : Up K mg "law" ak ["_law_script"] := D25.up X G fun _ _ _ _ _ _ us hl => match us, hl with | [_], _ => rfl
 refine law_fn U_law hfa (fun base kb nb f fd F => ?_) (fun _ _ _ _ _ _ s u => .of_eq rfl)
 have C_ways : Ij l.prog w K mg base := Nm T (D0.up X G fun _ _ _ _ _ _ us hl => match us, hl with | [_, _], _ => rfl)
 have C_fits_vote : zc l.prog w K mg base := ag T (D1.up X G fun _ _ _ _ _ _ us hl => match us, hl with | [_, _, _, _, _], _ => rfl)
 have C_fits : Jj l.prog w K mg base := Om T (D2.up X G fun _ _ _ _ _ _ us hl => match us, hl with | [_, _, _], _ => rfl) C_fits_vote
 have C_sizes : Yd l.prog w K mg base C_BadCount C_BadRound := Ek T (D3.up X G fun _ _ _ _ _ _ us hl => match us, hl with | [_, _], _ => rfl) C_fits
 have C_sizes_ahead : Wa l.prog w K mg base C_BadCount C_BadRound := ke T (D4.up X G fun _ _ _ _ _ _ us hl => match us, hl with | [_, _], _ => rfl) C_sizes
 have C_whole : sf l.prog w K mg base C_BadCount C_BadRound := Ck T (D5.up X G fun _ _ _ _ _ _ us hl => match us, hl with | [_, _], _ => rfl) C_sizes_ahead
 have C_round_draws : Hb l.prog w K mg base := me T (D6.up X G fun _ _ _ _ _ _ us hl => match us, hl with | [_, _, _], _ => rfl) C_ways
 have C_draws_row : Xa l.prog w K mg base C_BadCount C_BadRound := bg T (D7.up X G fun _ _ _ _ _ _ us hl => match us, hl with | [_, _], _ => rfl) C_sizes_ahead C_round_draws
 have C_draws : Yg l.prog w K mg base C_BadCount C_BadRound := Ik T (D8.up X G fun _ _ _ _ _ _ us hl => match us, hl with | [_, _], _ => rfl) C_draws_row
 have C_parted : uf l.prog w K mg base C_BadCount C_BadRound := cj T (D9.up X G fun _ _ _ _ _ _ us hl => match us, hl with | [_, _, _], _ => rfl) C_draws_row
 have C_put_together : wb l.prog w K mg base C_BadCount C_BadRound := Md T (D10.up X G fun _ _ _ _ _ _ us hl => match us, hl with | [_, _, _], _ => rfl) C_draws_row
 have C_shortened : vc l.prog w K mg base C_BadCount C_BadRound := Xf T (D11.up X G fun _ _ _ _ _ _ us hl => match us, hl with | [_, _], _ => rfl) C_sizes_ahead
 have C_l_begin : de l.prog w K mg base := Jh T (D12.up X G fun _ _ _ _ _ _ us hl => match us, hl with | [_], _ => rfl)
 have C_l_take : Ib l.prog w K mg base := dj T (D13.up X G fun _ _ _ _ _ _ us hl => match us, hl with | [_, _], _ => rfl)
 have C_l_int : xf l.prog w K mg base := Gk T (D14.up X G fun _ _ _ _ _ _ us hl => match us, hl with | [_], _ => rfl)
 have C_l_ints : vf l.prog w K mg base := fj T (D15.up X G fun _ _ _ _ _ _ us hl => match us, hl with | [_], _ => rfl) C_l_int
 have C_l_step : yd l.prog w K mg base := ej T (D16.up X G fun _ _ _ _ _ _ us hl => match us, hl with | [_, _, _, _], _ => rfl) C_l_take
 have C_l_any_step : Sb l.prog w K mg base := ef T (D17.up X G fun _ _ _ _ _ _ us hl => match us, hl with | [_, _, _], _ => rfl) C_l_take C_l_step
 have C_l_odd_row : xc l.prog w K mg base := Zf T (D18.up X G fun _ _ _ _ _ _ us hl => match us, hl with | [_, _], _ => rfl) C_l_take C_l_step C_l_any_step
 have C_l_fits : yf l.prog w K mg base := gj T (D19.up X G fun _ _ _ _ _ _ us hl => match us, hl with | [_, _, _], _ => rfl)
 have C_l_fault : ae l.prog w K mg base := Ih T (D20.up X G fun _ _ _ _ _ _ us hl => match us, hl with | [_, _], _ => rfl) C_l_fits
 have C_l_seats : Zd l.prog w K mg base := Hh T (D21.up X G fun _ _ _ _ _ _ us hl => match us, hl with | [_, _], _ => rfl)
 have C_l_any_count : Jb l.prog w K mg base := pe T (D22.up X G fun _ _ _ _ _ _ us hl => match us, hl with | [_], _ => rfl) C_l_take
 have C_l_ask : Xg l.prog w K mg base C_BadCount C_BadRound := Hk T (D23.up X G fun _ _ _ _ _ _ us hl => match us, hl with | [_, _, _], _ => rfl) C_sizes C_whole C_draws_row C_draws C_parted C_put_together C_shortened
 have C_l_refusal : wc l.prog w K mg base := Yf T (D24.up X G fun _ _ _ _ _ _ us hl => match us, hl with | [_, _, _], _ => rfl) C_l_ask
 exact ok_law T F C_sizes C_whole C_l_begin C_l_take C_l_int C_l_ints C_l_odd_row C_l_fault C_l_seats C_l_any_count C_l_refusal
end K07
def PySem.W.Fast.tw12929062012152066022 : Nat := 0
def PySem.W.Fast.tw17277112418491651007 : Nat := 0
def PySem.W.Fast.tw5302513391944641306 : Nat := 0
def PySem.W.Fast.tw16174293944441716475 : Nat := 0
def PySem.W.Fast.tw16747843328368684223 : Nat := 0
def PySem.W.Fast.tw8713812384808747822 : Nat := 0
def PySem.W.Fast.tw3648966381456386389 : Nat := 0
def PySem.W.Fast.tw14669454945596541447 : Nat := 0
def PySem.W.Fast.tw5365849168819313560 : Nat := 0
def PySem.W.Fast.tw11560542543901422825 : Nat := 0
def PySem.W.Fast.tw3646013297430936324 : Nat := 0
def PySem.W.Fast.tw6878568964560931882 : Nat := 0
def PySem.W.Fast.tw11662440939143333138 : Nat := 0
def PySem.W.Fast.tw1343638310271257954 : Nat := 0
def PySem.W.Fast.tw10510914942681366709 : Nat := 0
def PySem.W.Fast.tw8121900101153278519 : Nat := 0
def PySem.W.Fast.tw1640545645599047287 : Nat := 0
def PySem.W.Fast.tw8709251599885498631 : Nat := 0
def PySem.W.Fast.tw6626561991528732094 : Nat := 0
def PySem.W.Fast.tw2106854802337819717 : Nat := 0
def PySem.W.Fast.tw12558459463642996676 : Nat := 0
def PySem.W.Fast.tw7284411344347763760 : Nat := 0
def PySem.W.Fast.tw15102692937921122541 : Nat := 0
def PySem.W.Fast.tw12589124767297920842 : Nat := 0
def PySem.W.Fast.tw11825693966571203436 : Nat := 0
def PySem.W.Fast.tw5122665230689417095 : Nat := 0
def PySem.W.Fast.tw6911608581104979721 : Nat := 0
def PySem.W.Fast.tw2097421039868129076 : Nat := 0
def PySem.W.Fast.tw4299084327535667134 : Nat := 0
def PySem.W.Fast.tw7932100857955959818 : Nat := 0
def PySem.W.Fast.tw15314441569526342601 : Nat := 0
def PySem.W.Fast.tw1583822135754289880 : Nat := 0
def PySem.W.Fast.tw8761544356766714809 : Nat := 0
def PySem.W.Fast.tw15723423368371170550 : Nat := 0
def PySem.W.Fast.tw2007614044697768440 : Nat := 0
def PySem.W.Fast.tw7038835845097402552 : Nat := 0
def PySem.W.Fast.tw917744601790236126 : Nat := 0
def PySem.W.Fast.tw11551896085541402058 : Nat := 0
def PySem.W.Fast.tw4708876453490155340 : Nat := 0
def PySem.W.Fast.tw1366113746714665691 : Nat := 0
def PySem.W.Fast.tw1593197173088879923 : Nat := 0
def PySem.W.Fast.tw1363691146624435994 : Nat := 0
def PySem.W.Fast.tw13870199987795688277 : Nat := 0
def PySem.W.Fast.tw13668713209514670693 : Nat := 0
def PySem.W.Fast.tw129352531624309048 : Nat := 0
open PySem PySem.W PyProof.Rows
set_option maxRecDepth 100000 in
set_option maxHeartbeats 0 in
theorem PySem.Challenge.cw_ballotin_k07_sizes_of_benches_holds : PySem.Challenge.rw_ballotin_k07_sizes_of_benches.Holds := by
 w_on; o_law; k_head; (case hw => w_witness2)
 k_fill
 refine L2.walkC (l := PySem.Challenge.rw_ballotin_k07_sizes_of_benches) (k := 9) (x := "_law_script") rfl rfl ⟨rfl, by decide, by decide⟩ (fun w h Y => PySem.W.kIn_of Y) ?F
 case F =>
  intro w mg fa h KX G hmg
  refine' K07.all_mk KX G hmg ?_ ?_ ?_ ?_ ?_ ?_ ?_ ?_ ?_ ?_ ?_ ?_ ?_ ?_ ?_ ?_ ?_ ?_ ?_ ?_ ?_ ?_ ?_ ?_ ?_ ?_ ?z_ValueError ?z_abs ?z_all ?z_bool ?z_divmod ?z_enumerate ?z_int ?z_isinstance ?z_len ?z_list ?z_max ?z_min ?z_range ?z_zip ?m_MOST_PEOPLE ?m_MOST_SEATS ?g0_0 ?g0_2 ?g0_3 ?g0_4 ?g0_5 ?g0_6 ?g1_0 ?g1_2 ?g1_3 ?g1_4 ?g1_5 ?g1_6 ?g2_0 ?g2_2 ?g2_3 ?g2_4 ?g2_5 ?g2_6 ?g3_0 ?g3_2 ?g3_3 ?g3_4 ?g3_5 ?g3_6 ?g4_0 ?g4_2 ?g4_3 ?g4_4 ?g4_5 ?g4_6 ?h_q_BallotError ?h_q_BadCount ?h_q_NoDraw ?h_q_NotWhole ?h_I_BadRound ?h_f_BadRound ?h_d_BadRound ?h_x_BallotError_BadCount ?h_x_BallotError_BadRound ?h_i_BallotError_BallotError ?h_i_BallotError_NotWhole ?h_i_BallotError_ValueError ?h_x_BadCount_BadCount ?h_x_BadCount_BadRound ?h_i_BadCount_BallotError ?h_i_BadCount_NotWhole ?h_i_BadCount_ValueError ?h_x_NoDraw_BadCount ?h_x_NoDraw_BadRound ?h_i_NoDraw_BallotError ?h_i_NoDraw_NotWhole ?h_i_NoDraw_ValueError ?h_x_NotWhole_BadCount ?h_x_NotWhole_BadRound ?h_i_NotWhole_BallotError ?h_i_NotWhole_NotWhole ?h_i_NotWhole_ValueError ?h_x_BadRound_BadCount ?h_x_BadRound_BadRound ?h_i_BadRound_BallotError ?h_i_BadRound_NotWhole ?h_i_BadRound_ValueError
  (case z_ValueError => k_is)
  (case z_abs => k_is)
  (case z_all => k_is)
  (case z_bool => k_is)
  (case z_divmod => k_is)
  (case z_enumerate => k_is)
  (case z_int => k_is)
  (case z_isinstance => k_is)
  (case z_len => k_is)
  (case z_list => k_is)
  (case z_max => k_is)
  (case z_min => k_is)
  (case z_range => k_is)
  (case z_zip => k_is)
  (case m_MOST_PEOPLE => k_is)
  (case m_MOST_SEATS => k_is)
  (case g0_0 => k_is); (case g0_2 => k_is); (case g0_3 => k_is); (case g0_4 => k_is); (case g0_5 => k_is); (case g0_6 => k_is)
  (case g1_0 => k_is); (case g1_2 => k_is); (case g1_3 => k_is); (case g1_4 => k_is); (case g1_5 => k_is); (case g1_6 => k_is)
  (case g2_0 => k_is); (case g2_2 => k_is); (case g2_3 => k_is); (case g2_4 => k_is); (case g2_5 => k_is); (case g2_6 => k_is)
  (case g3_0 => k_is); (case g3_2 => k_is); (case g3_3 => k_is); (case g3_4 => k_is); (case g3_5 => k_is); (case g3_6 => k_is)
  (case g4_0 => k_is); (case g4_2 => k_is); (case g4_3 => k_is); (case g4_4 => k_is); (case g4_5 => k_is); (case g4_6 => k_is)
  (case h_q_BallotError => k_exc)
  (case h_q_BadCount => k_exc)
  (case h_q_NoDraw => k_exc)
  (case h_q_NotWhole => k_exc)
  (case h_I_BadRound => refine' L2.Zh.of ?i1 ?e1 ?i2 ?i3 ?i4 ?i5 ?e2 ?i6 ?i7 ?i8 ?i9 ?i10 ?i11 ?i12 ?i13 ?i14; (case i1 => k_is); (case e1 => rfl); (case i2 => k_is); (case i3 => kernel_rfl); (case i4 => k_is); (case i5 => k_is); (case e2 => rfl); (case i6 => k_is); (case i7 => rfl); (case i8 => k_exc); (case i9 => k_is); (case i10 => k_is); (case i11 => k_is); (case i12 => k_is); (case i13 => k_is); (case i14 => k_is))
  (case h_f_BadRound => k_is)
  (case h_d_BadRound => k_is)
  (case h_x_BallotError_BadCount => kts_exm)
  (case h_x_BallotError_BadRound => kts_exm)
  (case h_i_BallotError_BallotError => kit_is)
  (case h_i_BallotError_NotWhole => kit_is)
  (case h_i_BallotError_ValueError => kit_is)
  (case h_x_BadCount_BadCount => kts_exm)
  (case h_x_BadCount_BadRound => kts_exm)
  (case h_i_BadCount_BallotError => kit_is)
  (case h_i_BadCount_NotWhole => kit_is)
  (case h_i_BadCount_ValueError => kit_is)
  (case h_x_NoDraw_BadCount => kts_exm)
  (case h_x_NoDraw_BadRound => kts_exm)
  (case h_i_NoDraw_BallotError => kit_is)
  (case h_i_NoDraw_NotWhole => kit_is)
  (case h_i_NoDraw_ValueError => kit_is)
  (case h_x_NotWhole_BadCount => kts_exm)
  (case h_x_NotWhole_BadRound => kts_exm)
  (case h_i_NotWhole_BallotError => kit_is)
  (case h_i_NotWhole_NotWhole => kit_is)
  (case h_i_NotWhole_ValueError => kit_is)
  (case h_x_BadRound_BadCount => kts_exm)
  (case h_x_BadRound_BadRound => kts_exm)
  (case h_i_BadRound_BallotError => kit_is)
  (case h_i_BadRound_NotWhole => kit_is)
  (case h_i_BadRound_ValueError => kit_is)
  all_goals (refine' K07.Dn.mk ?a ?l ?c ?k; (case a => k_is); (case l => k_is); (case c => k_is); (case k => k_is))
