import PyProof.Rows.All
import Wide.All
import OpenK.AllK
import Wide.FinOn
import Lean
import PyProof.EqAt
import PyProof.EqKinds
import PyProof.TupleCall
import PyProof.InstStoreFacts
import PyProof.ListRange
import PyProof.Rows.SortWalk
import PyProof.StrBlock2
import PyProof.Rows.CountFlat
import PySem.Challenge.RW_ballotin_k25_what_chains_refuse
local macro_rules | `(tactic| walk_at "w") => `(tactic| with_unfolding_all exact rfl)
local macro_rules | `(tactic| walk_at "v") => `(tactic| with_unfolding_all exact (Or.inl rfl))
set_option Elab.async false
set_option linter.all false
set_option maxRecDepth 100000
set_option maxHeartbeats 4000000
namespace L2
open PySem PySem.Spec PyProof.Rows
abbrev Key := Sum Int Str
def keyIs : Key -> Value -> Bool
 | .inl k, v => Value.isInt k v
 | .inr x, v => Value.isStrOf x v
def keyH (w : World) : Key -> Int
 | .inl k => hashInt k
 | .inr x => hashStr w x
theorem cb : ∀ {k : Key} {v : Value}, keyIs k v = true -> (∃ i t, k = Sum.inl i /\ v = Value.int i t) \/ (∃ x t, k = Sum.inr x /\ v = Value.str x t)
 | .inl i, v, h => by
  obtain ⟨t, e⟩ := Value.isInt_shape (k := i) (v := v) h
  exact .inl ⟨i, t, rfl, e⟩
 | .inr x, v, h => by
  obtain ⟨t, e⟩ := Value.isStrOf_shape (x := x) (v := v) h
  exact .inr ⟨x, t, rfl, e⟩
theorem key_ll (a b : Int) : decide ((Sum.inl a : Key) = Sum.inl b) = (a == b) := by
 by_cases e : a = b
 . subst e; simp
 . have h : ¬ (Sum.inl a : Key) = Sum.inl b := fun q => e (Sum.inl.inj q)
   rw [decide_eq_false h]
   exact (beq_eq_false_iff_ne.mpr e).symm
theorem key_rr (a b : Str) : decide ((Sum.inr a : Key) = Sum.inr b) = decide (a = b) := by
 by_cases e : a = b
 . subst e; simp
 . have h : ¬ (Sum.inr a : Key) = Sum.inr b := fun q => e (Sum.inr.inj q)
   rw [decide_eq_false h, decide_eq_false e]
theorem key_lr (a : Int) (b : Str) : decide ((Sum.inl a : Key) = Sum.inr b) = false := decide_eq_false (fun q => nomatch q)
theorem key_rl (a : Str) (b : Int) : decide ((Sum.inr a : Key) = Sum.inl b) = false := decide_eq_false (fun q => nomatch q)
def jk (prog : Program) (w : World) : PySem.KeyKind prog w Key where
 is := keyIs
 hash := keyH w
 inj := fun v a b ha hb => by
  rcases cb ha with ⟨i, t, rfl, rfl⟩ | ⟨x, t, rfl, rfl⟩
  . rcases cb hb with ⟨j, u, rfl, e⟩ | ⟨y, u, rfl, e⟩
    . injection e with e1 _; rw [e1]
    . exact nomatch e
  . rcases cb hb with ⟨j, u, rfl, e⟩ | ⟨y, u, rfl, e⟩
    . exact nomatch e
    . injection e with e1 _; rw [e1]
 byValue := fun k v h => by
  rcases cb h with ⟨i, t, rfl, rfl⟩ | ⟨x, t, rfl, rfl⟩ <;> rfl
 pyHash := fun hv h => by
  rcases cb hv with ⟨i, t, rfl, rfl⟩ | ⟨x, t, rfl, rfl⟩
  . exact wpAny_pyHash_int h
  . exact wpAny_pyHash_str h
 eqBool := fun hu hv h => by
  rcases cb hu with ⟨i, t, rfl, rfl⟩ | ⟨x, t, rfl, rfl⟩
  . rcases cb hv with ⟨j, u, rfl, rfl⟩ | ⟨y, u, rfl, rfl⟩
    . rw [key_ll] at h; exact wpAny_eqBool_int h
    . rw [key_lr] at h; exact SeqAt.EqAt.int_str i t y u _ _ _ _ h
  . rcases cb hv with ⟨j, u, rfl, rfl⟩ | ⟨y, u, rfl, rfl⟩
    . rw [key_rl] at h; exact SeqAt.EqAt.str_int x t j u _ _ _ _ h
    . rw [key_rr] at h; exact wpAny_eqBool_str h
 «strs» := fun k x t v h => by
  rcases cb h with ⟨i, u, rfl, e⟩ | ⟨y, u, rfl, e⟩
  . exact nomatch e
  . injection e with e1 _
    subst e1
    cases v <;> rfl
end L2
namespace L2
open PySem PySem.Spec PyProof.Rows
inductive V where
 | non | bl (b : Bool) | int (i : Int) | str (x : Str) | byt (b : Array UInt8) | flt (b : UInt64) | ref (a : Addr) | ty (n : String)
 deriving DecidableEq
def RelV : V -> Value -> Prop
 | .non, u => u = Value.none
 | .bl b, u => u = Value.bool b
 | .int i, u => ∃ t, u = Value.int i t
 | .str x, u => ∃ t, u = Value.str x t
 | .byt b, u => ∃ t, u = Value.bytes b t
 | .flt b, u => ∃ t, u = Value.float b t
 | .ref a, u => u = Value.ref a
 | .ty n, u => u = Value.type n
abbrev Vals : List V -> List Value -> Prop := Paired RelV
theorem Vals.length {xs : List V} {us : List Value} (r : Vals xs us) : xs.length = us.length := Paired.length r
theorem Vals.get : ∀ {xs : List V} {us : List Value} {i : Nat} {x : V}, Vals xs us -> xs[i]? = some x -> ∃ u, us[i]? = some u /\ RelV x u
 | _, _, _, _, .nil, e => by simp at e
 | _, _, 0, _, .cons r _, e => by simp at e; subst e; exact ⟨_, rfl, r⟩
 | _, _, i + 1, x, .cons _ t, e => by
  obtain ⟨u, h1, h2⟩ := Vals.get (i := i) (x := x) t (by simpa using e)
  exact ⟨u, by simpa using h1, h2⟩
theorem Vals.set {x : V} {u : Value} (r : RelV x u) : ∀ {xs : List V} {us : List Value} (i : Nat), Vals xs us -> Vals (xs.set i x) (us.set i u)
 | _, _, _, .nil => .nil
 | _, _, 0, .cons _ t => .cons r t
 | _, _, i + 1, .cons q t => .cons q (Vals.set r i t)
theorem Vals.append : ∀ {xs ys : List V} {us ws : List Value}, Vals xs us -> Vals ys ws -> Vals (xs ++ ys) (us ++ ws)
 | _, _, _, _, .nil, s => s
 | _, _, _, _, .cons r t, s => .cons r (Vals.append t s)
theorem Vals.take : ∀ {xs : List V} {us : List Value} (n : Nat), Vals xs us -> Vals (xs.take n) (us.take n)
 | _, _, 0, _ => .nil
 | _, _, _ + 1, .nil => .nil
 | _, _, n + 1, .cons r t => .cons r (Vals.take n t)
def RelO : Option V -> Option Value -> Prop
 | some v, some u => RelV v u
 | none, none => True
 | _, _ => False
def KV {κ : Type} : List (κ × V) -> List (κ × Value) -> Prop := Paired fun (p : κ × V) (q : κ × Value) => p.1 = q.1 /\ RelV p.2 q.2
def kV : Key -> V
 | .inl i => .int i
 | .inr x => .str x
inductive HO where
 | lst (xs : List V)
 | tup (xs : List V)
 | dK (kvs : List (Key × V)) | dT (kvs : List (List Key × V))
 | set (S : Int -> Bool) (n : Nat)
 | ins (C dx : Addr) (fs : List (Str × V))
 | own (x : Addr)
 | xd (fs : List (Str × V))
 | met (f x : Addr)
 | rng (lo hi : Int)
 | frz (o : Obj) (u : HO)
 | tbl (ps : Array Value)
 | ext (φ : Heap -> Prop)
abbrev Hp := Addr -> Option HO
def upd (H : Hp) (a : Addr) (o : HO) : Hp := fun b => if b = a then some o else H b
theorem ka {H : Hp} {a : Addr} {o : HO} : upd H a o a = some o := by unfold upd; rw [if_pos rfl]
theorem Aa {H : Hp} {a b : Addr} {o : HO} (h : b ≠ a) : upd H a o b = H b := by unfold upd; rw [if_neg h]
theorem ne_of {H : Hp} {a b : Addr} {o u : HO} (h : H a = some o) (h' : H b = some u) (d : o ≠ u) : a ≠ b := by
 intro e; subst e; rw [h] at h'; exact d (Option.some.inj h')
theorem da {H : Hp} {a b : Addr} {o : HO} (h : H a = some o) (h' : H b = none) : a ≠ b := by
 intro e; subst e; rw [h] at h'; cases h'
section
variable (P : Program) (w : World)
def Ob (H : Hp) (h : Heap) (a : Addr) : HO -> Prop
 | .lst xs => xs.length <= sizeLine /\ ∃ (its : List Value) (n : Nat), Vals xs its /\ h.get? a = some { cls := .type "list", data := .seq its.toArray n }
 | .tup xs => xs.length <= sizeLine /\ ∃ its : List Value, Vals xs its /\ IsTup h a its.toArray
 | .dK kvs => kvs.length <= sizeLine /\ (a == sysModules) = false /\ ∃ vs, KV kvs vs /\ h.DictOf (jk P w) a vs
 | .dT kvs => kvs.length <= sizeLine /\ (a == sysModules) = false /\ ∃ xs : List (List Key × Addr × Value),
  Paired (fun (p : List Key × V) (q : List Key × Addr × Value) => p.1 = q.1 /\ H q.2.1 = some (.tup (p.1.map kV)) /\ RelV p.2 q.2.2) kvs xs /\
  ∃ o es ep, h.get? a = some o /\ o.ExactDict /\ o.data = .dict es ep /\ es.toList = xs.map (entryOfKey (tupleKind (jk P w))) /\ (xs.map (·.1)).Nodup
 | .set S n => h.SetOf (intKind P w) a S n
 | .ins C dx fs => H dx = some (.own a) /\ fs.length <= 1000 /\ dx ≠ a /\ h.get? a = some (PySem.W.instObj C dx) /\
  ∃ mA, h.Ns1 dx mA /\ (∀ f, RelO (fs.lookup f) (mA f)) /\ PySem.Within mA (fs.map (·.1))
 | .own _ => ∃ o, h.get? a = some o
 | .xd fs => ∃ mA, h.Ns1 a mA /\ ∀ f, RelO (fs.lookup f) (mA f)
 | .rng lo hi => ∃ t u v, h.get? a = some { cls := .type "range", data := .fields #[.int lo t, .int hi u, .int 1 v] }
 | .frz o u => h.get? a = some o /\ Ob H h a u
 | .tbl ps => h.get? a = some { cls := .none, data := .fields ps }
 | .met f x => h.get? a = some (PySem.W.methodObj (.ref f) (.ref x))
 | .ext φ => φ h /\ (∃ o, h.get? a = some o) /\ ∀ h1 h2 : Heap, φ h1 -> (∀ o, h1.get? a = some o -> h2.get? a = some o) -> φ h2
def HOk (H : Hp) (h : Heap) : Prop := ∀ a o, H a = some o -> Ob P w H h a o
end
section
variable {P : Program} {w : World} {H H' : Hp} {h h' : Heap} {a : Addr} {o : HO}
theorem Ob.lt (x : Ob P w H h a o) : a < h.objs.size := by
 cases o with
 | lst xs => obtain ⟨_, _, _, _, e⟩ := x; exact Heap.lt_size e
 | tup xs => obtain ⟨_, _, _, p⟩ := x; exact p.lt
 | dK kvs => obtain ⟨_, _, _, _, o, _, _, e, _⟩ := x; exact Heap.lt_size e
 | dT kvs => obtain ⟨_, _, _, _, o, _, _, e, _⟩ := x; exact Heap.lt_size e
 | set S n => obtain ⟨o, _, _, _, e, _⟩ := x; exact Heap.lt_size e
 | ins C dx fs => obtain ⟨_, _, _, e, _⟩ := x; exact Heap.lt_size e
 | own y => obtain ⟨_, e⟩ := x; exact Heap.lt_size e
 | xd fs => obtain ⟨_, ⟨_, _, _, e, _⟩, _⟩ := x; exact Heap.lt_size e
 | rng lo hi => obtain ⟨_, _, _, e⟩ := x; exact Heap.lt_size e
 | frz ob u => obtain ⟨e, _⟩ := x; exact Heap.lt_size e
 | tbl ps => exact Heap.lt_size (show h.get? a = some _ from x)
 | met f y => exact Heap.lt_size (show h.get? a = some _ from x)
 | ext φ => obtain ⟨_, ⟨_, e⟩, _⟩ := x; exact Heap.lt_size e
theorem Paired.mapP {α β : Type} {F G : α -> β -> Prop} : ∀ {l₁ : List α} {l₂ : List β}, Paired F l₁ l₂ -> (∀ a b, F a b -> G a b) -> Paired G l₁ l₂
 | _, _, .nil, _ => .nil
 | _, _, .cons r t, f => .cons (f _ _ r) (Paired.mapP t f)
theorem Ob.stay (x : Ob P w H h a o) (k : ∀ b u, (b = a \/ H b = some (.own a)) -> h.get? b = some u -> h'.get? b = some u)
 (ho : ∀ b, H b = some (.own a) -> H' b = some (.own a)) (ht : ∀ b xs, H b = some (.tup xs) -> H' b = some (.tup xs)) : Ob P w H' h' a o := by
 induction o with
 | lst xs => obtain ⟨z, its, n, r, e⟩ := x; exact ⟨z, its, n, r, k _ _ (.inl rfl) e⟩
 | tup xs => obtain ⟨z, its, r, ob, e, c⟩ := x; exact ⟨z, its, r, ob, k _ _ (.inl rfl) e, c⟩
 | dK kvs => obtain ⟨z, y, vs, r, ob, es, ep, e, c⟩ := x; exact ⟨z, y, vs, r, ob, es, ep, k _ _ (.inl rfl) e, c⟩
 | dT kvs =>
  obtain ⟨z, y, xs, r, ob, es, ep, e, c⟩ := x
  exact ⟨z, y, xs, Paired.mapP r fun p q z => ⟨z.1, ht _ _ z.2.1, z.2.2⟩, ob, es, ep, k _ _ (.inl rfl) e, c⟩
 | set S n => obtain ⟨ob, es, ep, t, e, c⟩ := x; exact ⟨ob, es, ep, t, k _ _ (.inl rfl) e, c⟩
 | ins C dx fs =>
  obtain ⟨d, z, ne, e, mA, ⟨od, es, ep, e2, c⟩, r⟩ := x
  exact ⟨ho _ d, z, ne, k _ _ (.inl rfl) e, mA, ⟨od, es, ep, k _ _ (.inr d) e2, c⟩, r⟩
 | own y => obtain ⟨ob, e⟩ := x; exact ⟨ob, k _ _ (.inl rfl) e⟩
 | xd fs => obtain ⟨mA, ⟨od, es, ep, e, c⟩, r⟩ := x; exact ⟨mA, ⟨od, es, ep, k _ _ (.inl rfl) e, c⟩, r⟩
 | rng lo hi => obtain ⟨t, u, v, e⟩ := x; exact ⟨t, u, v, k _ _ (.inl rfl) e⟩
 | frz ob u ih => obtain ⟨e, q⟩ := x; exact ⟨k _ _ (.inl rfl) e, ih q⟩
 | tbl ps =>
  have e : h.get? a = some { cls := .none, data := .fields ps } := x
  show h'.get? a = some { cls := .none, data := .fields ps }
  exact k a _ (.inl rfl) e
 | met f y =>
  have e : h.get? a = some (PySem.W.methodObj (.ref f) (.ref y)) := x
  show h'.get? a = some (PySem.W.methodObj (.ref f) (.ref y))
  exact k a _ (.inl rfl) e
 | ext φ => obtain ⟨p, ⟨o, e⟩, st⟩ := x; exact ⟨st _ _ p fun o q => k _ _ (.inl rfl) q, ⟨o, k _ _ (.inl rfl) e⟩, st⟩
theorem HOk.lt (x : HOk P w H h) (e : H a = some o) : a < h.objs.size := (x a o e).lt
theorem HOk.fresh (x : HOk P w H h) (e : h.objs.size <= a) : H a = none := by
 cases q : H a with
 | none => rfl
 | some u => exact absurd (Nat.lt_of_lt_of_le (x.lt q) e) (Nat.lt_irrefl _)
theorem HOk.kept (x : HOk P w H h) (k : ∀ b u, h.get? b = some u -> h'.get? b = some u) : HOk P w H h' := fun a o e =>
 (x a o e).stay (fun b u _ q => k b u q) (fun _ q => q) fun _ _ q => q
theorem HOk.laid (x : HOk P w H h) (k : ∀ b u, h.get? b = some u -> h'.get? b = some u) (hp : h.objs.size <= a) (new : Ob P w (upd H a o) h' a o) : HOk P w (upd H a o) h' := fun b u e => by
 have hn := x.fresh hp
 by_cases hb : b = a
 . subst hb; rw [ka] at e; cases e; exact new
 . rw [Aa hb] at e
   exact (x b u e).stay (fun c v _ q => k c v q) (fun c q => by rw [Aa (da q hn)]; exact q) fun c xs q => by rw [Aa (da q hn)]; exact q
end
def Rd (H : Hp) (a : Addr) (u : HO) : Prop := H a = some u \/ ∃ o, H a = some (.frz o u)
theorem Rd.of {H : Hp} {a : Addr} {u : HO} (h : H a = some u) : Rd H a u := .inl h
theorem Rd.ok {P : Program} {w : World} {H : Hp} {h : Heap} {a : Addr} {u : HO} (r : Rd H a u) (x : HOk P w H h) : Ob P w H h a u := by
 rcases r with r | ⟨o, r⟩
 . exact x a u r
 . obtain ⟨_, q⟩ := x a _ r
   exact q
def Mut : Option HO -> Prop
 | some (.lst _) => True
 | some (.dK _) => True
 | some (.dT _) => True
 | some (.set _ _) => True
 | some (.ins _ _ _) => True
 | some (.ext _) => True
 | _ => False
section
variable {P : Program} {w : World} {H : Hp} {h h' : Heap} {x e : Addr} {o' : HO}
theorem HOk.write (ok : HOk P w H h) (mu : Mut (H x)) (he : e = x \/ H e = some (.own x)) (k : ∀ b u, b ≠ e -> h.get? b = some u -> h'.get? b = some u) (heo : ∃ u, h'.get? e = some u)
 (new : Ob P w (upd H x o') h' x o') : HOk P w (upd H x o') h' := fun b u q => by
 have nown : ∀ c y, H c = some (.own y) -> c ≠ x := fun c y r z => by subst z; rw [r] at mu; exact mu
 have ntup : ∀ c xs, H c = some (.tup xs) -> c ≠ x := fun c xs r z => by subst z; rw [r] at mu; exact mu
 by_cases hb : b = x
 . subst hb; rw [ka] at q; cases q; exact new
 . rw [Aa hb] at q
   by_cases hbe : b = e
   . have q' : H b = some (.own x) := by
      rcases he with z | z
      . exact absurd (hbe.trans z) hb
      . rw [hbe]; exact z
     rw [q] at q'; cases q'
     obtain ⟨v, hv⟩ := heo
     exact ⟨v, by rw [hbe]; exact hv⟩
   . refine (ok b u q).stay (fun c v hc r => k c v ?_ r) (fun c r => by rw [Aa (nown c b r)]; exact r) fun c xs r => by rw [Aa (ntup c xs r)]; exact r
     rcases hc with rfl | hc
     . exact hbe
     . rintro rfl
       rcases he with z | z
       . exact nown c b hc z
       . rw [hc] at z; cases z; exact hb rfl
end
structure Un (fs ex : List Addr) (H H' : Hp) (h h' : Heap) : Prop where
 keep : ∀ b o, h.get? b = some o -> H b = none -> b ∉ fs -> b ∉ ex -> h'.get? b = some o
 slot : ∀ b o, h.get? b = some o -> H b = none -> b ∈ fs -> b ∉ ex -> ∃ sl, h'.get? b = some { o with slots := sl }
 free : ∀ b o, h.get? b = some o -> H b = none -> b ∉ ex -> H' b = none
 there : ∀ b o, h.get? b = some o -> b ∉ ex -> ∃ o', h'.get? b = some o'
 tups : ∀ b xs, H b = some (.tup xs) -> H' b = some (.tup xs)
 frzs : ∀ b o u, H b = some (.frz o u) -> H' b = some (.frz o u)
 tbls : ∀ b ps, H b = some (.tbl ps) -> ∃ more, H' b = some (.tbl (ps ++ more))
section
variable {fs fs' ex ex' : List Addr} {H H1 H2 : Hp} {h h1 h2 h' : Heap} {a x e : Addr} {o : HO}
theorem Un.any (u : Un fs ex H H1 h h1) {b : Addr} {ob : Obj} (q : h.get? b = some ob) (n : H b = none) (hx : b ∉ ex) : ∃ sl, h1.get? b = some { ob with slots := sl } := by
 by_cases hb : b ∈ fs
 . exact u.slot b ob q n hb hx
 . exact ⟨ob.slots, u.keep b ob q n hb hx⟩
theorem Un.trans (a : Un fs ex H H1 h h1) (b : Un fs ex H1 H2 h1 h2) : Un fs ex H H2 h h2 where
 keep := fun c ob q n hc hx => b.keep c ob (a.keep c ob q n hc hx) (a.free c ob q n hx) hc hx
 slot := fun c ob q n hc hx => by
  obtain ⟨sl, e1⟩ := a.slot c ob q n hc hx
  obtain ⟨sl', e2⟩ := b.slot c _ e1 (a.free c ob q n hx) hc hx
  exact ⟨sl', e2⟩
 free := fun c ob q n hx => by
  obtain ⟨o', e1⟩ := a.there c ob q hx
  exact b.free c o' e1 (a.free c ob q n hx) hx
 there := fun c ob q hx => by
  obtain ⟨o', e1⟩ := a.there c ob q hx
  exact b.there c o' e1 hx
 tups := fun c xs q => b.tups c xs (a.tups c xs q)
 frzs := fun c ob xs q => b.frzs c ob xs (a.frzs c ob xs q)
 tbls := fun c ps q => by
  obtain ⟨m1, e1⟩ := a.tbls c ps q
  obtain ⟨m2, e2⟩ := b.tbls c _ e1
  exact ⟨m1 ++ m2, by rw [e2, Array.append_assoc]⟩
theorem Un.kept (k : ∀ b u, h.get? b = some u -> h'.get? b = some u) : Un fs ex H H h h' :=
 ⟨fun b ob q _ _ _ => k b ob q, fun b ob q _ _ _ => ⟨ob.slots, k b ob q⟩, fun _ _ _ n _ => n, fun b ob q _ => ⟨ob, k b ob q⟩, fun _ _ q => q, fun _ _ _ q => q, fun _ ps q => ⟨#[], by rw [q]; simp⟩⟩
theorem Un.refl : Un fs ex H H h h := Un.kept fun _ _ q => q
theorem Un.laid (k : ∀ b u, h.get? b = some u -> h'.get? b = some u) (hp : h.objs.size <= a) (hn : H a = none) : Un fs ex H (upd H a o) h h' where
 keep := fun b u q _ _ _ => k b u q
 slot := fun b u q _ _ _ => ⟨u.slots, k b u q⟩
 free := fun b u q n _ => by rw [Aa (Nat.ne_of_lt (Nat.lt_of_lt_of_le (Heap.lt_size q) hp))]; exact n
 there := fun b u q _ => ⟨u, k b u q⟩
 tups := fun b xs q => by rw [Aa (da q hn)]; exact q
 frzs := fun b u xs q => by rw [Aa (da q hn)]; exact q
 tbls := fun b ps q => ⟨#[], by rw [Aa (da q hn), q]; simp⟩
theorem Un.write (mu : Mut (H x)) (he : e = x \/ H e = some (.own x)) (k : ∀ b u, b ≠ e -> h.get? b = some u -> h'.get? b = some u) (heo : ∃ u, h'.get? e = some u) : Un fs ex H (upd H x o) h h' := by
 have hx : ∀ b, H b = none -> b ≠ x := fun b n z => by subst z; rw [n] at mu; exact mu
 have hb : ∀ b, H b = none -> b ≠ e := fun b n z => by
  subst z
  rcases he with r | r
  . exact hx b n r
  . rw [n] at r; cases r
 have hm : ∀ b u, H b = some u -> ¬ Mut (some u) -> b ≠ x := fun b u q nm z => by subst z; rw [q] at mu; exact nm mu
 refine ⟨fun b u q n _ _ => k b u (hb b n) q, fun b u q n _ _ => ⟨u.slots, k b u (hb b n) q⟩, fun b u q n _ => by rw [Aa (hx b n)]; exact n, fun b u q _ => ?_,
  fun b xs q => by rw [Aa (hm b _ q fun z => z)]; exact q, fun b u xs q => by rw [Aa (hm b _ q fun z => z)]; exact q, fun b ps q => ⟨#[], by rw [Aa (hm b _ q fun z => z), q]; simp⟩⟩
 by_cases hbe : b = e
 . subst hbe; exact heo
 . exact ⟨u, k b u hbe q⟩
end
def trk (h : Heap) (H : Hp) : List Addr := (List.range h.objs.size).filter fun a => (H a).isSome
def hidT (h : Heap) (H : Hp) : Heap := PySem.W.hideAll h (trk h H)
theorem Fp (h : Heap) (H : Hp) : (hidT h H).objs.size = h.objs.size := PySem.W.hideAll_size _ _
theorem Mr {h : Heap} {H : Hp} {b : Addr} {o : Obj} (e : h.get? b = some o) (n : H b = none) : (hidT h H).get? b = some o :=
 PySem.W.hideAll_get _ e fun hm => by
  have q : (H b).isSome = true := (List.mem_filter.mp hm).2
  rw [n] at q; simp at q
theorem av {h : Heap} {H : Hp} {b : Addr} {o : Obj} (e : (hidT h H).get? b = some o) : h.get? b = some o /\ H b = none := by
 have e' : h.get? b = some o := PySem.W.of_hideAll (trk h H) e
 refine ⟨e', ?_⟩
 cases q : H b with
 | none => rfl
 | some x =>
  have hm : b ∈ trk h H := List.mem_filter.mpr ⟨List.mem_range.mpr (Heap.lt_size e'), by simp [q]⟩
  have z : (hidT h H).get? b = none := PySem.W.hideAll_none (trk h H) hm
  rw [z] at e; cases e
def Sv (g h : Heap) (L : Addr) : List (Addr × Obj) := (List.range h.objs.size).filterMap fun a => if a = L \/ (g.get? a).isSome = true then none else (h.get? a).map fun o => (a, o)
def rest (g h : Heap) (L d : Addr) : List (Addr × Obj) := (Sv g h L).filter fun p => decide (p.1 ≠ d)
end L2
namespace L2
open PySem PySem.Spec PyProof.Rows
structure Mod (K : PySem.W.Frag) (mg : Str -> Option Value) (base : Heap) : Prop where
 kin : K.In base
 glob : base.Ns mainGlobals mg
 blt : ∃ mb, base.Ns builtinsNs mb /\ ∀ x : Str, x ≠ "__name__" -> mb x = bootBuiltins x
 nolimit : base.NoLimit
structure Cx where
 prog : Program
 w : World
 K : PySem.W.Frag
 mg : Str -> Option Value
 base : Heap
 A : Around
 N : List Str
 s₀ : Shared
 H₀ : Hp
 env : Env
 outer : List Env
 stack : List Env
 ex : List Addr
 fn : Str -> Bool
 calm : Bool
 pn : List (Addr × Obj)
 xe : Value -> Shared -> Prop
def frs (l : List Env) : List Addr := l.filterMap (·.frame)
abbrev Cx.fs (X : Cx) : List Addr := frs X.outer
def Vis (sc : Scope) (x : Str) : Prop := sc.names.lookup x = some .local \/ sc.names.lookup x = some .cell \/ sc.names.lookup x = some .free
def Loc (sc : Scope) (x : Str) : Prop := sc.names.lookup x = some .local \/ sc.names.lookup x = some .cell
def Look (env : Env) (h : Heap) (m : Str -> Option Value) (x : Str) (u : Value) : Prop :=
 (env.kindOf x = some .local /\ m x = some u) \/ ((env.kindOf x = some .cell \/ env.kindOf x = some .free) /\ ∃ c, env.cells.lookup x = some c /\ h.IsCell c (some u))
structure Cx.Ok (X : Cx) : Prop where
 mod : Mod X.K X.mg X.base
 kind : X.env.scope.kind = .function
 glob : X.env.globals = mainGlobals
 blt : X.env.builtins = builtinsNs
 above : X.s₀.heap.objs.size <= X.env.locals
 inj : ∀ x y c, X.env.cells.lookup x = some c -> X.env.cells.lookup y = some c -> x = y
 has : ∀ x, (X.env.kindOf x = some .cell \/ X.env.kindOf x = some .free) -> ∃ c, X.env.cells.lookup x = some c
 cab : ∀ x c, X.fn x = true -> X.env.cells.lookup x = some c -> X.s₀.heap.objs.size <= c
 hd : X.calm = true -> X.A.handled = none
 frames : X.A.frames = some X.stack
 stk : X.stack = X.outer \/ (X.stack = X.env :: X.outer /\ X.env.frame = some X.env.locals)
 exf : ∀ b ∈ X.ex, b ≠ X.env.locals /\ ∀ x c, X.env.cells.lookup x = some c -> c ≠ b
 bs : ∀ b o, X.base.get? b = some o -> X.s₀.heap.get? b = some o /\ X.H₀ b = none
 bsz : X.base.objs.size <= X.s₀.heap.objs.size
 noex : ∀ b o, X.base.get? b = some o -> b ∉ X.ex
 exfs : ∀ b ∈ X.ex, b ∉ X.fs
 funs : X.s₀.heap.FunFrames X.base X.outer
 frf : ∀ b ∈ X.fs, X.H₀ b = none
structure Inv (X : Cx) (pins : List (Addr × Obj)) (σ : List (Option V)) (H : Hp) (s : Shared) : Prop where
 ok : X.Ok
 os : s.os = X.s₀.os
 bare : AllBare s.gens
 base : Un X.fs X.ex X.H₀ H X.s₀.heap s.heap
 loc : ∃ m, s.heap.Ns X.env.locals m /\ ∀ (i : Nat) (x : Str) (v : V), X.N[i]? = some x -> σ[i]? = some (some v) -> Vis X.env.scope x -> ∃ u, RelV v u /\ Look X.env s.heap m x u
 cell : ∀ x c, X.env.cells.lookup x = some c -> ∃ v, s.heap.IsCell c v
 free : H X.env.locals = none
 freeC : ∀ x c, X.env.cells.lookup x = some c -> H c = none
 pin : ∀ p ∈ X.pn ++ pins, s.heap.get? p.1 = some p.2 /\ H p.1 = none /\ p.1 ≠ X.env.locals /\ p.1 ∉ X.fs /\ ∀ v, p.2.data ≠ .cell v
 hok : HOk X.prog X.w H s.heap
 len : σ.length = X.N.length
section
variable {X : Cx} {pins : List (Addr × Obj)} {σ : List (Option V)} {H H' : Hp} {s : Shared} {h' : Heap}
theorem Cx.Ok.nofr (ok : X.Ok) {b : Addr} {o : Obj} (e : X.base.get? b = some o) : b ∉ X.fs := fun hb => by
 have := (ok.funs.mem hb).1
 rw [e] at this; cases this
theorem Inv.bs (I : Inv X pins σ H s) : ∀ b o, X.base.get? b = some o -> s.heap.get? b = some o /\ H b = none := fun b o e =>
 ⟨I.base.keep b o (I.ok.bs b o e).1 (I.ok.bs b o e).2 (I.ok.nofr e) (I.ok.noex b o e), I.base.free b o (I.ok.bs b o e).1 (I.ok.bs b o e).2 (I.ok.noex b o e)⟩
theorem Inv.bk (I : Inv X pins σ H s) : ∀ b o, X.base.get? b = some o -> s.heap.get? b = some o := fun b o e => (I.bs b o e).1
theorem Inv.mod (I : Inv X pins σ H s) : Mod X.K X.mg X.base := I.ok.mod
theorem Inv.kIn (I : Inv X pins σ H s) : X.K.In s.heap := I.ok.mod.kin.keeps I.bk
theorem Inv.fr (I : Inv X pins σ H s) : ∃ m, Fr X.base X.env.locals s.heap m :=
 let ⟨m, hn, _⟩ := I.loc
 ⟨m, hn, I.bk, Nat.le_trans I.ok.bsz I.ok.above⟩
theorem Inv.lt (I : Inv X pins σ H s) : X.env.locals < s.heap.objs.size := let ⟨_, hn, _⟩ := I.loc; hn.lt
theorem Inv.sz (I : Inv X pins σ H s) : X.s₀.heap.objs.size <= s.heap.objs.size := Nat.le_trans I.ok.above (Nat.le_of_lt I.lt)
theorem Inv.nofs (I : Inv X pins σ H s) {a : Addr} (h : s.heap.objs.size <= a) : a ∉ X.fs := fun hb => by
 obtain ⟨_, o, ho, _⟩ := I.ok.funs.mem hb
 exact absurd (Nat.lt_of_lt_of_le (Heap.lt_size ho) (Nat.le_trans I.sz h)) (Nat.lt_irrefl _)
theorem Inv.cne (I : Inv X pins σ H s) : ∀ x c, X.env.cells.lookup x = some c -> c ≠ X.env.locals := fun x c e z => by
 obtain ⟨v, o, ho, hd⟩ := I.cell x c e
 obtain ⟨m, ⟨o', es, ep, ho', hd', _⟩, _⟩ := I.loc
 rw [z, ho'] at ho; cases ho; rw [hd'] at hd; cases hd
theorem Inv.funs (I : Inv X pins σ H s) : s.heap.FunFrames X.base X.outer := by
 have all : ∀ (l : List Env), (∀ b ∈ frs l, b ∈ X.fs) -> X.s₀.heap.FunFrames X.base l -> s.heap.FunFrames X.base l := by
  intro l
  induction l with
  | nil => intro _ _; trivial
  | cons env r ih =>
   intro hs hl
   obtain ⟨hk, ⟨L, o, hf, hn, ho, hd⟩, hr⟩ := hl
   have hL : L ∈ X.fs := hs L (by unfold frs; rw [List.filterMap_cons, hf]; exact List.mem_cons_self)
   obtain ⟨sl, e⟩ := I.base.slot L o ho (I.ok.frf L hL) hL fun z => I.ok.exfs L z hL
   exact ⟨hk, ⟨L, _, hf, hn, e, hd⟩, ih (fun b hb => hs b (by unfold frs; rw [List.filterMap_cons, hf]; exact List.mem_cons_of_mem _ hb)) hr⟩
 exact all X.outer (fun _ hb => hb) I.ok.funs
theorem Inv.stack (I : Inv X pins σ H s) : s.heap.FunFrames X.base X.stack := by
 rcases I.ok.stk with e | ⟨e, hf⟩
 . rw [e]; exact I.funs
 . rw [e]
   obtain ⟨m, hn, _⟩ := I.loc
   refine .cons (by rw [I.ok.kind]; decide) hf hn ?_ I.funs
   exact Heap.get?_none_of_le (Nat.le_trans I.ok.bsz I.ok.above)
theorem Inv.Tg (I : Inv X pins σ H s) : ∀ b ∈ frs X.stack, b ∈ X.env.locals :: X.fs := fun b hb => by
 rcases I.ok.stk with e | ⟨e, hf⟩
 . rw [e] at hb; exact List.mem_cons_of_mem _ hb
 . rw [e] at hb
   unfold frs at hb
   rw [List.filterMap_cons, hf] at hb
   exact hb
theorem Inv.Ge (I : Inv X pins σ H s) : ∀ b ∈ frs X.stack, H b = none := fun b hb => by
 rcases List.mem_cons.mp (I.Tg b hb) with e | hb
 . rw [e]; exact I.free
 . obtain ⟨_, o, ho, _⟩ := I.ok.funs.mem hb
   exact I.base.free b o ho (I.ok.frf b hb) fun z => I.ok.exfs b z hb
theorem Inv.step {g' : Array GenState} {t' : Nat} {d' : Drawn} {ch : List Addr} (I : Inv X pins σ H s)
 (hch : ∀ b ∈ ch, (b ∈ X.ex \/ X.s₀.heap.objs.size <= b) /\ b ≠ X.env.locals /\ (∀ x c, X.env.cells.lookup x = some c -> c ≠ b) /\ ∀ p ∈ X.pn ++ pins, p.1 ≠ b)
 (keep : ∀ b o, b ≠ X.env.locals -> b ∉ X.fs -> b ∉ ch -> s.heap.get? b = some o -> H b = none -> h'.get? b = some o)
 (slot : ∀ b o, b ≠ X.env.locals -> b ∈ X.fs -> b ∉ ch -> s.heap.get? b = some o -> H b = none -> ∃ sl, h'.get? b = some { o with slots := sl }) (free : ∀ b o, b ∉ ch -> s.heap.get? b = some o -> H b = none -> H' b = none)
 (there : ∀ b o, b ∉ ch -> s.heap.get? b = some o -> ∃ o', h'.get? b = some o')
 (tups : ∀ b xs, H b = some (.tup xs) -> H' b = some (.tup xs)) (frzs : ∀ b o u, H b = some (.frz o u) -> H' b = some (.frz o u)) (tbls : ∀ b ps, H b = some (.tbl ps) -> ∃ more, H' b = some (.tbl (ps ++ more)))
 (ns : ∀ m, s.heap.Ns X.env.locals m -> h'.Ns X.env.locals m) (hok : HOk X.prog X.w H' h') (hg : AllBare g') :
 Inv X pins σ H' { s with heap := h', gens := g', drawn := d', toks := t' } := by
 have neL : ∀ b o, X.s₀.heap.get? b = some o -> b ≠ X.env.locals := fun b o e => Nat.ne_of_lt (Nat.lt_of_lt_of_le (Heap.lt_size e) I.ok.above)
 have neC : ∀ b o, X.s₀.heap.get? b = some o -> b ∉ X.ex -> b ∉ ch := fun b o e hx hb => by
  rcases (hch b hb).1 with z | z
  . exact hx z
  . exact absurd (Nat.lt_of_lt_of_le (Heap.lt_size e) z) (Nat.lt_irrefl _)
 have cellK : ∀ x c, X.env.cells.lookup x = some c -> ∀ v, s.heap.IsCell c v -> h'.IsCell c v := fun x c e v ⟨o, ho, hd⟩ => by
  have nch : c ∉ ch := fun z => (hch c z).2.2.1 x c e rfl
  by_cases hc : c ∈ X.fs
  . obtain ⟨sl, q⟩ := slot c o (I.cne x c e) hc nch ho (I.freeC x c e)
    exact ⟨_, q, hd⟩
  . exact ⟨o, keep c o (I.cne x c e) hc nch ho (I.freeC x c e), hd⟩
 refine ⟨I.ok, I.os, hg, ⟨fun b o e n hb hx => ?_, fun b o e n hb hx => ?_, fun b o e n hx => ?_, fun b o e hx => ?_, fun b xs e => tups b xs (I.base.tups b xs e), fun b o xs e => frzs b o xs (I.base.frzs b o xs e), fun b ps e => ?_⟩, ?_, fun x c e => ?_, ?_, fun x c e => ?_, fun p hp => ?_, hok, I.len⟩
 . exact keep b o (neL b o e) hb (neC b o e hx) (I.base.keep b o e n hb hx) (I.base.free b o e n hx)
 . obtain ⟨sl, e1⟩ := I.base.slot b o e n hb hx
   obtain ⟨sl', e2⟩ := slot b _ (neL b o e) hb (neC b o e hx) e1 (I.base.free b o e n hx)
   exact ⟨sl', e2⟩
 . obtain ⟨o', e1⟩ := I.base.there b o e hx
   exact free b o' (neC b o e hx) e1 (I.base.free b o e n hx)
 . obtain ⟨o', e1⟩ := I.base.there b o e hx
   exact there b o' (neC b o e hx) e1
 . obtain ⟨m1, e1⟩ := I.base.tbls b ps e
   obtain ⟨m2, e2⟩ := tbls b _ e1
   exact ⟨m1 ++ m2, by rw [e2, Array.append_assoc]⟩
 . obtain ⟨m, hn, hl⟩ := I.loc
   refine ⟨m, ns m hn, fun i x v e1 e2 e3 => ?_⟩
   obtain ⟨u, r, l⟩ := hl i x v e1 e2 e3
   refine ⟨u, r, ?_⟩
   rcases l with l | ⟨k, c, e, z⟩
   . exact .inl l
   . exact .inr ⟨k, c, e, cellK x c e _ z⟩
 . obtain ⟨v, z⟩ := I.cell x c e
   exact ⟨v, cellK x c e v z⟩
 . obtain ⟨m, ⟨o, _, _, ho, _⟩, _⟩ := I.loc
   exact free _ o (fun z => (hch _ z).2.1 rfl) ho I.free
 . obtain ⟨v, o, ho, hd⟩ := I.cell x c e
   exact free c o (fun z => (hch c z).2.2.1 x c e rfl) ho (I.freeC x c e)
 . obtain ⟨e, n, ne, nf, d⟩ := I.pin p hp
   have nch : p.1 ∉ ch := fun z => (hch p.1 z).2.2.2 p hp rfl
   exact ⟨keep p.1 p.2 ne nf nch e n, free p.1 p.2 nch e n, ne, nf, d⟩
theorem Inv.un {t' : Nat} (I : Inv X pins σ H s) (u : Un X.fs [] H H' s.heap h') (hok : HOk X.prog X.w H' h') : Inv X pins σ H' { s with heap := h', toks := t' } := by
 obtain ⟨m, ⟨o, es, ep, ho, r⟩, _⟩ := id I.loc
 obtain ⟨sl, hL⟩ := u.any ho I.free (by simp)
 exact I.step (g' := s.gens) (d' := s.drawn) (ch := []) (fun _ z => nomatch z) (fun b o _ hb _ e n => u.keep b o e n hb (by simp)) (fun b o _ hb _ e n => u.slot b o e n hb (by simp)) (fun b o _ e n => u.free b o e n (by simp)) (fun b o _ e => u.there b o e (by simp)) u.tups u.frzs u.tbls (fun m' hm => by
  obtain ⟨o', es', ep', ho', r'⟩ := hm
  rw [ho] at ho'; cases ho'
  exact ⟨_, es', ep', hL, r'⟩) hok I.bare
theorem Inv.call {g' : Array GenState} {t' : Nat} {d' : Drawn} {ch : List Addr} (I : Inv X pins σ H s) (u : Un (frs X.stack) ch H H' s.heap h') (hok : HOk X.prog X.w H' h') (hg : AllBare g')
 (hch : ∀ b ∈ ch, (b ∈ X.ex \/ X.s₀.heap.objs.size <= b) /\ b ≠ X.env.locals /\ (∀ x c, X.env.cells.lookup x = some c -> c ≠ b) /\ ∀ p ∈ X.pn ++ pins, p.1 ≠ b) :
 Inv X pins σ H' { s with heap := h', gens := g', drawn := d', toks := t' } := by
 obtain ⟨m, ⟨o, es, ep, ho, r⟩, _⟩ := id I.loc
 obtain ⟨sl, hL⟩ := u.any ho I.free fun z => (hch _ z).2.1 rfl
 exact I.step (ch := ch) hch (fun b o hL hb hc e n => u.keep b o e n (fun z => (List.mem_cons.mp (I.Tg b z)).elim hL hb) hc) (fun b o _ _ hc e n => u.any e n hc) (fun b o hc e n => u.free b o e n hc) (fun b o hc e => u.there b o e hc) u.tups u.frzs u.tbls (fun m' hm => by
  obtain ⟨o', es', ep', ho', r'⟩ := hm
  rw [ho] at ho'; cases ho'
  exact ⟨_, es', ep', hL, r'⟩) hok hg
theorem Inv.turned {t' : Nat} {it : Addr} (I : Inv X pins σ H s) (k : ∀ b o, b ≠ it -> s.heap.get? b = some o -> h'.get? b = some o) (hn : H it = none) (hL : it ≠ X.env.locals)
 (h1 : it ∈ X.ex \/ X.s₀.heap.objs.size <= it) (h2 : ∀ x c, X.env.cells.lookup x = some c -> c ≠ it) (h3 : ∀ p ∈ X.pn ++ pins, p.1 ≠ it) : Inv X pins σ H { s with heap := h', toks := t' } := by
 have nit : ∀ b u, H b = some u -> b ≠ it := fun b u e z => by rw [z, hn] at e; cases e
 refine I.step (g' := s.gens) (d' := s.drawn) (ch := [it]) (fun b hb => ?_) (fun b o _ _ hc e _ => k b o (fun z => hc (by simp [z])) e) (fun b o _ _ hc e _ => ⟨o.slots, k b o (fun z => hc (by simp [z])) e⟩) (fun _ _ _ _ n => n)
  (fun b o hc e => ⟨o, k b o (fun z => hc (by simp [z])) e⟩) (fun _ _ e => e) (fun _ _ _ e => e) (fun b ps e => ⟨#[], by rw [e]; simp⟩) (fun m hm => ?_) (fun b u e => ?_) I.bare
 . have e : b = it := by simpa using hb
   subst e
   exact ⟨h1, hL, h2, h3⟩
 . obtain ⟨o, es, ep, ho, r⟩ := hm
   exact ⟨o, es, ep, k _ o (Ne.symm hL) ho, r⟩
 . refine (I.hok b u e).stay (fun c v hc q => k c v ?_ q) (fun _ q => q) fun _ _ q => q
   rcases hc with z | z
   . rw [z]; exact nit b u e
   . exact nit c _ z
theorem Inv.tok (I : Inv X pins σ H s) (t : Nat) : Inv X pins σ H { s with toks := t } := I.un (h' := s.heap) (t' := t) Un.refl I.hok
theorem Inv.kept {t' : Nat} (I : Inv X pins σ H s) (k : ∀ b u, s.heap.get? b = some u -> h'.get? b = some u) : Inv X pins σ H { s with heap := h', toks := t' } := I.un (Un.kept k) (I.hok.kept k)
theorem Inv.laid {a : Addr} {o : HO} {t' : Nat} (I : Inv X pins σ H s) (k : ∀ b u, s.heap.get? b = some u -> h'.get? b = some u) (hp : s.heap.objs.size <= a) (new : Ob X.prog X.w (upd H a o) h' a o) :
 Inv X pins σ (upd H a o) { s with heap := h', toks := t' } := I.un (Un.laid k hp (I.hok.fresh hp)) (I.hok.laid k hp new)
theorem Inv.write {x e : Addr} {o : HO} {t' : Nat} (I : Inv X pins σ H s) (mu : Mut (H x)) (he : e = x \/ H e = some (.own x)) (k : ∀ b u, b ≠ e -> s.heap.get? b = some u -> h'.get? b = some u) (heo : ∃ u, h'.get? e = some u)
 (new : Ob X.prog X.w (upd H x o) h' x o) : Inv X pins σ (upd H x o) { s with heap := h', toks := t' } := I.un (Un.write mu he k heo) (I.hok.write mu he k heo new)
theorem Inv.uc {pins' : List (Addr × Obj)} (I : Inv X pins σ H s) (h : ∀ p ∈ pins', s.heap.get? p.1 = some p.2 /\ H p.1 = none /\ p.1 ≠ X.env.locals /\ p.1 ∉ X.fs /\ ∀ v, p.2.data ≠ .cell v) : Inv X pins' σ H s :=
 ⟨I.ok, I.os, I.bare, I.base, I.loc, I.cell, I.free, I.freeC, fun p hp => (List.mem_append.mp hp).elim (fun z => I.pin p (List.mem_append_left _ z)) (h p), I.hok, I.len⟩
theorem ni {N : List Str} (hN : N.Nodup) {i j : Nat} {x : Str} (a : N[i]? = some x) (b : N[j]? = some x) : i = j := by
 obtain ⟨h1, e1⟩ := List.getElem?_eq_some_iff.mp a
 obtain ⟨h2, e2⟩ := List.getElem?_eq_some_iff.mp b
 exact (List.getElem_inj hN).mp (e1.trans e2.symm)
theorem Zm {M : Model} {A : Around} {E : Value -> Shared -> Prop} {i : Nat} {x : Str} {v : V} {u : Value} {Q : Unit -> Shared -> Prop} (I : Inv X pins σ H s) (hN : X.N.Nodup) (hi : X.N[i]? = some x) (hx : Loc X.env.scope x) (r : RelV v u)
 (h : ∀ s', Inv X pins (σ.set i (some v)) H s' -> (∃ a, Heap.SameBut a s.heap s'.heap /\ (a = X.env.locals \/ X.env.cells.lookup x = some a)) -> Q () s') (hf : X.fn x = true \/ X.env.scope.names.lookup x = some .local := by first | exact .inl rfl | exact .inr rfl | assumption | with_unfolding_all exact .inl rfl | with_unfolding_all exact .inr rfl) : wpAny M A (storeName X.env x u) Q E s := by
 obtain ⟨m, hn, hl⟩ := id I.loc
 have hcls : (X.env.scope.kind == .class || (X.env.scope.kind == .module && X.env.locals != X.env.globals)) = false := by rw [I.ok.kind]; rfl
 have hiσ : i < σ.length := by rw [I.len]; exact (List.getElem?_eq_some_iff.mp hi).1
 have cne := I.cne
 have tracked : ∀ {a : Addr} {h' : Heap}, (∃ o, s.heap.get? a = some o /\ H a = none) -> Heap.SameBut a s.heap h' -> HOk X.prog X.w H h' := fun {a h'} ha hs b ob e => by
  obtain ⟨_, _, hfree⟩ := ha
  refine (I.hok b ob e).stay (fun c w' hc q => (hs.2 c ?_).trans q) (fun _ q => q) fun _ _ q => q
  rintro rfl
  rcases hc with rfl | hc
  . rw [hfree] at e; cases e
  . rw [hfree] at hc; cases hc
 rcases hx with hk | hk
 . refine wpAny_storeName_local hk hn (fun h' hn' hs => ?_) hcls
   obtain ⟨oL, _, _, hoL, _⟩ := id hn
   refine h _ ⟨I.ok, I.os, I.bare, ⟨fun b o e n hb hx => ?_, fun b o e n hb hx => ?_, I.base.free, fun b o e hx => ?_, I.base.tups, I.base.frzs, I.base.tbls⟩, ⟨_, hn', fun j y v' e1 e2 e3 => ?_⟩, fun y c e => ?_, I.free, I.freeC, fun p hp => ?_, tracked ⟨oL, hoL, I.free⟩ hs, by simpa using I.len⟩ ⟨_, hs, .inl rfl⟩
   . exact (hs.2 b (Nat.ne_of_lt (Nat.lt_of_lt_of_le (Heap.lt_size e) I.ok.above))).trans (I.base.keep b o e n hb hx)
   . obtain ⟨sl, e1⟩ := I.base.slot b o e n hb hx
     exact ⟨sl, (hs.2 b (Nat.ne_of_lt (Nat.lt_of_lt_of_le (Heap.lt_size e) I.ok.above))).trans e1⟩
   . obtain ⟨o', e1⟩ := I.base.there b o e hx
     exact ⟨o', (hs.2 b (Nat.ne_of_lt (Nat.lt_of_lt_of_le (Heap.lt_size e) I.ok.above))).trans e1⟩
   . by_cases hj : j = i
     . subst hj
       rw [hi] at e1; cases e1
       rw [List.getElem?_set_self hiσ] at e2
       cases e2
       exact ⟨u, r, .inl ⟨hk, by simp⟩⟩
     . rw [List.getElem?_set_ne (Ne.symm hj)] at e2
       obtain ⟨u', r', q⟩ := hl j y v' e1 e2 e3
       refine ⟨u', r', ?_⟩
       rcases q with ⟨k, e⟩ | ⟨k, c, e, z⟩
       . refine .inl ⟨k, ?_⟩
         have : y ≠ x := fun e => hj (ni hN e1 (e ▸ hi))
         simp [this, e]
       . exact .inr ⟨k, c, e, z.sameBut hs (cne y c e)⟩
   . obtain ⟨w', z⟩ := I.cell y c e
     exact ⟨w', z.sameBut hs (cne y c e)⟩
   . obtain ⟨e, n, ne, nf, d⟩ := I.pin p hp
     exact ⟨(hs.2 p.1 ne).trans e, n, ne, nf, d⟩
 . have hfn : X.fn x = true := by
    rcases hf with z | z
    . exact z
    . rw [z] at hk; cases hk
   obtain ⟨c, hc⟩ := I.ok.has x (.inl hk)
   obtain ⟨w', z⟩ := I.cell x c hc
   refine wpAny_storeName_cell I.ok.kind hk hc z (fun h' hc' hs => ?_)
   obtain ⟨oc, hoc, hocd⟩ := id z
   refine h { s with heap := h' } ⟨I.ok, I.os, I.bare, ⟨fun b o e n hb hx => ?_, fun b o e n hb hx => ?_, I.base.free, fun b o e hx => ?_, I.base.tups, I.base.frzs, I.base.tbls⟩, ⟨m, hn.sameBut hs (Ne.symm (cne x c hc)), fun j y v' e1 e2 e3 => ?_⟩, fun y c' e => ?_, I.free, I.freeC, fun p hp => ?_, tracked ⟨oc, hoc, I.freeC x c hc⟩ hs, by simpa using I.len⟩ ⟨c, hs, .inr hc⟩
   . exact (hs.2 b (Nat.ne_of_lt (Nat.lt_of_lt_of_le (Heap.lt_size e) (I.ok.cab x c hfn hc)))).trans (I.base.keep b o e n hb hx)
   . obtain ⟨sl, e1⟩ := I.base.slot b o e n hb hx
     exact ⟨sl, (hs.2 b (Nat.ne_of_lt (Nat.lt_of_lt_of_le (Heap.lt_size e) (I.ok.cab x c hfn hc)))).trans e1⟩
   . obtain ⟨o', e1⟩ := I.base.there b o e hx
     exact ⟨o', (hs.2 b (Nat.ne_of_lt (Nat.lt_of_lt_of_le (Heap.lt_size e) (I.ok.cab x c hfn hc)))).trans e1⟩
   . by_cases hj : j = i
     . subst hj
       rw [hi] at e1; cases e1
       rw [List.getElem?_set_self hiσ] at e2
       cases e2
       exact ⟨u, r, .inr ⟨.inl hk, c, hc, hc'⟩⟩
     . rw [List.getElem?_set_ne (Ne.symm hj)] at e2
       obtain ⟨u', r', q⟩ := hl j y v' e1 e2 e3
       refine ⟨u', r', ?_⟩
       rcases q with q | ⟨k, c', e, z'⟩
       . exact .inl q
       . refine .inr ⟨k, c', e, z'.sameBut hs ?_⟩
         rintro rfl
         exact hj (ni hN e1 (I.ok.inj _ _ _ e hc ▸ hi))
   . by_cases hcc : c' = c
     . subst hcc; exact ⟨_, hc'⟩
     . obtain ⟨w2, z2⟩ := I.cell y c' e
       exact ⟨w2, z2.sameBut hs hcc⟩
   . obtain ⟨e, n, ne, nf, d⟩ := I.pin p hp
     refine ⟨(hs.2 p.1 ?_).trans e, n, ne, nf, d⟩
     intro q
     rw [q, hoc] at e
     have q' : oc = p.2 := Option.some.inj e
     exact d w' (by rw [<- q']; exact hocd)
theorem Ed {M : Model} {A : Around} {E : Value -> Shared -> Prop} {i : Nat} {x : Str} {v : V} {u : Value} {Q : Unit -> Shared -> Prop} (I : Inv X pins σ H s) (hN : X.N.Nodup) (hi : X.N[i]? = some x) (hx : Loc X.env.scope x) (r : RelV v u)
 (h : ∀ s', Inv X pins (σ.set i (some v)) H s' -> Q () s') (hf : X.fn x = true \/ X.env.scope.names.lookup x = some .local := by first | exact .inl rfl | exact .inr rfl | assumption | with_unfolding_all exact .inl rfl | with_unfolding_all exact .inr rfl) : wpAny M A (storeName X.env x u) Q E s :=
 Zm I hN hi hx r (fun s' I' _ => h s' I') hf
theorem Inv.call' {s' : Shared} {ch : List Addr} (I : Inv X pins σ H s) (ho : s'.os = s.os) (u : Un (frs X.stack) ch H H' s.heap s'.heap) (hok : HOk X.prog X.w H' s'.heap) (hg : AllBare s'.gens)
 (hch : ∀ b ∈ ch, (b ∈ X.ex \/ X.s₀.heap.objs.size <= b) /\ b ≠ X.env.locals /\ (∀ x c, X.env.cells.lookup x = some c -> c ≠ b) /\ ∀ p ∈ X.pn ++ pins, p.1 ≠ b) : Inv X pins σ H' s' := by
 obtain ⟨h', g', d', t', o'⟩ := s'
 have e : o' = s.os := ho
 subst e
 exact I.call (g' := g') (t' := t') (d' := d') u hok hg hch
end
abbrev XK := Value -> Option Addr -> Hp -> Prop
abbrev St := List (Option V)
abbrev VK := V -> Hp -> Prop
abbrev TE := St -> Hp -> VK -> Prop
abbrev TT := St -> Hp -> (Bool -> Hp -> Prop) -> Prop
abbrev TA := St -> Hp -> (List V -> Hp -> Prop) -> Prop
structure Ends where
 nx : St -> Hp -> Prop
 rt : VK
 bk : St -> Hp -> Prop := fun _ _ => False
 ct : St -> Hp -> Prop := fun _ _ => False
abbrev TS := Ends -> St -> Hp -> Prop
def EP (X : Cx) (pins : List (Addr × Obj)) (σ : St) (Q : VK) (u : Value) (s' : Shared) : Prop := ∃ v H', Inv X pins σ H' s' /\ RelV v u /\ Q v H'
def TP (X : Cx) (pins : List (Addr × Obj)) (σ : St) (Q : Bool -> Hp -> Prop) (b : Bool) (s' : Shared) : Prop := ∃ H', Inv X pins σ H' s' /\ Q b H'
def AP (X : Cx) (pins : List (Addr × Obj)) (σ : St) (Q : List V -> Hp -> Prop) (us : List Value) (s' : Shared) : Prop := ∃ vs H', Inv X pins σ H' s' /\ Vals vs us /\ Q vs H'
def SP (X : Cx) (pins : List (Addr × Obj)) (D : Ends) (f : Flow) (s' : Shared) : Prop :=
 match f with
 | .next => ∃ σ' H', Inv X pins σ' H' s' /\ D.nx σ' H'
 | .brk => ∃ σ' H', Inv X pins σ' H' s' /\ D.bk σ' H'
 | .cont => ∃ σ' H', Inv X pins σ' H' s' /\ D.ct σ' H'
 | .ret u => ∃ v σ' H', Inv X pins σ' H' s' /\ RelV v u /\ D.rt v H'
def PE (X : Cx) (e : Expr) (t : TE) : Prop :=
 ∀ (pins : List (Addr × Obj)) (s : Shared) (σ : St) (H : Hp) (Q : VK), Inv X pins σ H s -> t σ H Q -> wpAny (model X.prog X.w) X.A (eval e X.env) (EP X pins σ Q) X.xe s
def PT (X : Cx) (e : Expr) (t : TT) : Prop :=
 ∀ (pins : List (Addr × Obj)) (s : Shared) (σ : St) (H : Hp) (Q : Bool -> Hp -> Prop), Inv X pins σ H s -> t σ H Q -> wpAny (model X.prog X.w) X.A (isTrue e X.env (eval e X.env)) (TP X pins σ Q) X.xe s
def PW (X : Cx) (e : Expr) (t : TT) : Prop :=
 ∀ (whole : Sem Value) (pins : List (Addr × Obj)) (s : Shared) (σ : St) (H : Hp) (Q : Bool -> Hp -> Prop), Inv X pins σ H s -> t σ H Q -> wpAny (model X.prog X.w) X.A (isTrue e X.env whole) (TP X pins σ Q) X.xe s
theorem PW.pt {X : Cx} {e : Expr} {t : TT} (h : PW X e t) : PT X e t := h _
def PA (X : Cx) (es : List Expr) (t : TA) : Prop :=
 ∀ (pos : Pos) (pins : List (Addr × Obj)) (s : Shared) (σ : St) (H : Hp) (Q : List V -> Hp -> Prop), Inv X pins σ H s -> t σ H Q -> wpAny (model X.prog X.w) X.A (spliced (backTo pos (starEach es X.env))) (AP X pins σ Q) X.xe s
def PS (X : Cx) (st : Stmt) (t : TS) : Prop :=
 ∀ (pins : List (Addr × Obj)) (s : Shared) (σ : St) (H : Hp) (D : Ends), Inv X pins σ H s -> t D σ H -> wpAny (model X.prog X.w) X.A (exec st X.env) (SP X pins D) X.xe s
def PSs (X : Cx) (st : List Stmt) (t : TS) : Prop :=
 ∀ (pins : List (Addr × Obj)) (s : Shared) (σ : St) (H : Hp) (D : Ends), Inv X pins σ H s -> t D σ H -> wpAny (model X.prog X.w) X.A (execs st X.env) (SP X pins D) X.xe s
theorem thn {α : Type} {t : Sem α} {Q Q' : α -> Shared -> Prop} {M : Model} {A : Around} {E : Value -> Shared -> Prop} {s : Shared} (h : wpAny M A t Q E s) (hQ : ∀ a s, Q a s -> Q' a s) : wpAny M A t Q' E s := wpAny_mono h hQ fun _ _ x => x
end L2
namespace L2
open PySem PySem.Spec PyProof.Rows
section
variable {X : Cx}
def tVar (i : Nat) : TE := fun σ H Q => ∃ v, σ[i]? = some (some v) /\ Q v H
def tC (v : V) : TE := fun _ H Q => Q v H
theorem pe_var {i : Nat} {x : Str} {pos : Pos} (hN : X.N[i]? = some x) (hv : Vis X.env.scope x) (hd : (x == ("__debug__" : Str)) = false := by decide) (hcd : (x == ("__classdict__" : Str)) = false := by decide) : PE X (.Name x pos) (tVar i) := by
 intro pins s σ H Q I h
 obtain ⟨v, e, h⟩ := h
 obtain ⟨m, hn, hl⟩ := I.loc
 obtain ⟨u, r, l⟩ := hl i x v hN e hv
 have fin : EP X pins σ Q u s := ⟨v, H, I, r, h⟩
 rcases l with ⟨hk, hm⟩ | ⟨hk, c, hc, hcell⟩
 . exact wpAny_Name (wpAny_loadName_local I.ok.kind hk hn hm fin) hd
 . rcases hk with hk | hk
   . exact wpAny_Name (wpAny_loadName_cell I.ok.kind hk hc hcell fin) hd
   . exact wpAny_Name (wpAny_loadName_free I.ok.kind hk hc hcell fin hcd) hd
theorem ia {i j pos} : PE X (.Constant (.int i) j pos) (tC (.int i)) := fun _ _ _ H _ I h => wpAny_Constant_int ⟨.int i, H, I.tok _, ⟨_, rfl⟩, h⟩
theorem ai {b j pos} : PE X (.Constant (.bool b) j pos) (tC (.bl b)) := fun _ _ _ H _ I h => Constant_bool ⟨.bl b, H, I, rfl, h⟩
theorem ff {j pos} : PE X (.Constant .none j pos) (tC .non) := fun _ _ _ H _ I h => Constant_none ⟨.non, H, I, rfl, h⟩
theorem Ha {x j pos} : PE X (.Constant (.str x) j pos) (tC (.str x)) := fun _ _ _ H _ I h => Calls.Constant_str ⟨.str x, H, I.tok _, ⟨_, rfl⟩, h⟩
def Gl (X : Cx) (x : Str) : Prop := X.env.kindOf x = some .globalImplicit
theorem Te {E : Value -> Shared -> Prop} {pins : List (Addr × Obj)} {s : Shared} {σ : St} {H : Hp} {x : Str} {u : Value} {pos : Pos} {Q : Value -> Shared -> Prop} (I : Inv X pins σ H s) (hg : Gl X x) (hm : X.mg x = some u) (h : Q u s)
 (hd : (x == ("__debug__" : Str)) = false := by decide) : wpAny (model X.prog X.w) X.A (eval (.Name x pos) X.env) Q E s :=
 Calls.Name_function_global I.ok.kind hg (Calls.loadGlobal_global (by rw [I.ok.glob]; exact I.mod.glob.keeps I.bk) hm h) hd
theorem dg {E : Value -> Shared -> Prop} {pins : List (Addr × Obj)} {s : Shared} {σ : St} {H : Hp} {x : Str} {u : Value} {pos : Pos} {Q : Value -> Shared -> Prop} (I : Inv X pins σ H s) (hg : Gl X x) (hm : X.mg x = none) (hv : bootBuiltins x = some u) (h : Q u s)
 (hn : x ≠ "__name__" := by decide) (hd : (x == ("__debug__" : Str)) = false := by decide) : wpAny (model X.prog X.w) X.A (eval (.Name x pos) X.env) Q E s := by
 obtain ⟨mb, h1, h2⟩ := I.mod.blt
 exact Calls.Name_function_global I.ok.kind hg (Calls.loadGlobal_builtin (by rw [I.ok.glob]; exact I.mod.glob.keeps I.bk) hm (by rw [I.ok.blt]; exact h1.keeps I.bk) ((h2 x hn).trans hv) h) hd
theorem Oo {x : Str} {v : V} {u : Value} {pos : Pos} (hg : Gl X x) (hm : X.mg x = some u) (r : RelV v u) (hd : (x == ("__debug__" : Str)) = false := by decide) : PE X (.Name x pos) (tC v) :=
 fun _ _ _ H _ I h => Te I hg hm ⟨v, H, I, r, h⟩ hd
theorem Zj {x : Str} {v : V} {u : Value} {pos : Pos} (hg : Gl X x) (hm : X.mg x = none) (hv : bootBuiltins x = some u) (r : RelV v u) (hn : x ≠ "__name__" := by decide) (hd : (x == ("__debug__" : Str)) = false := by decide) : PE X (.Name x pos) (tC v) :=
 fun _ _ _ H _ I h => dg I hg hm hv ⟨v, H, I, r, h⟩ hn hd
variable {a b : Expr} {ta tb : TE} {pos : Pos}
variable {tA tB' : TT} {rest : List Expr}
def tAnd (t u : TT) : TT := fun σ H Q => t σ H fun c H1 => if c = true then u σ H1 Q else Q false H1
def tOr (t u : TT) : TT := fun σ H Q => t σ H fun c H1 => if c = true then Q true H1 else u σ H1 Q
def tNot (t : TT) : TT := fun σ H Q => t σ H fun c H1 => Q (!c) H1
theorem Tf (ha : PT X a tA) : PW X (.BoolOp .And [a] pos) tA := by
 intro wh pins s σ H Q I h
 refine isTrue_and (thn (ha pins s σ H Q I h) fun c s1 e => ?_)
 cases c with
 | true => exact isTrue_and_nil e
 | false => exact e
theorem Pd (ha : PT X a tA) : PW X (.BoolOp .Or [a] pos) tA := by
 intro wh pins s σ H Q I h
 refine isTrue_or (thn (ha pins s σ H Q I h) fun c s1 e => ?_)
 cases c with
 | false => exact isTrue_or_nil e
 | true => exact e
theorem bj (ha : PT X a tA) (hb : PW X (.BoolOp .And (b :: rest) pos) tB') : PW X (.BoolOp .And (a :: b :: rest) pos) (tAnd tA tB') := by
 intro wh pins s σ H Q I h
 refine isTrue_and (thn (ha pins s σ H _ I h) fun c s1 ⟨H1, I1, q1⟩ => ?_)
 cases c with
 | true => exact hb wh pins s1 σ H1 Q I1 q1
 | false => exact ⟨H1, I1, q1⟩
theorem Pe (ha : PT X a tA) (hb : PW X (.BoolOp .Or (b :: rest) pos) tB') : PW X (.BoolOp .Or (a :: b :: rest) pos) (tOr tA tB') := by
 intro wh pins s σ H Q I h
 refine isTrue_or (thn (ha pins s σ H _ I h) fun c s1 ⟨H1, I1, q1⟩ => ?_)
 cases c with
 | true => exact ⟨H1, I1, q1⟩
 | false => exact hb wh pins s1 σ H1 Q I1 q1
theorem dh (ha : PT X a tA) : PT X (.UnaryOp .Not a pos) (tNot tA) := by
 intro pins s σ H Q I h
 exact isTrue_not (ha pins s σ H (fun c H1 => Q (!c) H1) I h)
def tAndV (ta tb : TE) : TE := fun σ H Q => ta σ H fun x H1 => ∃ c, x = .bl c /\ if c = true then tb σ H1 Q else Q (.bl false) H1
def tOrV (ta tb : TE) : TE := fun σ H Q => ta σ H fun x H1 => ∃ c, x = .bl c /\ if c = true then Q (.bl true) H1 else tb σ H1 Q
def tNotV (ta : TE) : TE := fun σ H Q => ta σ H fun x H1 => ∃ c, x = .bl c /\ Q (.bl (!c)) H1
theorem Wf {op} {t : TE} (h : PE X a t) : PE X (.BoolOp op [a] pos) t := fun pins s σ H Q I hw => BoolOp_one (h pins s σ H Q I hw)
theorem ej (ha : PE X a ta) (hb : PE X (.BoolOp .And (b :: rest) pos) tb) : PE X (.BoolOp .And (a :: b :: rest) pos) (tAndV ta tb) := by
 intro pins s σ H Q I h
 refine BoolOp_and (thn (ha pins s σ H _ I h) fun v s1 ⟨x, H1, I1, r1, q1⟩ => ?_)
 obtain ⟨c, rfl, q1⟩ := q1
 cases r1
 refine wpAny_truthy_bool ?_
 cases c with
 | true => exact hb pins s1 σ H1 Q I1 q1
 | false => exact ⟨.bl false, H1, I1, rfl, q1⟩
theorem Ou (ha : PE X a ta) (hb : PE X (.BoolOp .Or (b :: rest) pos) tb) : PE X (.BoolOp .Or (a :: b :: rest) pos) (tOrV ta tb) := by
 intro pins s σ H Q I h
 refine BoolOp_or (thn (ha pins s σ H _ I h) fun v s1 ⟨x, H1, I1, r1, q1⟩ => ?_)
 obtain ⟨c, rfl, q1⟩ := q1
 cases r1
 refine wpAny_truthy_bool ?_
 cases c with
 | false => exact hb pins s1 σ H1 Q I1 q1
 | true => exact ⟨.bl true, H1, I1, rfl, q1⟩
theorem pe_not (ha : PE X a ta) : PE X (.UnaryOp .Not a pos) (tNotV ta) := by
 intro pins s σ H Q I h
 refine UnaryOp_ (thn (ha pins s σ H _ I h) fun v s1 ⟨x, H1, I1, r1, q1⟩ => ?_)
 obtain ⟨c, rfl, q1⟩ := q1
 cases r1
 exact not_of (wpAny_truthy_bool ⟨.bl (!c), H1, I1, rfl, q1⟩)
end
end L2
namespace L2
open PySem PySem.Spec PyProof.Rows
def SqL (K : PySem.W.Frag) (H : Hp) (a : Addr) (xs : List V) : Prop :=
 Rd H a (.lst xs) \/
  ∃ (o : Obj) (its : Array Value) (n : Nat), K.lookup a = some o /\ o.cls = .type "list" /\ o.dict = none /\ o.data = .seq its n /\ its.size <= sizeLine /\ Vals xs its.toList
def SqT (K : PySem.W.Frag) (H : Hp) (a : Addr) (xs : List V) : Prop :=
 Rd H a (.tup xs) \/
  ∃ (o : Obj) (its : Array Value) (n : Nat), K.lookup a = some o /\ o.cls = .type "tuple" /\ o.data = .seq its n /\ its.size <= sizeLine /\ Vals xs its.toList
def absV : Value -> Option V
 | .none => some .non
 | .bool b => some (.bl b)
 | .int i _ => some (.int i)
 | .str x _ => some (.str x)
 | .bytes b _ => some (.byt b)
 | .float b _ => some (.flt b)
 | .ref a => some (.ref a)
 | .type n => some (.ty n)
 | _ => none
theorem RelV.abs {x : V} {u : Value} (r : RelV x u) : absV u = some x := by
 cases x with
 | non => cases r; rfl
 | bl _ => cases r; rfl
 | int _ => obtain ⟨t, rfl⟩ := r; rfl
 | str _ => obtain ⟨t, rfl⟩ := r; rfl
 | byt _ => obtain ⟨t, rfl⟩ := r; rfl
 | flt _ => obtain ⟨t, rfl⟩ := r; rfl
 | ref _ => cases r; rfl
 | ty _ => cases r; rfl
theorem RelV.inj {x y : V} {u : Value} (r : RelV x u) (q : RelV y u) : x = y := Option.some.inj (r.abs.symm.trans q.abs)
theorem Vals.inj : ∀ {xs ys : List V} {us : List Value}, Vals xs us -> Vals ys us -> xs = ys
 | _, _, _, .nil, .nil => rfl
 | _, _, _, .cons r t, .cons r' t' => by rw [r.inj r', Vals.inj t t']
section
variable {X : Cx} {pins : List (Addr × Obj)} {σ : St} {H : Hp} {s : Shared} {a : Addr} {xs ys : List V}
theorem SqL.of {K : PySem.W.Frag} (h : H a = some (.lst xs)) : SqL K H a xs := .inl (.inl h)
theorem SqT.of {K : PySem.W.Frag} (h : H a = some (.tup xs)) : SqT K H a xs := .inl (.inl h)
theorem Inv.list (I : Inv X pins σ H s) (h : SqL X.K H a xs) : ∃ its : List Value, Vals xs its /\ PlainL s.heap a its.toArray /\ xs.length <= sizeLine := by
 rcases h with h | ⟨o, its, n, hk, hc, hd, hs, hz, r⟩
 . obtain ⟨z, its, n, r, e⟩ := h.ok I.hok
   exact ⟨its, r, ⟨_, n, e, rfl, rfl, rfl⟩, z⟩
 . refine ⟨its.toList, r, ⟨o, n, I.kIn a o hk, hc, hd, by simpa using hs⟩, ?_⟩
   have e := r.length
   simp only [Array.length_toList] at e
   omega
theorem Inv.tuple (I : Inv X pins σ H s) (h : SqT X.K H a xs) : ∃ its : List Value, Vals xs its /\ IsTup s.heap a its.toArray /\ xs.length <= sizeLine := by
 rcases h with h | ⟨o, its, n, hk, hc, hs, hz, r⟩
 . obtain ⟨z, its, r, p⟩ := h.ok I.hok
   exact ⟨its, r, p, z⟩
 . refine ⟨its.toList, r, ⟨o, I.kIn a o hk, hc, n, by simpa using hs⟩, ?_⟩
   have e := r.length
   simp only [Array.length_toList] at e
   omega
theorem Inv.Kl (I : Inv X pins σ H s) (h : SqL X.K H a xs) (h' : SqL X.K H a ys) : xs = ys := by
 obtain ⟨its, r, ⟨o, n, e, _, _, d⟩, _⟩ := I.list h
 obtain ⟨its', r', ⟨o', n', e', _, _, d'⟩, _⟩ := I.list h'
 rw [e] at e'; cases e'
 rw [d] at d'
 injection d' with d1 _
 have : its = its' := by simpa using congrArg Array.toList d1
 subst this
 exact r.inj r'
theorem Inv.Vm (I : Inv X pins σ H s) (h : SqT X.K H a xs) (h' : SqT X.K H a ys) : xs = ys := by
 obtain ⟨its, r, ⟨o, e, _, n, d⟩, _⟩ := I.tuple h
 obtain ⟨its', r', ⟨o', e', _, n', d'⟩, _⟩ := I.tuple h'
 rw [e] at e'; cases e'
 rw [d] at d'
 injection d' with d1 _
 have : its = its' := by simpa using congrArg Array.toList d1
 subst this
 exact r.inj r'
end
abbrev Cx.wish (X : Cx) (E : Value -> Shared -> Prop) : Cx := { X with xe := E }
abbrev Cx.nox (X : Cx) : Cx := X.wish fun _ _ => False
theorem Cx.Ok.wish {X : Cx} (ok : X.Ok) (E : Value -> Shared -> Prop) : (X.wish E).Ok :=
 ⟨ok.mod, ok.kind, ok.glob, ok.blt, ok.above, ok.inj, ok.has, ok.cab, ok.hd, ok.frames, ok.stk, ok.exf, ok.bs, ok.bsz, ok.noex, ok.exfs, ok.funs, ok.frf⟩
theorem Cx.Ok.Ze {X : Cx} {E : Value -> Shared -> Prop} (ok : (X.wish E).Ok) : X.Ok :=
 ⟨ok.mod, ok.kind, ok.glob, ok.blt, ok.above, ok.inj, ok.has, ok.cab, ok.hd, ok.frames, ok.stk, ok.exf, ok.bs, ok.bsz, ok.noex, ok.exfs, ok.funs, ok.frf⟩
section
variable {X : Cx} {pins : List (Addr × Obj)} {σ : St} {H : Hp} {s : Shared} {E : Value -> Shared -> Prop}
theorem Inv.wish (I : Inv X pins σ H s) (E : Value -> Shared -> Prop) : Inv (X.wish E) pins σ H s := ⟨I.ok.wish E, I.os, I.bare, I.base, I.loc, I.cell, I.free, I.freeC, I.pin, I.hok, I.len⟩
theorem Inv.Ze (I : Inv (X.wish E) pins σ H s) : Inv X pins σ H s := ⟨I.ok.Ze, I.os, I.bare, I.base, I.loc, I.cell, I.free, I.freeC, I.pin, I.hok, I.len⟩
theorem SP.Ze {D : Ends} {f : Flow} {s' : Shared} (h : SP (X.wish E) pins D f s') : SP X pins D f s' := by
 cases f with
 | next => obtain ⟨σ', H', I, q⟩ := h; exact ⟨σ', H', I.Ze, q⟩
 | brk => obtain ⟨σ', H', I, q⟩ := h; exact ⟨σ', H', I.Ze, q⟩
 | cont => obtain ⟨σ', H', I, q⟩ := h; exact ⟨σ', H', I.Ze, q⟩
 | ret u => obtain ⟨v, σ', H', I, r, q⟩ := h; exact ⟨v, σ', H', I.Ze, r, q⟩
theorem PSs.nox {st : List Stmt} {t : TS} (h : PSs X.nox st t) : PSs X st t := fun pins s σ H D I hw =>
 wpAny_mono (h pins s σ H D (I.wish _) hw) (fun _ _ q => q.Ze) fun _ _ z => False.elim z
end
section
variable {X : Cx} {st : Stmt} {rest : List Stmt} {t u : TS} {e : Expr} {te : TE} {pos : Pos}
def tNext : TS := fun D σ H => D.nx σ H
def tSeq (t u : TS) : TS := fun D σ H => t { D with nx := u D } σ H
theorem Ca : PSs X [] tNext := fun _ _ σ H _ I h => wpAny_execs_nil ⟨σ, H, I, h⟩
theorem ba (h1 : PS X st t) (h2 : PSs X rest u) : PSs X (st :: rest) (tSeq t u) := by
 intro pins s σ H D I h
 refine wpAny_execs_cons (thn (h1 pins s σ H { D with nx := u D } I h) fun f s1 q => ?_)
 cases f with
 | next =>
  obtain ⟨σ', H', I', q⟩ := q
  exact h2 pins s1 σ' H' D I' q
 | ret v => exact q
 | brk => exact q
 | cont => exact q
theorem ma (h1 : PS X st t) : PSs X [st] t := by
 intro pins s σ H D I h
 refine wpAny_execs_cons (thn (h1 pins s σ H D I h) fun f s1 q => ?_)
 cases f with
 | next => exact wpAny_execs_nil q
 | ret v => exact q
 | brk => exact q
 | cont => exact q
theorem Inv.quiet {pins : List (Addr × Obj)} {σ : St} {H : Hp} {s : Shared} (I : Inv X pins σ H s) : interactive X.env = false := by simp [interactive, I.ok.kind]
def tDrop (te : TE) : TS := fun D σ H => te σ H fun _ H1 => D.nx σ H1
theorem Ab (he : PE X e te) (hs : swapsWith e none pos.line X.env = pure false := by first | rfl | with_unfolding_all rfl) : PS X (.Expr e pos) (tDrop te) := by
 intro pins s σ H D I h
 exact wpAny_Expr_any (thn (he pins s σ H _ I h) fun v s1 ⟨x, H1, I1, r1, q1⟩ => ⟨σ, H1, I1, q1⟩) I.quiet hs
def tRet (te : TE) : TS := fun D σ H => te σ H D.rt
theorem xa (he : PE X e te) : PS X (.Return (some e) pos) (tRet te) := by
 intro pins s σ H D I h
 exact wpAny_Return_some (thn (he pins s σ H _ I h) fun v s1 ⟨x, H1, I1, r1, q1⟩ => ⟨x, σ, H1, I1, r1, q1⟩)
def tIfS (c : TT) (t u : TS) : TS := fun D σ H => c σ H fun b H1 => if b = true then t D σ H1 else u D σ H1
theorem Sa {c : Expr} {a b : List Stmt} {tc : TT} (hc : PT X c tc) (ha : PSs X a t) (hb : PSs X b u) : PS X (.If c a b pos) (tIfS tc t u) := by
 intro pins s σ H D I h
 refine wpAny_If (thn (hc pins s σ H _ I h) fun d s1 ⟨H1, I1, q1⟩ => ?_)
 cases d with
 | true => exact ha pins s1 σ H1 D I1 q1
 | false => exact hb pins s1 σ H1 D I1 q1
end
abbrev TG := V -> St -> Hp -> (St -> Hp -> Prop) -> Prop
abbrev TGs := List V -> St -> Hp -> (St -> Hp -> Prop) -> Prop
def PG (X : Cx) (target : Expr) (t : TG) : Prop :=
 ∀ (pins : List (Addr × Obj)) (s : Shared) (σ : St) (H : Hp) (v : V) (u : Value) (Q : St -> Hp -> Prop), Inv X pins σ H s -> RelV v u -> t v σ H Q ->
  wpAny (model X.prog X.w) X.A (assign target X.env u) (fun _ s' => ∃ σ' H', Inv X pins σ' H' s' /\ Q σ' H') X.xe s
def PGs (X : Cx) (ts : List Expr) (t : TGs) : Prop :=
 ∀ (pins : List (Addr × Obj)) (s : Shared) (σ : St) (H : Hp) (vs : List V) (us : List Value) (Q : St -> Hp -> Prop), Inv X pins σ H s -> Vals vs us -> t vs σ H Q ->
  wpAny (model X.prog X.w) X.A (assignInOrder ((assignEach ts X.env).map (·.2)) us) (fun _ s' => ∃ σ' H', Inv X pins σ' H' s' /\ Q σ' H') X.xe s
abbrev TSet := V -> V -> V -> Hp -> (Hp -> Prop) -> Prop
def PSet (X : Cx) (t : TSet) : Prop :=
 ∀ (pins : List (Addr × Obj)) (s : Shared) (σ : St) (H : Hp) (o i v : V) (ov iv u : Value) (Q : Hp -> Prop), Inv X pins σ H s -> RelV o ov -> RelV i iv -> RelV v u -> t o i v H Q ->
  wpAny (model X.prog X.w) X.A (setItem ov iv u) (fun _ s' => ∃ H', Inv X pins σ H' s' /\ Q H') X.xe s
abbrev TIp := V -> V -> Hp -> VK -> Prop
def PIp (X : Cx) (op : Operator) (t : TIp) : Prop :=
 ∀ (pins : List (Addr × Obj)) (s : Shared) (σ : St) (H : Hp) (x y : V) (v u : Value) (Q : VK), Inv X pins σ H s -> RelV x v -> RelV y u -> t x y H Q ->
  wpAny (model X.prog X.w) X.A (inplaceOp op v u) (EP X pins σ Q) X.xe s
section
variable {X : Cx} {pos : Pos}
def uk (i : Nat) : TG := fun v σ H Q => Q (σ.set i (some v)) H
theorem Qa {i : Nat} {x : Str} (hN : X.N.Nodup) (hi : X.N[i]? = some x) (hx : Loc X.env.scope x) (hf : X.fn x = true \/ X.env.scope.names.lookup x = some .local := by first | exact .inl rfl | exact .inr rfl | assumption | with_unfolding_all exact .inl rfl | with_unfolding_all exact .inr rfl) : PG X (.Name x pos) (uk i) := by
 intro pins s σ H v u Q I r h
 exact wpAny_assign_Name (Ed I hN hi hx r (fun s' I' => ⟨_, H, I', h⟩) hf)
def gNil : TGs := fun vs σ H Q => vs = [] /\ Q σ H
def gCons (t : TG) (u : TGs) : TGs := fun vs σ H Q => ∃ v r, vs = v :: r /\ t v σ H fun σ' H' => u r σ' H' Q
theorem vc : PGs X [] gNil := by
 intro pins s σ H vs us Q I r h
 obtain ⟨e, h⟩ := h
 subst e
 cases r
 exact assignInOrder_nil ⟨σ, H, I, h⟩
theorem Va {e : Expr} {es : List Expr} {t : TG} {u : TGs} (h1 : PG X e t) (h2 : PGs X es u)
 (hs : (assignEach (e :: es) X.env).map (·.2) = assign e X.env :: (assignEach es X.env).map (·.2) := by first | rfl | with_unfolding_all rfl) : PGs X (e :: es) (gCons t u) := by
 intro pins s σ H vs us Q I r h
 obtain ⟨v, vr, e1, h⟩ := h
 subst e1
 cases r with
 | cons r rr =>
  rw [hs]
  refine assignInOrder_cons (thn (h1 pins s σ H _ _ _ I r h) fun _ s1 ⟨σ1, H1, I1, q1⟩ => ?_)
  exact h2 pins s1 σ1 H1 _ _ Q I1 rr q1
def gTup (K : PySem.W.Frag) (n : Nat) (t : TGs) : TG := fun v σ H Q => ∃ a xs, v = .ref a /\ SqT K H a xs /\ xs.length = n /\ t xs σ H Q
theorem pg_tup {es : List Expr} {k : Nat} {t : TGs} {n : Nat} (hc : X.calm = true) (h : PGs X es t)
 (hn : (assignEach es X.env).length = n := by first | rfl | with_unfolding_all rfl) (hst : (assignEach es X.env).findIdx? (·.1) = none := by first | rfl | with_unfolding_all rfl) : PG X (.Tuple es k pos) (gTup X.K n t) := by
 intro pins s σ H v u Q I r hw
 obtain ⟨a, xs, e1, hq, hl, hw⟩ := hw
 subst e1
 cases r
 obtain ⟨its, rv, ht, hz⟩ := I.tuple hq
 refine assign_Tuple_tuple (I.ok.hd hc) ht (by simp [hn, <- hl, rv.length]) hst fun h' hx => ?_
 have I1 : Inv X pins σ H { s with heap := h' } := I.kept (t' := s.toks) fun b o e => hx b o (Nat.ne_of_lt (Heap.lt_size e)) e
 exact h pins _ σ H xs _ Q I1 (by simpa using rv) hw
def gSub (to ti : TE) (t : TSet) : TG := fun v σ H Q => to σ H fun o H1 => ti σ H1 fun i H2 => t o i v H2 fun H3 => Q σ H3
theorem df {o i : Expr} {to ti : TE} {t : TSet} (ho : PE X o to) (hi : PE X i ti) (hs : PSet X t)
 (ha : ∀ v, assign (.Subscript o i pos) X.env v = (do
   let ov <- holding [v] (eval o X.env)
   let iv <- holding [v, ov] (eval i X.env)
   standAt pos
   holding [v, ov, iv] (setItem ov iv v)
   release [v, ov, iv] []) := by intro _; first | rfl | with_unfolding_all rfl) : PG X (.Subscript o i pos) (gSub to ti t) := by
 intro pins s σ H v u Q I r h
 rw [ha]
 refine wpAny_bind (wpAny_holding (thn (ho pins s σ H _ I h) fun ov s1 ⟨x, H1, I1, r1, q1⟩ => ?_))
 refine wpAny_bind (wpAny_holding (thn (hi pins s1 σ H1 _ I1 q1) fun iv s2 ⟨y, H2, I2, r2, q2⟩ => ?_))
 refine wpAny_bind (wpAny_standAt (wpAny_bind (wpAny_holding (thn (hs pins s2 σ H2 x y v ov iv u _ I2 r1 r2 r q2) fun _ s3 ⟨H3, I3, q3⟩ => ?_))))
 exact wpAny_release ⟨σ, H3, I3, q3⟩
def tAsg (te : TE) (g : TG) : TS := fun D σ H => te σ H fun x H1 => g x σ H1 D.nx
theorem Qd {tg e : Expr} {te : TE} {g : TG} (he : PE X e te) (hg : PG X tg g) (hs : swapsWithSole [tg] e pos.line X.env = pure false := by first | rfl | with_unfolding_all rfl) (hw : swappedStores [tg] e X.env = pure none := by first | rfl | with_unfolding_all rfl)
 (h1 : (assignEach [tg] X.env).map (·.2) = [assign tg X.env] := by first | rfl | with_unfolding_all rfl) : PS X (.Assign [tg] e pos) (tAsg te g) := by
 intro pins s σ H D I h
 refine wpAny_Assign_stores (thn (he pins s σ H _ I h) fun v s1 ⟨x, H1, I1, r1, q1⟩ => ?_) hs hw
 rw [h1]
 exact thn (hg pins s1 σ H1 x v _ I1 r1 q1) fun _ s2 q => q
theorem Ea {i : Nat} {x : Str} {e : Expr} {te : TE} {pos' : Pos} (hN : X.N.Nodup) (hi : X.N[i]? = some x) (hx : Loc X.env.scope x) (he : PE X e te) (hs : swapsWith e (some (.Name x pos')) pos.line X.env = pure false := by first | rfl | with_unfolding_all rfl) (hf : X.fn x = true \/ X.env.scope.names.lookup x = some .local := by first | exact .inl rfl | exact .inr rfl | assumption | with_unfolding_all exact .inl rfl | with_unfolding_all exact .inr rfl) :
 PS X (.Assign [.Name x pos'] e pos) (tAsg te (uk i)) := by
 intro pins s σ H D I h
 refine wpAny_Assign_Name (thn (he pins s σ H _ I h) fun v s1 ⟨y, H1, I1, r1, q1⟩ => ?_) hs
 exact Ed I1 hN hi hx r1 (fun s2 I2 => ⟨_, H1, I2, q1⟩) hf
def tPar (i j : Nat) (ta : TA) : TS := fun D σ H => ta σ H fun vs H1 => ∃ v w, vs = [v, w] /\ D.nx ((σ.set i (some v)).set j (some w)) H1
theorem ps_par {i j : Nat} {x y : Str} {a b : Expr} {ta : TA} {px py pt : Pos} {kt k2 pt2} (hc : X.calm = true) (hN : X.N.Nodup) (hi : X.N[i]? = some x) (hj : X.N[j]? = some y) (hij : i ≠ j)
 (hx : X.env.scope.names.lookup x = some .local) (hy : X.env.scope.names.lookup y = some .local) (ha : PA X [a, b] ta)
 (hw : swappedStores [.Tuple [.Name x px, .Name y py] kt pt] (.Tuple [a, b] k2 pt2) X.env = pure (some [x, y]))
 (hs : swapsWithSole [.Tuple [.Name x px, .Name y py] kt pt] (.Tuple [a, b] k2 pt2) pos.line X.env = pure false := by first | rfl | with_unfolding_all rfl) :
 PS X (.Assign [.Tuple [.Name x px, .Name y py] kt pt] (.Tuple [a, b] k2 pt2) pos) (tPar i j ta) := by
 intro pins s σ H D I h
 rw [exec_Assign_arm]
 refine wpAny_bind (wpAny_standAt ?_)
 rw [hs]
 refine wpAny_bind (wpAny_pure ?_)
 rw [if_neg (by decide)]
 refine wpAny_bind (Tuple_ (thn (ha _ pins s σ H _ I h) fun us s1 ⟨vs, H1, I1, r1, q1⟩ => ?_))
 obtain ⟨v, w, e1, q1⟩ := q1
 subst e1
 obtain ⟨u1, u2, rfl, rv, rw'⟩ : ∃ u1 u2, us = [u1, u2] /\ RelV v u1 /\ RelV w u2 := by
  cases r1 with
  | cons p q =>
   cases q with
   | cons p' q' =>
    cases q'
    exact ⟨_, _, rfl, p, p'⟩
 refine wpAny_newObj_type ?_ (by show 2 <= sizeLine; decide)
 have I2 : Inv X pins σ H1 { s1 with heap := s1.heap.push { cls := .type "tuple", data := .seq [u1, u2].toArray } } := I1.kept (t' := s1.toks) fun b o e => Heap.get?_push_of_some _ e
 rw [hw]
 refine wpAny_bind (wpAny_pure ?_)
 show wpAny (model X.prog X.w) X.A (do rule "assign.swapped-stores"; let items <- unpackItems (.ref s1.heap.objs.size) 2 none; assignInOrder [fun v => bindName X.env y v, fun v => bindName X.env x v] items.reverse; pure Flow.next) _ _ _
 refine wpAny_bind (wpAny_rule (wpAny_bind (unpackItems_tuple (items := #[u1, u2]) (I.ok.hd hc) (IsTup.new s1.heap _) fun h' hx' => ?_)))
 have I3 := I2.kept (h' := h') (t' := s1.toks) fun b o e => hx' b o (Nat.ne_of_lt (Heap.lt_size e)) e
 show wpAny _ _ (assignInOrder [fun v => bindName X.env y v, fun v => bindName X.env x v] [u2, u1] >>= fun _ => pure Flow.next) _ _ _
 refine wpAny_bind (assignInOrder_cons (wpAny_bindName (Ed I3 hN hj (.inl hy) rw' (fun s2 I4 => ?_) (.inr hy))))
 refine assignInOrder_cons (wpAny_bindName (Ed I4 hN hi (.inl hx) rv (fun s3 I5 => assignInOrder_nil (wpAny_pure ?_)) (.inr hx)))
 rw [List.set_comm _ _ (Ne.symm hij)] at I5
 exact ⟨_, H1, I5, q1⟩
def tAug (i : Nat) (te : TE) (ti : TIp) : TS := fun D σ H => ∃ x, σ[i]? = some (some x) /\ te σ H fun y H1 => ti x y H1 fun z H2 => D.nx (σ.set i (some z)) H2
theorem Jo {i : Nat} {x : Str} {e : Expr} {te : TE} {op : Operator} {ti : TIp} {pos' : Pos} (hN : X.N.Nodup) (hi : X.N[i]? = some x) (hx : Loc X.env.scope x) (he : PE X e te) (ho : PIp X op ti) (hf : X.fn x = true \/ X.env.scope.names.lookup x = some .local := by first | exact .inl rfl | exact .inr rfl | assumption | with_unfolding_all exact .inl rfl | with_unfolding_all exact .inr rfl) :
 PS X (.AugAssign (.Name x pos') op e pos) (tAug i te ti) := by
 intro pins s σ H D I h
 obtain ⟨v, e1, h⟩ := h
 obtain ⟨m, hn, hl⟩ := I.loc
 have vis : Vis X.env.scope x := by rcases hx with k | k; exact .inl k; exact .inr (.inl k)
 obtain ⟨u, r, l⟩ := hl i x v hi e1 vis
 refine wpAny_AugAssign_Name ?_
 have go : wpAny (model X.prog X.w) X.A (eval e X.env) (fun w s₂ => wpAny (model X.prog X.w) X.A (inplaceOp op u w) (fun r s₃ => wpAny (model X.prog X.w) X.A (storeName X.env x r) (fun _ => SP X pins D .next) X.xe s₃) X.xe s₂) X.xe s := by
  refine thn (he pins s σ H _ I h) fun w s1 ⟨y, H1, I1, r1, q1⟩ => ?_
  refine thn (ho pins s1 σ H1 v y u w _ I1 r r1 q1) fun z s2 ⟨zv, H2, I2, r2, q2⟩ => ?_
  exact Ed I2 hN hi hx r2 (fun s3 I3 => ⟨_, H2, I3, q2⟩) hf
 rcases l with ⟨hk, hm⟩ | ⟨hk, c, hc, hcell⟩
 . exact wpAny_loadName_local I.ok.kind hk hn hm go
 . rcases hk with hk | hk
   . exact wpAny_loadName_cell I.ok.kind hk hc hcell go
   . rcases hx with k | k
     . have : X.env.scope.names.lookup x = some .free := hk
       rw [k] at this; cases this
     . have : X.env.scope.names.lookup x = some .free := hk
       rw [k] at this; cases this
def tAugS (to ti te : TE) (tget : V -> V -> Hp -> VK -> Prop) (tip : TIp) (tset : TSet) : TS := fun D σ H => to σ H fun o H1 => ti σ H1 fun i H2 => tget o i H2 fun x H3 => te σ H3 fun y H4 => tip x y H4 fun z H5 => tset o i z H5 fun H6 => D.nx σ H6
def PGet (X : Cx) (t : V -> V -> Hp -> VK -> Prop) : Prop :=
 ∀ (pins : List (Addr × Obj)) (s : Shared) (σ : St) (H : Hp) (o i : V) (ov iv : Value) (Q : VK), Inv X pins σ H s -> RelV o ov -> RelV i iv -> t o i H Q ->
  wpAny (model X.prog X.w) X.A (getItem ov iv) (EP X pins σ Q) X.xe s
theorem Mu {o i e : Expr} {to ti te : TE} {tget : V -> V -> Hp -> VK -> Prop} {tip : TIp} {tset : TSet} {op : Operator} {tpos : Pos} (ho : PE X o to) (hi : PE X i ti) (hg : PGet X tget) (he : PE X e te) (hp : PIp X op tip) (hs : PSet X tset)
 (ha : ∀ ov iv new, augStore i ov iv new = (do holding [new, ov, iv] (setItem ov iv new); release [new, ov, iv] []; pure .next) := by intros; first | rfl | with_unfolding_all rfl) : PS X (.AugAssign (.Subscript o i tpos) op e pos) (tAugS to ti te tget tip tset) := by
 intro pins s σ H D I h
 refine wpAny_AugAssign_SubscriptAny (thn (ho pins s σ H _ I h) fun ov s1 ⟨x1, H1, I1, r1, q1⟩ => ?_) ha
 refine thn (hi pins s1 σ H1 _ I1 q1) fun iv s2 ⟨x2, H2, I2, r2, q2⟩ => ?_
 refine thn (hg pins s2 σ H2 x1 x2 ov iv _ I2 r1 r2 q2) fun old s3 ⟨x3, H3, I3, r3, q3⟩ => ?_
 refine thn (he pins s3 σ H3 _ I3 q3) fun v s4 ⟨x4, H4, I4, r4, q4⟩ => ?_
 refine thn (hp pins s4 σ H4 x3 x4 old v _ I4 r3 r4 q4) fun new s5 ⟨x5, H5, I5, r5, q5⟩ => ?_
 exact thn (hs pins s5 σ H5 x1 x2 x5 ov iv new _ I5 r1 r2 r5 q5) fun _ s6 ⟨H6, I6, q6⟩ => ⟨σ, H6, I6, q6⟩
def ipI (f : Int -> Int -> Int) : TIp := fun x y H Q => ∃ i j, x = .int i /\ y = .int j /\ Q (.int (f i j)) H
theorem Dt : PIp X .Add (ipI fun i j => i + j) := by
 intro pins s σ H x y v u Q I r1 r2 h
 obtain ⟨i, j, e1, e2, q⟩ := h
 subst e1; subst e2
 obtain ⟨t, rfl⟩ := r1
 obtain ⟨t', rfl⟩ := r2
 exact iadd_int ⟨.int _, H, I.tok _, ⟨_, rfl⟩, q⟩
end
section
variable {X : Cx} {pos : Pos}
def Gs (c : TT) (tb : TS) : TS := fun D σ H => ∃ W : Nat -> St -> Hp -> Prop, (∃ m, W m σ H) /\ ∀ m σ H, W m σ H ->
 c σ H fun b H1 => if b = true then ∃ N : St -> Hp -> Prop, (∀ σ' H', N σ' H' -> ∃ m', m' < m /\ W m' σ' H') /\ tb { D with nx := N, ct := N, bk := D.nx } σ H1 else D.nx σ H1
theorem Xh {c : Expr} {body : List Stmt} {tc : TT} {tb : TS} (hp : PassesOwn (model X.prog X.w) X.A X.env X.xe) (hc : PT X c tc) (hb : PSs X body tb) : PS X (.While c body [] pos) (Gs tc tb) := by
 intro pins s σ H D I h
 obtain ⟨W, ⟨m0, w0⟩, turn⟩ := h
 refine wpAny_While (codeAny_whileLoop (fun n s' => ∃ σ' H', Inv X pins σ' H' s' /\ W n σ' H') ?_ m0 ⟨σ, H, I, w0⟩)
 rintro n s1 ⟨σ1, H1, I1, w1⟩
 refine wpAny_passesOwn hp (thn (hc pins s1 σ1 H1 _ I1 (turn n σ1 H1 w1)) fun b s2 ⟨H2, I2, q2⟩ => ?_)
 cases b with
 | true =>
  obtain ⟨N, hN, q2⟩ := q2
  rw [if_pos rfl]
  refine wpAny_passesOwn hp (thn (hb pins s2 σ1 H2 _ I2 q2) fun f s3 q3 => ?_)
  cases f with
  | next =>
   obtain ⟨σ3, H3, I3, n3⟩ := q3
   obtain ⟨m', hm, w3⟩ := hN σ3 H3 n3
   exact ⟨m', hm, σ3, H3, I3, w3⟩
  | cont =>
   obtain ⟨σ3, H3, I3, n3⟩ := q3
   obtain ⟨m', hm, w3⟩ := hN σ3 H3 n3
   exact ⟨m', hm, σ3, H3, I3, w3⟩
  | brk => exact q3
  | ret v => exact q3
 | false =>
  rw [if_neg Bool.false_ne_true]
  exact wpAny_execs_nil ⟨σ1, H2, I2, q2⟩
end
structure It where
 go : Nat -> Hp -> Prop
 yld : Nat -> Hp -> V -> Hp -> Prop
 stop : Nat -> Hp -> Prop
def FpOk (X : Cx) (pins : List (Addr × Obj)) (H : Hp) (b : Addr) : Prop :=
 H b = none /\ b ≠ X.env.locals /\ b ∉ X.fs /\ (b ∈ X.ex \/ X.s₀.heap.objs.size <= b) /\ (∀ x c, X.env.cells.lookup x = some c -> c ≠ b) /\ ∀ p ∈ X.pn ++ pins, p.1 ≠ b
theorem Inv.fpOk {X : Cx} {pins : List (Addr × Obj)} {σ : St} {H H' : Hp} {s : Shared} {b : Addr} (I : Inv X pins σ H s) (hb : s.heap.objs.size <= b) (hn : H' b = none) : FpOk X pins H' b := by
 refine ⟨hn, Nat.ne_of_gt (Nat.lt_of_lt_of_le I.lt hb), I.nofs hb, .inr (Nat.le_trans I.sz hb), fun x c e z => ?_, fun p hp z => ?_⟩
 . obtain ⟨v, q⟩ := I.cell x c e
   exact absurd (Nat.lt_of_lt_of_le q.lt (by rw [z]; exact hb)) (Nat.lt_irrefl _)
 . exact absurd (Nat.lt_of_lt_of_le (Heap.lt_size (I.pin p hp).1) (by rw [z]; exact hb)) (Nat.lt_irrefl _)
structure Turn (P : Program) (w : World) (K : PySem.W.Frag) (tg : Expr) (J : It) (fp : List Addr) (it : Addr) (tn : Nat -> Heap -> Prop) : Prop where
 mem : it ∈ fp
 obj : ∀ i h, tn i h -> ∀ b ∈ fp, ∃ o, h.get? b = some o /\ ∀ v, o.data ≠ .cell v
 keep : ∀ i h h', tn i h -> (∀ b ∈ fp, ∀ o, h.get? b = some o -> h'.get? b = some o) -> tn i h'
 item : ∀ (X : Cx), X.prog = P -> X.w = w -> X.K = K -> X.calm = true -> ∀ (i : Nat) (pins : List (Addr × Obj)) (s : Shared) (σ : St) (H : Hp) (E : Value -> Shared -> Prop), Inv X pins σ H s -> (∀ b ∈ fp, FpOk X pins H b) -> tn i s.heap -> J.go i H ->
  wpAny (model P w) X.A (pyNext (.ref it)) (fun r s1 => ∃ u, r = some u /\
   wpAny (model P w) X.A (letOwnedTupleGo tg (.ref it) u) (fun _ s2 => ∃ x H', Inv X pins σ H' s2 /\ RelV x u /\ J.yld i H x H' /\ tn (i + 1) s2.heap /\ ∀ b ∈ fp, H' b = none) E s1) E s
 done : ∀ (X : Cx), X.prog = P -> X.w = w -> X.K = K -> X.calm = true -> ∀ (i : Nat) (pins : List (Addr × Obj)) (s : Shared) (σ : St) (H : Hp) (E : Value -> Shared -> Prop), Inv X pins σ H s -> (∀ b ∈ fp, FpOk X pins H b) -> tn i s.heap -> J.stop i H ->
  wpAny (model P w) X.A (pyNext (.ref it)) (fun r s1 => r = none /\ Inv X pins σ H s1) E s
 self : ∀ (A : Around) (i : Nat) (s : Shared) (Q : Value -> Shared -> Prop) (E : Value -> Shared -> Prop), tn i s.heap -> Q (.ref it) s -> wpAny (model P w) A (pyIter (.ref it)) Q E s
abbrev TI := St -> Hp -> (It -> Hp -> Prop) -> Prop
def PIE (X : Cx) (pins : List (Addr × Obj)) (σ : St) (tg : Expr) (R : It -> Hp -> Prop) (itv : Value) (s2 : Shared) : Prop :=
 ∃ (it : Addr) (fp : List Addr) (tn : Nat -> Heap -> Prop) (J : It) (H' : Hp), itv = .ref it /\ Inv X pins σ H' s2 /\ Turn X.prog X.w X.K tg J fp it tn /\ tn 0 s2.heap /\ (∀ b ∈ fp, FpOk X pins H' b) /\ R J H'
def PI (X : Cx) (tg iter : Expr) (wi : TI) : Prop :=
 ∀ (pins : List (Addr × Obj)) (s : Shared) (σ : St) (H : Hp) (R : It -> Hp -> Prop), Inv X pins σ H s -> wi σ H R ->
  wpAny (model X.prog X.w) X.A (eval iter X.env) (fun v s1 => wpAny (model X.prog X.w) X.A (pyIter v) (PIE X pins σ tg R) X.xe s1) X.xe s
theorem xv {M : Model} {A : Around} {E : Value -> Shared -> Prop} {s : Shared} {tg : Expr} {it : Addr} {u : Value} {o : Obj} {n : String} {vs : Array Value} {Q : Unit -> Shared -> Prop} (ho : s.heap.get? it = some o) (hc : o.cls = .type n) (hd : o.data = .fields vs)
 (hn : ["enumerate", "zip", "dict_itemiterator", "dict_reverseitemiterator", "odict_iterator", "itertools.zip_longest", "itertools.pairwise"].contains n = false) (hQ : Q () s) : wpAny M A (letOwnedTupleGo tg (.ref it) u) Q E s := by
 unfold letOwnedTupleGo
 cases tg <;> first
  | exact wpAny_pure hQ
  | (cases u <;> first
      | exact wpAny_pure hQ
      | (refine wpAny_bind (wpAny_load ho ?_)
         rw [hc, hd]
         show wpAny M A (if (["enumerate", "zip", "dict_itemiterator", "dict_reverseitemiterator", "odict_iterator", "itertools.zip_longest", "itertools.pairwise"].contains n && vs[0]? == some (rawInt _)) = true then _ else _) Q E s
         rw [if_neg (by intro h; rw [hn, Bool.false_and] at h; cases h)]
         exact wpAny_pure hQ))
def Itl (K : PySem.W.Frag) (a : Addr) : It :=
 ⟨fun i H => ∃ xs x, SqL K H a xs /\ xs[i]? = some x, fun i H x H' => H' = H /\ ∀ xs, SqL K H a xs -> xs[i]? = some x, fun i H => ∃ xs, SqL K H a xs /\ xs.length <= i⟩
def Itr (lo : Int) (n : Nat) : It := ⟨fun i _ => i < n, fun i H x H' => H' = H /\ x = .int (lo + i), fun i _ => n <= i⟩
theorem Rm {P : Program} {w : World} {K : PySem.W.Frag} {tg : Expr} (a it : Addr) : Turn P w K tg (Itl K a) [it] it (fun i h => h.IsListIter it a i) where
 mem := by simp
 obj := fun i h st b hb => by
  have e : b = it := by simpa using hb
  subst e
  obtain ⟨o, e, c, d⟩ := st
  exact ⟨o, e, fun v z => by rw [d] at z; cases z⟩
 keep := fun i h h' st k => st.at fun o e => k it (by simp) o e
 item := by
  intro X hP hw hK hc i pins s σ H E I hf st hg
  subst hP hw hK
  obtain ⟨xs, x, hq, hx⟩ := hg
  obtain ⟨its, rv, p, hz⟩ := I.list hq
  obtain ⟨u, hu, ru⟩ := rv.get hx
  obtain ⟨f0, f1, f2, f3, f4, f5⟩ := hf it (by simp)
  refine wpAny_pyNext_list_item st p.isList (x := u) (by simpa using hu) fun h' st' sb => ?_
  have I1 : Inv X pins σ H { s with heap := h' } := I.turned (t' := s.toks) (fun b o hb e => (sb.2 b hb).trans e) f0 f1 f3 f4 f5
  obtain ⟨o, e, c, d⟩ := id st'
  exact ⟨u, rfl, xv (s := { s with heap := h' }) e c d (by decide) ⟨x, H, I1, ru, ⟨rfl, fun ys hy => by rw [I.Kl hy hq]; exact hx⟩, st', fun b hb => (hf b hb).1⟩⟩
 done := by
  intro X hP hw hK hc i pins s σ H E I hf st hg
  subst hP hw hK
  obtain ⟨xs, hq, hx⟩ := hg
  obtain ⟨its, rv, p, hz⟩ := I.list hq
  obtain ⟨f0, f1, f2, f3, f4, f5⟩ := hf it (by simp)
  have hl := rv.length
  exact wpAny_pyNext_list_end (I.ok.hd hc) st p.isList (by simp; omega) fun h' eb => ⟨rfl, I.turned (t' := s.toks) (fun b o hb e => eb b o hb e) f0 f1 f3 f4 f5⟩
 self := fun _ _ _ _ _ st h => wpAny_pyIter_listiter st h
theorem Xl {P : Program} {w : World} {K : PySem.W.Frag} {tg : Expr} (it : Addr) (lo : Int) (n : Nat) : Turn P w K tg (Itr lo n) [it] it (fun i h => IsRangeIter h it (lo + (i : Nat) * 1) ((n : Int) - (i : Nat)) 1) where
 mem := by simp
 obj := fun i h st b hb => by
  have e : b = it := by simpa using hb
  subst e
  exact ⟨_, st, fun v z => by
   have z' : Data.fields _ = Data.cell v := z
   cases z'⟩
 keep := fun i h h' st k => k it (by simp) _ st
 item := by
  intro X hP hw hK hc i pins s σ H E I hf st hg
  subst hP hw hK
  obtain ⟨f0, f1, f2, f3, f4, f5⟩ := hf it (by simp)
  have W := Walks.range (prog := X.prog) (w := X.w) (I.ok.hd hc) it lo 1 n
  refine W.item i s _ _ hg st fun v h' tk hv st' kk => ?_
  obtain ⟨t, rfl⟩ := hv
  have I1 : Inv X pins σ H { s with heap := h', toks := tk } := I.turned (fun b o hb e => kk b o (by simpa using hb) e) f0 f1 f3 f4 f5
  refine ⟨_, rfl, xv (s := { s with heap := h', toks := tk }) (n := "range_iterator") st' rfl rfl (by decide) ⟨.int (lo + i), H, I1, ⟨t, ?_⟩, ⟨rfl, rfl⟩, st', fun b hb => (hf b hb).1⟩⟩
  rw [Int.mul_one]
 done := by
  intro X hP hw hK hc i pins s σ H E I hf st hg
  subst hP hw hK
  obtain ⟨f0, f1, f2, f3, f4, f5⟩ := hf it (by simp)
  exact wpAny_pyNext_range_end (I.ok.hd hc) st (by have : n <= i := hg; omega) fun h' eb => ⟨rfl, I.turned (t' := s.toks) (fun b o hb e => eb b o hb e) f0 f1 f3 f4 f5⟩
 self := fun _ _ _ _ _ st h => wpAny_pyIter_rangeiter st h
end L2
namespace L2
open PySem PySem.Spec PyProof.Rows
section
variable {X : Cx} {tg : Expr}
def Lr (K : PySem.W.Frag) (tl : TE) : TI := fun σ H R => tl σ H fun x H1 => ∃ a, x = .ref a /\ (∃ xs, SqL K H1 a xs) /\ R (Itl K a) H1
theorem Nu {l : Expr} {tl : TE} (hl : PE X l tl) : PI X tg l (Lr X.K tl) := by
 intro pins s σ H R I h
 refine thn (hl pins s σ H _ I h) fun v s1 ⟨x, H1, I1, r1, q1⟩ => ?_
 obtain ⟨a, e, ⟨xs, hq⟩, q⟩ := q1
 subst e
 cases r1
 obtain ⟨its, rv, p, hz⟩ := I1.list hq
 refine wpAny_pyIter_list p.isList ?_
 refine ⟨s1.heap.objs.size, [s1.heap.objs.size], _, _, H1, rfl, I1.kept (t' := s1.toks) fun b o e => Heap.get?_push_of_some _ e, Rm a _, ⟨_, Heap.get?_push_size _ rfl, rfl, rfl⟩, fun b hb => ?_, q⟩
 have e : b = s1.heap.objs.size := by simpa using hb
 subst e
 exact I1.fpOk (Nat.le_refl _) (I1.hok.fresh (Nat.le_refl _))
theorem Zq {pins : List (Addr × Obj)} {σ : St} {H : Hp} {s : Shared} {R : It -> Hp -> Prop} {E : Value -> Shared -> Prop} {lo hi : Int} {t u v : Tok} {tk : Nat} (I : Inv X pins σ H s) (h1 : -(2 ^ 62) <= lo) (h2 : lo < 2 ^ 62) (h3 : -(2 ^ 62) <= hi) (h4 : hi < 2 ^ 62)
 (q : R (Itr lo (hi - lo).toNat) H) : wpAny (model X.prog X.w) X.A (pyIter (.ref s.heap.objs.size)) (PIE X pins σ tg R) E { s with heap := s.heap.push { cls := .type "range", data := .fields #[.int lo t, .int hi u, .int 1 v] }, toks := tk } := by
 refine wpAny_pyIter_range (IsRange.new ..) (small_one h1 h2 h3 h4) ?_
 have I1 : Inv X pins σ H { s with heap := s.heap.push { cls := .type "range", data := .fields #[.int lo t, .int hi u, .int 1 v] }, toks := tk } := I.kept fun b o e => Heap.get?_push_of_some _ e
 refine ⟨(s.heap.push { cls := .type "range", data := .fields #[.int lo t, .int hi u, .int 1 v] }).objs.size, [(s.heap.push { cls := .type "range", data := .fields #[.int lo t, .int hi u, .int 1 v] }).objs.size], _, _, H, rfl,
  I1.kept (t' := tk) fun b o e => Heap.get?_push_of_some _ e, Xl _ lo (hi - lo).toNat, ?_, fun b hb => ?_, q⟩
 . have e1 : lo + ((0 : Nat) : Int) * 1 = lo := by simp
   have e2 : (((hi - lo).toNat : Nat) : Int) - ((0 : Nat) : Int) = Builtin.Range.rangeSize lo hi 1 := by rw [rangeSize_one]; split <;> omega
   show IsRangeIter _ _ (lo + ((0 : Nat) : Int) * 1) ((((hi - lo).toNat : Nat) : Int) - ((0 : Nat) : Int)) 1
   rw [e1, e2]
   exact Heap.get?_push_size _ rfl
 . have e : b = (s.heap.push { cls := .type "range", data := .fields #[.int lo t, .int hi u, .int 1 v] }).objs.size := by simpa using hb
   subst e
   exact I1.fpOk (Nat.le_refl _) (I1.hok.fresh (Nat.le_refl _))
def iRng1 (ta : TA) : TI := fun σ H R => ta σ H fun vs H1 => ∃ j : Int, vs = [.int j] /\ -(2 ^ 62) <= j /\ j < 2 ^ 62 /\ R (Itr 0 j.toNat) H1
theorem pd {a : Expr} {ta : TA} {p pos : Pos} (hg : Gl X "range") (hm : X.mg "range" = none) (ha : PA X [a] ta) (hs : starEach [a] X.env = [(false, eval a X.env)] := by first | rfl | with_unfolding_all rfl) : PI X tg (.Call (.Name "range" p) [a] [] pos) (iRng1 ta) := by
 intro pins s σ H R I h
 refine Call_ (dg I hg hm boot_range (PyProof.Rows.callWith_type1 (thn (ha pos pins s σ H _ I h) fun us s1 ⟨vs, H1, I1, r1, q1⟩ => ?_) hs rfl))
 obtain ⟨j, e, q1, q2, q⟩ := q1
 subst e
 cases r1 with
 | cons r rr =>
  cases rr
  obtain ⟨t, rfl⟩ := r
  exact call_range_1 (Zq I1 (by omega) (by omega) q1 q2 (by simpa using q))
def tFor (wi : TI) (g : TG) (tb : TS) : TS := fun D σ H => wi σ H fun J H1 => ∃ W : Nat -> Nat -> St -> Hp -> Prop, (∃ m, W 0 m σ H1) /\ ∀ i m σ H, W i m σ H ->
 (J.stop i H /\ D.nx σ H) \/ (J.go i H /\ ∃ N : St -> Hp -> Prop, (∀ σ' H', N σ' H' -> ∃ m', m' < m /\ W (i + 1) m' σ' H') /\ ∀ x H', J.yld i H x H' -> g x σ H' fun σ2 H2 => tb { D with nx := N, ct := N, bk := D.nx } σ2 H2)
def fh (fp : List Addr) (h : Heap) : List (Addr × Obj) := fp.filterMap fun b => (h.get? b).map fun o => (b, o)
theorem Qb {fp : List Addr} {h : Heap} {b : Addr} {o : Obj} (hb : b ∈ fp) (e : h.get? b = some o) : (b, o) ∈ fh fp h := List.mem_filterMap.mpr ⟨b, hb, by rw [e]; rfl⟩
theorem vp {fp : List Addr} {h : Heap} {p : Addr × Obj} (hp : p ∈ fh fp h) : p.1 ∈ fp /\ h.get? p.1 = some p.2 := by
 obtain ⟨b, hb, e⟩ := List.mem_filterMap.mp hp
 cases q : h.get? b with
 | none => rw [q] at e; cases e
 | some o =>
  rw [q] at e
  have e' : (b, o) = p := Option.some.inj e
  subst e'
  exact ⟨hb, q⟩
theorem Inv.pinned {pins : List (Addr × Obj)} {σ : St} {H : Hp} {s : Shared} {fp : List Addr} (I : Inv X pins σ H s) (hf : ∀ b ∈ fp, FpOk X pins H b) (ho : ∀ b ∈ fp, ∃ o, s.heap.get? b = some o /\ ∀ v, o.data ≠ .cell v) : Inv X (pins ++ fh fp s.heap) σ H s :=
 I.uc fun p hp => (List.mem_append.mp hp).elim (fun z => I.pin p (List.mem_append_right _ z)) fun z => by
  obtain ⟨hb, e⟩ := vp z
  obtain ⟨f0, f1, f2, _⟩ := hf p.1 hb
  obtain ⟨o, e', d⟩ := ho p.1 hb
  rw [e] at e'; cases e'
  exact ⟨e, f0, f1, f2, d⟩
theorem Inv.sh {pins pl : List (Addr × Obj)} {σ : St} {H : Hp} {s : Shared} (I : Inv X (pins ++ pl) σ H s) : Inv X pins σ H s := I.uc fun p hp => I.pin p (List.mem_append_right _ (List.mem_append_left _ hp))
theorem Vc {iter : Expr} {body : List Stmt} {wi : TI} {g : TG} {tb : TS} {pos : Pos} (hp : PassesOwn (model X.prog X.w) X.A X.env X.xe) (hc : X.calm = true) (hi : PI X tg iter wi) (hg : PG X tg g) (hb : PSs X body tb)
 (hs : ∀ x, foldedSetIterable iter X.env x = pure x := by intro _; first | rfl | with_unfolding_all rfl) : PS X (.For tg iter body [] pos) (tFor wi g tb) := by
 intro pins s σ H D I h
 refine wpAny_For (thn (hi pins s σ H _ I h) fun v s1 h1 => thn h1 fun itv s2 h2 => ?_) hs
 obtain ⟨it, fp, tn, J, H2, e, I2, T, st2, f2, W, ⟨m0, w0⟩, turn⟩ := h2
 subst e
 have stat : ∀ {H' : Hp}, (∀ b ∈ fp, H' b = none) -> ∀ b ∈ fp, FpOk X pins H' b := fun hn b hb => ⟨hn b hb, (f2 b hb).2⟩
 refine codeAny_forLoop_any (fun n s' => ∃ i σ' H', Inv X pins σ' H' s' /\ tn i s'.heap /\ (∀ b ∈ fp, H' b = none) /\ W i n σ' H') ?_ m0 ⟨0, σ, H2, I2, st2, fun b hb => (f2 b hb).1, w0⟩
 rintro n s3 ⟨i, σ3, H3, I3, st3, fr3, w3⟩
 rcases turn i n σ3 H3 w3 with ⟨stop, qn⟩ | ⟨go, N, hN, step⟩
 . refine wpAny_passesOwn hp (thn (T.done X rfl rfl rfl hc i pins s3 σ3 H3 X.xe I3 (stat fr3) st3 stop) fun r s4 ⟨hr, I4⟩ => ?_)
   subst hr
   exact wpAny_execs_nil ⟨σ3, H3, I4, qn⟩
 . refine wpAny_passesOwn hp (thn (T.item X rfl rfl rfl hc i pins s3 σ3 H3 X.xe I3 (stat fr3) st3 go) fun r s4 ⟨u, hr, h4⟩ => ?_)
   subst hr
   refine wpAny_passesOwn hp (thn h4 fun _ s5 ⟨x, H5, I5, r5, y5, st5, fr5⟩ => ?_)
   have I5' := I5.pinned (stat fr5) (T.obj _ _ st5)
   refine wpAny_passesOwn hp (thn (hg _ s5 σ3 H5 x u _ I5' r5 (step x H5 y5)) fun _ s6 ⟨σ6, H6, I6, q6⟩ => ?_)
   refine wpAny_passesOwn hp (thn (hb _ s6 σ6 H6 _ I6 q6) fun f s7 q7 => ?_)
   have again : ∀ {σ7 : St} {H7 : Hp}, Inv X (pins ++ fh fp s5.heap) σ7 H7 s7 -> N σ7 H7 -> ∃ m, m < n /\ ∃ i σ' H', Inv X pins σ' H' s7 /\ tn i s7.heap /\ (∀ b ∈ fp, H' b = none) /\ W i m σ' H' := fun {σ7 H7} I7 n7 => by
    obtain ⟨m', hm, w7⟩ := hN σ7 H7 n7
    refine ⟨m', hm, i + 1, σ7, H7, I7.sh, T.keep _ _ _ st5 fun b hb o e => (I7.pin (b, o) (List.mem_append_right _ (List.mem_append_right _ (Qb hb e)))).1, fun b hb => ?_, w7⟩
    obtain ⟨o, e, d⟩ := T.obj _ _ st5 b hb
    exact (I7.pin (b, o) (List.mem_append_right _ (List.mem_append_right _ (Qb hb e)))).2.1
   cases f with
   | next => obtain ⟨σ7, H7, I7, n7⟩ := q7; exact again I7 n7
   | cont => obtain ⟨σ7, H7, I7, n7⟩ := q7; exact again I7 n7
   | brk => obtain ⟨σ7, H7, I7, q7⟩ := q7; exact ⟨σ7, H7, I7.sh, q7⟩
   | ret v => obtain ⟨x7, σ7, H7, I7, r7, q7⟩ := q7; exact ⟨x7, σ7, H7, I7.sh, r7, q7⟩
end
theorem Qr {K : PySem.W.Frag} {a : Addr} {xs : List V} {g : TG} {tb : TS} {D : Ends} {σ : St} {H : Hp} (Pv : Nat -> St -> Hp -> Prop) (h0 : Pv 0 σ H) (hl : ∀ i σ H, i <= xs.length -> Pv i σ H -> SqL K H a xs)
 (hs : ∀ i x σ H, xs[i]? = some x -> Pv i σ H -> g x σ H fun σ2 H2 => tb { D with nx := Pv (i + 1), ct := Pv (i + 1), bk := D.nx } σ2 H2) (hd : ∀ σ H, Pv xs.length σ H -> D.nx σ H) :
 ∃ W : Nat -> Nat -> St -> Hp -> Prop, (∃ m, W 0 m σ H) /\ ∀ i m σ H, W i m σ H ->
  ((Itl K a).stop i H /\ D.nx σ H) \/ ((Itl K a).go i H /\ ∃ N : St -> Hp -> Prop, (∀ σ' H', N σ' H' -> ∃ m', m' < m /\ W (i + 1) m' σ' H') /\ ∀ x H', (Itl K a).yld i H x H' -> g x σ H' fun σ2 H2 => tb { D with nx := N, ct := N, bk := D.nx } σ2 H2) := by
 refine ⟨fun i m σ H => m = xs.length - i /\ i <= xs.length /\ Pv i σ H, ⟨xs.length, by simp, Nat.zero_le _, h0⟩, ?_⟩
 rintro i m σ H ⟨rfl, hi, p⟩
 have q := hl i σ H hi p
 by_cases hlt : i < xs.length
 . refine .inr ⟨⟨xs, xs[i], q, by simp [hlt]⟩, Pv (i + 1), fun σ' H' p' => ⟨xs.length - (i + 1), by omega, rfl, hlt, p'⟩, fun x H' y => ?_⟩
   obtain ⟨e, y⟩ := y
   subst e
   exact hs i x σ _ (y xs q) p
 . have e : i = xs.length := by omega
   subst e
   exact .inl ⟨⟨xs, q, Nat.le_refl _⟩, hd σ H p⟩
theorem Ip {lo : Int} {n : Nat} {g : TG} {tb : TS} {D : Ends} {σ : St} {H : Hp} (Pv : Nat -> St -> Hp -> Prop) (h0 : Pv 0 σ H)
 (hs : ∀ i σ H, i < n -> Pv i σ H -> g (.int (lo + i)) σ H fun σ2 H2 => tb { D with nx := Pv (i + 1), ct := Pv (i + 1), bk := D.nx } σ2 H2) (hd : ∀ σ H, Pv n σ H -> D.nx σ H) :
 ∃ W : Nat -> Nat -> St -> Hp -> Prop, (∃ m, W 0 m σ H) /\ ∀ i m σ H, W i m σ H ->
  ((Itr lo n).stop i H /\ D.nx σ H) \/ ((Itr lo n).go i H /\ ∃ N : St -> Hp -> Prop, (∀ σ' H', N σ' H' -> ∃ m', m' < m /\ W (i + 1) m' σ' H') /\ ∀ x H', (Itr lo n).yld i H x H' -> g x σ H' fun σ2 H2 => tb { D with nx := N, ct := N, bk := D.nx } σ2 H2) := by
 refine ⟨fun i m σ H => m = n - i /\ i <= n /\ Pv i σ H, ⟨n, by simp, Nat.zero_le _, h0⟩, ?_⟩
 rintro i m σ H ⟨rfl, hi, p⟩
 by_cases hlt : i < n
 . refine .inr ⟨hlt, Pv (i + 1), fun σ' H' p' => ⟨n - (i + 1), by omega, rfl, hlt, p'⟩, fun x H' y => ?_⟩
   obtain ⟨e, y⟩ := y
   subst e y
   exact hs i σ _ hlt p
 . have e : i = n := by omega
   subst e
   exact .inl ⟨Nat.le_refl _, hd σ H p⟩
end L2
namespace L2
open PySem PySem.Spec PyProof.Rows
abbrev R2 := V -> V -> Hp -> VK -> Prop
def OpR (X : Cx) (f : Value -> Value -> Sem Value) (r : R2) : Prop :=
 ∀ (pins : List (Addr × Obj)) (s : Shared) (σ : St) (H : Hp) (x y : V) (v u : Value) (Q : VK), Inv X pins σ H s -> RelV x v -> RelV y u -> r x y H Q ->
  wpAny (model X.prog X.w) X.A (f v u) (EP X pins σ Q) X.xe s
def UnR (X : Cx) (f : Value -> Sem Value) (r : V -> Hp -> VK -> Prop) : Prop :=
 ∀ (pins : List (Addr × Obj)) (s : Shared) (σ : St) (H : Hp) (x : V) (v : Value) (Q : VK), Inv X pins σ H s -> RelV x v -> r x H Q ->
  wpAny (model X.prog X.w) X.A (f v) (EP X pins σ Q) X.xe s
def Xb (X : Cx) (f : Value) (r : List V -> Hp -> VK -> Prop) : Prop :=
 ∀ (pins : List (Addr × Obj)) (s : Shared) (σ : St) (H : Hp) (xs : List V) (us : List Value) (Q : VK), Inv X pins σ H s -> Vals xs us -> r xs H Q ->
  wpAny (model X.prog X.w) X.A (call f us) (EP X pins σ Q) X.xe s
def TruR (X : Cx) (r : V -> Hp -> (Bool -> Hp -> Prop) -> Prop) : Prop :=
 ∀ (pins : List (Addr × Obj)) (s : Shared) (σ : St) (H : Hp) (x : V) (v : Value) (Q : Bool -> Hp -> Prop), Inv X pins σ H s -> RelV x v -> r x H Q ->
  wpAny (model X.prog X.w) X.A (truthy v) (TP X pins σ Q) X.xe s
def tOp (r : R2) (ta tb : TE) : TE := fun σ H Q => ta σ H fun x H1 => tb σ H1 fun y H2 => r x y H2 Q
def tUn (r : V -> Hp -> VK -> Prop) (ta : TE) : TE := fun σ H Q => ta σ H fun x H1 => r x H1 Q
def rI (C : Int -> Int -> Prop) (g : Int -> Int -> V) : R2 := fun x y H Q => ∃ i j, x = .int i /\ y = .int j /\ C i j /\ Q (g i j) H
def rI0 (g : Int -> Int -> V) : R2 := fun x y H Q => ∃ i j, x = .int i /\ y = .int j /\ Q (g i j) H
def rU (g : Int -> V) : V -> Hp -> VK -> Prop := fun x H Q => ∃ i, x = .int i /\ Q (g i) H
section
variable {X : Cx} {a b c : Expr} {ta tb tc : TE} {pos : Pos}
theorem binT (ha : PE X a ta) (hb : PE X b tb) {pins : List (Addr × Obj)} {s : Shared} {σ : St} {H : Hp} {R : V -> V -> Hp -> Prop} (I : Inv X pins σ H s)
 (h : ta σ H fun x H1 => tb σ H1 fun y H2 => R x y H2) {Q : Value -> Shared -> Prop} {f : Value -> Value -> Sem Value}
 (hf : ∀ v u s2 x y H2, Inv X pins σ H2 s2 -> RelV x v -> RelV y u -> R x y H2 -> wpAny (model X.prog X.w) X.A (f v u) Q X.xe s2) :
 wpAny (model X.prog X.w) X.A (eval a X.env) (fun v s₁ => wpAny (model X.prog X.w) X.A (eval b X.env) (fun u s₂ => wpAny (model X.prog X.w) X.A (f v u) Q X.xe s₂) X.xe s₁) X.xe s := by
 refine thn (ha pins s σ H _ I h) fun v s1 ⟨x, H1, I1, r1, q1⟩ => ?_
 refine thn (hb pins s1 σ H1 _ I1 q1) fun u s2 ⟨y, H2, I2, r2, q2⟩ => ?_
 exact hf v u s2 x y H2 I2 r1 r2 q2
theorem La {op : Operator} {r : R2} (ho : OpR X (binaryOp op) r) (ha : PE X a ta) (hb : PE X b tb) : PE X (.BinOp a op b pos) (tOp r ta tb) := by
 intro pins s σ H Q I h
 exact wpAny_BinOp (binT ha hb I h fun v u s2 x y H2 I2 rx ry q => ho pins s2 σ H2 x y v u Q I2 rx ry q)
theorem Qe {op : UnaryOp} {r : V -> Hp -> VK -> Prop} (ho : UnR X (unaryOp op) r) (ha : PE X a ta) : PE X (.UnaryOp op a pos) (tUn r ta) := by
 intro pins s σ H Q I h
 exact UnaryOp_ (thn (ha pins s σ H _ I h) fun v s1 ⟨x, H1, I1, r1, q1⟩ => ho pins s1 σ H1 x v Q I1 r1 q1)
theorem opI {f : Value -> Value -> Sem Value} {C : Int -> Int -> Prop} {g : Int -> Int -> Int}
 (rule : ∀ (i j : Int) (t u : Tok) (s : Shared) (Q : Value -> Shared -> Prop) (E : Value -> Shared -> Prop), C i j -> Q (.int (g i j) s.toks) { s with toks := s.toks + 1 } -> wpAny (model X.prog X.w) X.A (f (.int i t) (.int j u)) Q E s) :
 OpR X f (rI C fun i j => .int (g i j)) := by
 intro pins s σ H x y v u Q I rx ry h
 obtain ⟨i, j, rfl, rfl, hc, q⟩ := h
 obtain ⟨t, rfl⟩ := rx
 obtain ⟨t', rfl⟩ := ry
 exact rule i j t t' s _ _ hc ⟨.int (g i j), H, I.tok _, ⟨_, rfl⟩, q⟩
theorem opI0 {f : Value -> Value -> Sem Value} {g : Int -> Int -> Int}
 (rule : ∀ (i j : Int) (t u : Tok) (s : Shared) (Q : Value -> Shared -> Prop) (E : Value -> Shared -> Prop), Q (.int (g i j) s.toks) { s with toks := s.toks + 1 } -> wpAny (model X.prog X.w) X.A (f (.int i t) (.int j u)) Q E s) :
 OpR X f (rI0 fun i j => .int (g i j)) := by
 intro pins s σ H x y v u Q I rx ry h
 obtain ⟨i, j, rfl, rfl, q⟩ := h
 obtain ⟨t, rfl⟩ := rx
 obtain ⟨t', rfl⟩ := ry
 exact rule i j t t' s _ _ ⟨.int (g i j), H, I.tok _, ⟨_, rfl⟩, q⟩
theorem opB0 {f : Value -> Value -> Sem Value} {g : Int -> Int -> Bool}
 (rule : ∀ (i j : Int) (t u : Tok) (s : Shared) (Q : Value -> Shared -> Prop) (E : Value -> Shared -> Prop), Q (.bool (g i j)) s -> wpAny (model X.prog X.w) X.A (f (.int i t) (.int j u)) Q E s) :
 OpR X f (rI0 fun i j => .bl (g i j)) := by
 intro pins s σ H x y v u Q I rx ry h
 obtain ⟨i, j, rfl, rfl, q⟩ := h
 obtain ⟨t, rfl⟩ := rx
 obtain ⟨t', rfl⟩ := ry
 exact rule i j t t' s _ _ ⟨.bl (g i j), H, I, rfl, q⟩
def CPow (i j : Int) : Prop := 0 <= j /\ j <= 1000000 /\ i.natAbs < 2 ^ 64
def CMul (i j : Int) : Prop := (-(2 ^ 64) < i /\ i < 2 ^ 64) \/ (-(2 ^ 64) < j /\ j < 2 ^ 64)
theorem CMul.ok {i j : Int} (h : CMul i j) : IntMulOk i j := by
 rcases h with ⟨h1, h2⟩ | ⟨h1, h2⟩
 . exact .of_left (intBits_le_64 h1 h2)
 . exact .of_right (intBits_le_64 h1 h2)
theorem op_add : OpR X (binaryOp .Add) (rI0 fun i j => .int (i + j)) := opI0 fun _ _ _ _ _ _ _ q => add_int q
theorem Ec : OpR X (binaryOp .Sub) (rI0 fun i j => .int (i - j)) := opI0 fun _ _ _ _ _ _ _ q => sub_int q
theorem gh : OpR X (binaryOp .Mod) (rI (fun _ j => 0 < j) fun i j => .int (i % j)) := opI fun i j _ _ _ _ _ hc q => by
 have h1 : (0 : Int) < j := hc
 exact mod_int' (by omega) (by rw [Int.fmod_eq_emod_of_nonneg i (by omega)]; exact q)
theorem op_pow : OpR X (binaryOp .Pow) (rI CPow fun i j => .int (i ^ j.toNat)) := opI fun _ _ _ _ _ _ _ hc q => pow_int_small hc.1 hc.2.1 hc.2.2 q
theorem unI {f : Value -> Sem Value} {g : Int -> Int}
 (rule : ∀ (i : Int) (t : Tok) (s : Shared) (Q : Value -> Shared -> Prop) (E : Value -> Shared -> Prop), Q (.int (g i) s.toks) { s with toks := s.toks + 1 } -> wpAny (model X.prog X.w) X.A (f (.int i t)) Q E s) :
 UnR X f (rU fun i => .int (g i)) := by
 intro pins s σ H x v Q I rx h
 obtain ⟨i, rfl, q⟩ := h
 obtain ⟨t, rfl⟩ := rx
 exact rule i t s _ _ ⟨.int (g i), H, I.tok _, ⟨_, rfl⟩, q⟩
theorem Bc : UnR X (unaryOp .USub) (rU fun i => .int (-i)) := unI fun _ _ _ _ _ q => neg_int q
end
def scal : V -> V -> Bool
 | .non, .non => true | .non, .int _ => true | .int _, .non => true | .non, .bl _ => true | .bl _, .non => true | .non, .str _ => true | .str _, .non => true
 | .int _, .int _ => true | .bl _, .bl _ => true | .str _, .str _ => true | .byt _, .byt _ => true
 | .int _, .str _ => true | .str _, .int _ => true | .bl _, .str _ => true | .str _, .bl _ => true
 | _, _ => false
def rEq : R2 := fun x y H Q => scal x y = true /\ Q (.bl (decide (x = y))) H
def rNe : R2 := fun x y H Q => scal x y = true /\ Q (.bl (!decide (x = y))) H
theorem Pp {i j : Int} : decide (V.int i = V.int j) = (i == j) := by
 rw [Bool.eq_iff_iff]
 simp
theorem Qt {i j : Bool} : decide (V.bl i = V.bl j) = (i == j) := by
 rw [Bool.eq_iff_iff]
 simp
theorem Np {i j : Str} : decide (V.str i = V.str j) = (i == j) := by
 rw [Bool.eq_iff_iff]
 simp
theorem Qp {i j : Array UInt8} : decide (V.byt i = V.byt j) = (i.toList == j.toList) := by
 rw [Bool.eq_iff_iff]
 cases i
 cases j
 simp
section
variable {X : Cx} {a b c : Expr} {ta tb tc : TE} {pos : Pos}
theorem Ya {pins : List (Addr × Obj)} {σ : St} {H : Hp} {s : Shared} {Q : VK} {k k' : Bool} (I : Inv X pins σ H s) (q : Q (.bl k) H) (e : k = k') : EP X pins σ Q (.bool k') s := by
 subst e
 exact ⟨.bl k, H, I, rfl, q⟩
theorem op_eq : OpR X (compareOp .Eq) rEq := by
 intro pins s σ H x y v u Q I rx ry h
 obtain ⟨hs, q⟩ := h
 cases x with
 | non =>
  cases rx
  cases y with
  | non => cases ry; exact PySem.EqNone.eq_none_none (Ya I q (by simp))
  | bl j => cases ry; exact PySem.EqNone.eq_none_bool (Ya I q (by simp))
  | int j => obtain ⟨t', rfl⟩ := ry; exact PySem.EqNone.eq_none_int (Ya I q (by simp))
  | str j => obtain ⟨t', rfl⟩ := ry; exact PySem.EqNone.eq_none_str (Ya I q (by simp))
  | _ => exact absurd (show false = true from hs) Bool.false_ne_true
 | bl i =>
  cases rx
  cases y with
  | non => cases ry; exact PySem.EqNone.eq_bool_none (Ya I q (by simp))
  | bl j => cases ry; exact eq_bool (Ya I q Qt)
  | str j => obtain ⟨t', rfl⟩ := ry; exact PySem.EqMixed.eq_bool_str (Ya I q (by simp))
  | _ => exact absurd (show false = true from hs) Bool.false_ne_true
 | int i =>
  obtain ⟨t, rfl⟩ := rx
  cases y with
  | non => cases ry; exact PySem.EqNone.eq_int_none (Ya I q (by simp))
  | int j => obtain ⟨t', rfl⟩ := ry; exact eq_int (Ya I q Pp)
  | str j => obtain ⟨t', rfl⟩ := ry; exact PySem.EqMixed.eq_int_str (Ya I q (by simp))
  | _ => exact absurd (show false = true from hs) Bool.false_ne_true
 | str i =>
  obtain ⟨t, rfl⟩ := rx
  cases y with
  | non => cases ry; exact PySem.EqNone.eq_str_none (Ya I q (by simp))
  | bl j => cases ry; exact PySem.EqMixed.eq_str_bool (Ya I q (by simp))
  | int j => obtain ⟨t', rfl⟩ := ry; exact PySem.EqMixed.eq_str_int (Ya I q (by simp))
  | str j => obtain ⟨t', rfl⟩ := ry; exact eq_str (Ya I q Np)
  | _ => exact absurd (show false = true from hs) Bool.false_ne_true
 | byt i =>
  obtain ⟨t, rfl⟩ := rx
  cases y with
  | byt j => obtain ⟨t', rfl⟩ := ry; exact PySem.W.eq_bytes (Ya I q Qp)
  | _ => exact absurd (show false = true from hs) Bool.false_ne_true
 | _ => cases y <;> exact absurd (show false = true from hs) Bool.false_ne_true
theorem op_ne : OpR X (compareOp .NotEq) rNe := by
 intro pins s σ H x y v u Q I rx ry h
 obtain ⟨hs, q⟩ := h
 cases x with
 | non =>
  cases rx
  cases y with
  | non => cases ry; exact PySem.EqNone.ne_none_none (Ya I q (by simp))
  | bl j => cases ry; exact PySem.EqNone.ne_none_bool (Ya I q (by simp))
  | int j => obtain ⟨t', rfl⟩ := ry; exact PySem.EqNone.ne_none_int (Ya I q (by simp))
  | str j => obtain ⟨t', rfl⟩ := ry; exact PySem.EqNone.ne_none_str (Ya I q (by simp))
  | _ => exact absurd (show false = true from hs) Bool.false_ne_true
 | bl i =>
  cases rx
  cases y with
  | non => cases ry; exact PySem.EqNone.ne_bool_none (Ya I q (by simp))
  | bl j => cases ry; exact ne_bool (Ya I q (congrArg not Qt))
  | str j => obtain ⟨t', rfl⟩ := ry; exact PySem.EqMixed.ne_bool_str (Ya I q (by simp))
  | _ => exact absurd (show false = true from hs) Bool.false_ne_true
 | int i =>
  obtain ⟨t, rfl⟩ := rx
  cases y with
  | non => cases ry; exact PySem.EqNone.ne_int_none (Ya I q (by simp))
  | int j => obtain ⟨t', rfl⟩ := ry; exact ne_int (Ya I q (congrArg not Pp))
  | str j => obtain ⟨t', rfl⟩ := ry; exact PySem.EqMixed.ne_int_str (Ya I q (by simp))
  | _ => exact absurd (show false = true from hs) Bool.false_ne_true
 | str i =>
  obtain ⟨t, rfl⟩ := rx
  cases y with
  | non => cases ry; exact PySem.EqNone.ne_str_none (Ya I q (by simp))
  | bl j => cases ry; exact PySem.EqMixed.ne_str_bool (Ya I q (by simp))
  | int j => obtain ⟨t', rfl⟩ := ry; exact PySem.EqMixed.ne_str_int (Ya I q (by simp))
  | str j => obtain ⟨t', rfl⟩ := ry; exact ne_str (Ya I q (congrArg not Np))
  | _ => exact absurd (show false = true from hs) Bool.false_ne_true
 | byt i =>
  obtain ⟨t, rfl⟩ := rx
  cases y with
  | byt j => obtain ⟨t', rfl⟩ := ry; exact PySem.W.ne_bytes (Ya I q (congrArg not Qp))
  | _ => exact absurd (show false = true from hs) Bool.false_ne_true
 | _ => cases y <;> exact absurd (show false = true from hs) Bool.false_ne_true
theorem op_lt : OpR X (compareOp .Lt) (rI0 fun i j => .bl (decide (i < j))) := opB0 fun _ _ _ _ _ _ _ q => lt_int q
theorem op_le : OpR X (compareOp .LtE) (rI0 fun i j => .bl (decide (i <= j))) := opB0 fun _ _ _ _ _ _ _ q => le_int q
theorem Se : OpR X (compareOp .Gt) (rI0 fun i j => .bl (decide (j < i))) := opB0 fun _ _ _ _ _ _ _ q => gt_int q
theorem nr : OpR X (compareOp .GtE) (rI0 fun i j => .bl (decide (j <= i))) := opB0 fun _ _ _ _ _ _ _ q => ge_int q
theorem OpR.or {f : Value -> Value -> Sem Value} {r r' : R2} (h : OpR X f r) (h' : OpR X f r') : OpR X f (fun x y H Q => r x y H Q \/ r' x y H Q) := by
 intro pins s σ H x y v u Q I rx ry q
 rcases q with q | q
 . exact h pins s σ H x y v u Q I rx ry q
 . exact h' pins s σ H x y v u Q I rx ry q
theorem za (b : Expr) {op : CmpOp} (h : op ≠ .In := by decide) (h2 : op ≠ .NotIn := by decide) : behindInMarks op b = false := by
 have e1 : (op == CmpOp.In) = false := by cases op <;> first | rfl | exact absurd rfl h
 have e2 : (op == CmpOp.NotIn) = false := by cases op <;> first | rfl | exact absurd rfl h2
 cases b <;> simp [behindInMarks, e1, e2]
theorem Xa {op : CmpOp} {r : R2} (ho : OpR X (compareOp op) r) (ha : PE X a ta) (hb : PE X b tb) (hm : behindInMarks op b = false) : PE X (.Compare a [op] [b] pos) (tOp r ta tb) := by
 intro pins s σ H Q I h
 exact wpAny_Compare1 (binT ha hb I h fun v u s2 x y H2 I2 rx ry q => ho pins s2 σ H2 x y v u Q I2 rx ry q) hm
def tTest (t : TE) : TT := fun σ H Q => t σ H fun x H' => ∃ k, x = .bl k /\ Q k H'
theorem ya {op : CmpOp} {r : R2} (ho : OpR X (compareOp op) r) (ha : PE X a ta) (hb : PE X b tb) (hm : behindInMarks op b = false) : PT X (.Compare a [op] [b] pos) (tTest (tOp r ta tb)) := by
 intro pins s σ H Q I h
 refine wpAny_isTrue_Compare1 (thn (ha pins s σ H _ I h) fun v s1 ⟨x, H1, I1, r1, q1⟩ => thn (hb pins s1 σ H1 _ I1 q1) fun u s2 ⟨y, H2, I2, r2, q2⟩ =>
  thn (ho pins s2 σ H2 x y v u _ I2 r1 r2 q2) fun c s3 ⟨z, H3, I3, r3, k, e, q3⟩ => ?_) hm
 subst e
 cases r3
 exact wpAny_truthy_bool ⟨H3, I3, q3⟩
def TruV (K : PySem.W.Frag) (x : V) (H : Hp) (k : Bool) : Prop :=
 match x with
 | .non => k = false
 | .bl b => k = b
 | .int i => k = (i != 0)
 | .str y => y.length <= sizeLine /\ k = ((y.length : Int) != 0)
 | .byt y => y.size <= sizeLine /\ k = ((y.size : Int) != 0)
 | .ref p => (∃ xs, SqL K H p xs /\ k = !xs.isEmpty) \/ (∃ xs, SqT K H p xs /\ k = !xs.isEmpty) \/ ∃ kvs, H p = some (.dK kvs) /\ k = !kvs.isEmpty
 | _ => False
theorem Jm {κ : Type} {kvs : List (κ × V)} {vs : List (κ × Value)} (r : KV kvs vs) : (!vs.isEmpty) = !kvs.isEmpty := by
 cases r <;> rfl
theorem mh {xs : List V} {its : List Value} (r : Vals xs its) : (!its.toArray.isEmpty) = !xs.isEmpty := by
 cases r <;> simp
theorem lh : (sizeLine : Nat) < 2 ^ 63 := by rw [sizeLine_eq]; decide
theorem tru_ok : TruR X (fun x H Q => ∃ k, TruV X.K x H k /\ Q k H) := by
 intro pins s σ H x v Q I rx h
 obtain ⟨k, e, q⟩ := h
 have hl := lh
 have hs : sizeLine = 16777216 := sizeLine_eq
 cases x with
 | non =>
  cases rx
  have e' : k = false := e
  subst e'
  exact truthy_none ⟨H, I, q⟩
 | bl b =>
  cases rx
  have e' : k = b := e
  subst e'
  exact wpAny_truthy_bool ⟨H, I, q⟩
 | int i =>
  obtain ⟨t, rfl⟩ := rx
  have e' : k = (i != 0) := e
  subst e'
  exact PySem.P.truthy_int ⟨H, I, q⟩
 | str y =>
  obtain ⟨t, rfl⟩ := rx
  obtain ⟨hy, e'⟩ : y.length <= sizeLine /\ k = ((y.length : Int) != 0) := e
  subst e'
  exact PySem.P.truthy_str (by omega) ⟨H, I.tok _, q⟩
 | byt y =>
  obtain ⟨t, rfl⟩ := rx
  obtain ⟨hy, e'⟩ : y.size <= sizeLine /\ k = ((y.size : Int) != 0) := e
  subst e'
  exact PySem.W.truthy_bytes (by omega) ⟨H, I.tok _, q⟩
 | ref p =>
  cases rx
  have e' : (∃ xs, SqL X.K H p xs /\ k = !xs.isEmpty) \/ (∃ xs, SqT X.K H p xs /\ k = !xs.isEmpty) \/ ∃ kvs, H p = some (.dK kvs) /\ k = !kvs.isEmpty := e
  rcases e' with ⟨xs, hx, e'⟩ | ⟨xs, hx, e'⟩ | ⟨kvs, hx, e'⟩
  . subst e'
    obtain ⟨its, r, pl, hz⟩ := I.list hx
    have hlen := r.length
    exact wpAny_truthy_list pl.isList (by simp only [List.size_toArray]; omega) ⟨H, I.tok _, by rw [mh r]; exact q⟩
  . subst e'
    obtain ⟨its, r, pl, hz⟩ := I.tuple hx
    have hlen := r.length
    exact truthy_tuple pl (by simp only [List.size_toArray]; omega) ⟨H, I.tok _, by rw [mh r]; exact q⟩
  . subst e'
    obtain ⟨hz, hS, vs, r, m⟩ : kvs.length <= sizeLine /\ (p == sysModules) = false /\ ∃ vs, KV kvs vs /\ s.heap.DictOf (jk X.prog X.w) p vs := I.hok p _ hx
    have hlen : kvs.length = vs.length := Paired.length r
    exact wpAny_truthy_dict hS m (by omega) ⟨H, I.tok _, by rw [Jm r]; exact q⟩
 | _ => exact (show False from e).elim
theorem ir (ha : PE X a ta) (he : ∀ whole, isTrue a X.env whole = (do let v <- whole; standAt a.pos; holding [v] (truthy v))) :
 PT X a (fun σ H Q => ta σ H fun x H' => ∃ k, TruV X.K x H' k /\ Q k H') := by
 intro pins s σ H Q I h
 exact isTrue_plain (thn (ha pins s σ H _ I h) fun v s1 ⟨x, H1, I1, r1, q1⟩ => tru_ok pins s1 σ H1 x v Q I1 r1 q1) (he _)
theorem wm : OpR X (binaryOp .Add) (fun x y H Q => ∃ i j, x = .str i /\ y = .str j /\ i.length + j.length <= sizeLine /\ Q (.str (i ++ j)) H) := by
 intro pins s σ H x y v u Q I rx ry h
 obtain ⟨i, j, rfl, rfl, hz, q⟩ := h
 obtain ⟨t, rfl⟩ := rx
 obtain ⟨t', rfl⟩ := ry
 exact add_str (fun t' tk => ⟨.str (i ++ j), H, I.tok _, ⟨_, rfl⟩, q⟩) hz
theorem vals1 {x : V} {us : List Value} (r : Vals [x] us) : ∃ u, us = [u] /\ RelV x u := by
 cases r with
 | cons r1 r2 => cases r2; exact ⟨_, rfl, r1⟩
theorem vals2 {x y : V} {us : List Value} (r : Vals [x, y] us) : ∃ u w', us = [u, w'] /\ RelV x u /\ RelV y w' := by
 cases r with
 | cons r1 r2 =>
  cases r2 with
  | cons r3 r4 => cases r4; exact ⟨_, _, rfl, r1, r3⟩
theorem Zr : Xb X (.builtin "abs") (fun xs H Q => ∃ i, xs = [.int i] /\ Q (.int (if i < 0 then -i else i)) H) := by
 intro pins s σ H xs us Q I r h
 obtain ⟨i, rfl, q⟩ := h
 obtain ⟨u, rfl, t, rfl⟩ := vals1 r
 exact call_abs_int fun u tk => ⟨.int (if i < 0 then -i else i), H, I.tok _, ⟨_, rfl⟩, q⟩
theorem bq (hc : X.calm = true) : Xb X (.builtin "max") (fun xs H Q => ∃ i j, xs = [.int i, .int j] /\ Q (.int (if j > i then j else i)) H) := by
 intro pins s σ H xs us Q I r h
 obtain ⟨i, j, rfl, q⟩ := h
 obtain ⟨u, w', rfl, ⟨t, rfl⟩, ⟨t', rfl⟩⟩ := vals2 r
 refine max_two_ints (I.ok.hd hc) fun h' tk k => ⟨_, H, I.kept k, ?_, q⟩
 by_cases hj : j > i
 . rw [if_pos hj, if_pos hj]; exact ⟨_, rfl⟩
 . rw [if_neg hj, if_neg hj]; exact ⟨_, rfl⟩
theorem aq (hc : X.calm = true) : Xb X (.builtin "min") (fun xs H Q => ∃ i j, xs = [.int i, .int j] /\ Q (.int (if j < i then j else i)) H) := by
 intro pins s σ H xs us Q I r h
 obtain ⟨i, j, rfl, q⟩ := h
 obtain ⟨u, w', rfl, ⟨t, rfl⟩, ⟨t', rfl⟩⟩ := vals2 r
 refine min_two_ints (I.ok.hd hc) fun h' tk k => ⟨_, H, I.kept k, ?_, q⟩
 by_cases hj : j < i
 . rw [if_pos hj, if_pos hj]; exact ⟨_, rfl⟩
 . rw [if_neg hj, if_neg hj]; exact ⟨_, rfl⟩
theorem cq : Xb X (.type "int") (fun xs H Q => (∃ i, xs = [.int i] /\ Q (.int i) H) \/ ∃ k, xs = [.bl k] /\ Q (.int (if k then 1 else 0)) H) := by
 intro pins s σ H xs us Q I r h
 rcases h with ⟨i, rfl, q⟩ | ⟨k, rfl, q⟩
 . obtain ⟨u, rfl, t, rfl⟩ := vals1 r
   exact call_int_int ⟨.int i, H, I, ⟨_, rfl⟩, q⟩
 . obtain ⟨u, rfl, r1⟩ := vals1 r
   cases r1
   exact call_int_bool ⟨.int (if k then 1 else 0), H, I.tok _, ⟨_, rfl⟩, q⟩
end
end L2
namespace L2
open PySem PySem.Spec PyProof.Rows
structure ObjM (h : Heap) (x dx C : Addr) (mA : Str -> Option Value) : Prop where
 obj : h.get? x = some (PySem.W.instObj C dx)
 ns : h.Ns1 dx mA
 ne : dx ≠ x
theorem Ap {h : Heap} {dx : Addr} {mA : Str -> Option Value} (n : h.Ns1 dx mA) : ∃ od, h.get? dx = some od /\ ∀ name, PySem.W.lookIn name od = some (mA name) := by
 obtain ⟨o, es, ep, ho, hd, hk, _, hm⟩ := n
 refine ⟨o, ho, fun name => ?_⟩
 have e := hm name
 unfold nsFind findBy at e
 rw [<- Array.find?_toList] at e
 unfold PySem.W.lookIn
 rw [hd]
 dsimp only
 split
 . rename_i y q
   rw [q] at e
   exact congrArg some e
 . rename_i q
   rw [q] at e
   have a : es.toList.any (·.refKey) = false := by
    rw [List.any_eq_false]
    intro y hy
    obtain ⟨z, t, hkey⟩ := hk y (Array.mem_toList_iff.mp hy)
    simp [DictEntry.refKey, hkey]
   have a' : ¬ es.toList.any (·.refKey) = true := by rw [a]; exact Bool.false_ne_true
   rw [if_neg a']
   exact congrArg some e
theorem ObjM.look {h : Heap} {x dx C : Addr} {mA : Str -> Option Value} (I : ObjM h x dx C mA) : ∃ od, PySem.W.InstAt h x (PySem.W.instObj C dx) C (some od) /\ ∀ name, PySem.W.lookIn name od = some (mA name) :=
 let ⟨od, ho, hl⟩ := Ap I.ns
 ⟨od, ⟨I.obj, rfl, rfl, ho⟩, hl⟩
section
variable {prog : Program} {w : World} {A : Around} {E : Value -> Shared -> Prop} {s : Shared} {K : PySem.W.Frag} {x dx C f : Addr} {mA : Str -> Option Value} {name : Str} {v : Value}
end
section
variable {P : Program} {w : World} {H H' : Hp} {h h' : Heap} {a C dx : Addr} {fs fs' : List (Str × V)}
theorem tv (hok : HOk P w H h) (e : H a = some (.ins C dx fs)) : ∃ mA, ObjM h a dx C mA /\ (∀ f, RelO (fs.lookup f) (mA f)) /\ PySem.Within mA (fs.map (·.1)) /\ fs.length <= 1000 /\ H dx = some (.own a) := by
 obtain ⟨d, z, ne, ob, mA, n, r, q⟩ := (show Ob P w H h a (.ins C dx fs) from hok a _ e)
 exact ⟨mA, ⟨ob, n, ne⟩, r, q, z, d⟩
end
structure Cls (K : PySem.W.Frag) (C : Addr) : Prop where
 pg : PySem.W.plainGet K C Str.empty = true
 hd : PySem.W.hasDictIn K C = true
 po : PySem.W.plainOver K C = true
 sa : PySem.W.findIn K (.ref C) "__setattr__" = some (some (.builtin "object.__setattr__"))
theorem Cls.get {K : PySem.W.Frag} {C : Addr} (c : Cls K C) (f : Str) : PySem.W.plainGet K C f = true := c.pg
section
variable {X : Cx} {pins : List (Addr × Obj)} {σ : St} {H : Hp} {s : Shared} {a C dx : Addr} {fs : List (Str × V)} {f : Str} {v : V} {A : Around} {E : Value -> Shared -> Prop}
theorem Qv {prog : Program} {w : World} {env : Env} {e : Expr} {f : Str} {pos : Pos} {s : Shared} {Q : Value -> Shared -> Prop} (hb : attributeBase e f env (eval e env) = eval e env)
 (h : wpAny (model prog w) A (eval e env) (fun o s₁ => wpAny (model prog w) A (getAttr o f true) Q E s₁) E s) : wpAny (model prog w) A (eval (.Attribute e f pos) env) Q E s :=
 Attribute_any_ h (by rw [arm_eval_Attribute, hb])
end
section
variable {X : Cx} {pins : List (Addr × Obj)} {σ : St} {H : Hp} {s : Shared} {A : Around} {E : Value -> Shared -> Prop} {Q : Value -> Shared -> Prop} {c : Value} {b : Bool}
inductive TyOf (K : PySem.W.Frag) (H : Hp) : V -> Value -> Prop where
 | non : TyOf K H .non (.type "NoneType")
 | bl (x : Bool) : TyOf K H (.bl x) (.type "bool")
 | int (i : Int) : TyOf K H (.int i) (.type "int")
 | str (x : Str) : TyOf K H (.str x) (.type "str")
 | flt (x : UInt64) : TyOf K H (.flt x) (.type "float")
 | lst {a : Addr} {xs : List V} (e : H a = some (.lst xs)) : TyOf K H (.ref a) (.type "list")
 | frz {a : Addr} {o : Obj} {xs : List V} (e : H a = some (.frz o (.lst xs))) : TyOf K H (.ref a) (.type "list")
 | tup {a : Addr} {xs : List V} (e : H a = some (.tup xs)) : TyOf K H (.ref a) (.type "tuple")
 | dK {a : Addr} {kvs : List (Key × V)} (e : H a = some (.dK kvs)) : TyOf K H (.ref a) (.type "dict")
 | dT {a : Addr} {kvs : List (List Key × V)} (e : H a = some (.dT kvs)) : TyOf K H (.ref a) (.type "dict")
 | ins {a C dx : Addr} {fs : List (Str × V)} (e : H a = some (.ins C dx fs)) (cl : Cls K C) (ha : PySem.W.findIn K (.ref C) "__class__" = some (some (.builtin "object.__class__")))
  (hn : PySem.W.specialIn K (.builtin "object.__class__") "__get__" = some (some (.builtin "getset_descriptor.__get__"))) (htk : PySem.W.takesIn K (.builtin "object.__class__") = some true)
  (hm : PySem.W.mroIn K C (.type "object") = some true) : TyOf K H (.ref a) (.ref C)
theorem Dp {x : V} {u t : Value} (I : Inv X pins σ H s) (rx : RelV x u) (ty : TyOf X.K H x t) (e : PySem.W.kitOne X.K t c = some b) (h : ∀ tk, Q (.bool b) { s with toks := tk }) :
 wpAny (model X.prog X.w) A (call (.builtin "isinstance") [u, c]) Q E s := by
 cases ty with
 | non => cases (show u = Value.none from rx); exact PySem.W.kia_one PySem.W.kitx_none I.kIn True.intro e (fun z => nomatch z) h
 | bl y => cases (show u = Value.bool y from rx); exact PySem.W.kia_one PySem.W.kitx_bool I.kIn True.intro e (fun z => nomatch z) h
 | int i => obtain ⟨t, q⟩ := (show ∃ t, u = Value.int i t from rx); cases q; exact PySem.W.kia_one PySem.W.kitx_int I.kIn True.intro e (fun z => nomatch z) h
 | str y => obtain ⟨t, q⟩ := (show ∃ t, u = Value.str y t from rx); cases q; exact PySem.W.kia_one PySem.W.kitx_str I.kIn True.intro e (fun z => nomatch z) h
 | flt y => obtain ⟨t, q⟩ := (show ∃ t, u = Value.float y t from rx); cases q; exact PySem.W.kia_one PySem.W.kitx_float I.kIn True.intro e (fun z => nomatch z) h
 | @lst a xs ea =>
  cases (show u = Value.ref a from rx)
  obtain ⟨_, _, n, _, h1⟩ := (show Ob X.prog X.w H s.heap a (.lst xs) from I.hok a _ ea)
  exact PySem.W.kia_one PySem.W.kitx_list I.kIn ⟨_, h1, rfl⟩ e (fun z => nomatch z) h
 | @frz a ob xs ea =>
  cases (show u = Value.ref a from rx)
  obtain ⟨_, _, _, n, _, h1⟩ := (show Ob X.prog X.w H s.heap a (.frz ob (.lst xs)) from I.hok a _ ea)
  exact PySem.W.kia_one PySem.W.kitx_list I.kIn ⟨_, h1, rfl⟩ e (fun z => nomatch z) h
 | @tup a xs ea =>
  cases (show u = Value.ref a from rx)
  obtain ⟨_, _, _, p⟩ := (show Ob X.prog X.w H s.heap a (.tup xs) from I.hok a _ ea)
  obtain ⟨o, h1, h2, _⟩ := p
  exact PySem.W.kia_one PySem.W.kitx_tuple I.kIn ⟨o, h1, h2⟩ e (fun z => nomatch z) h
 | @dK a kvs ea =>
  cases (show u = Value.ref a from rx)
  obtain ⟨_, _, vs, _, p⟩ := (show Ob X.prog X.w H s.heap a (.dK kvs) from I.hok a _ ea)
  obtain ⟨o, es, ep, h1, h2, _⟩ := p
  exact PySem.W.kia_one PySem.W.kitx_dict I.kIn ⟨o, h1, h2.1⟩ e (fun z => nomatch z) h
 | @dT a kvs ea =>
  cases (show u = Value.ref a from rx)
  obtain ⟨_, _, xs, _, o, es, ep, h1, h2, _⟩ := (show Ob X.prog X.w H s.heap a (.dT kvs) from I.hok a _ ea)
  exact PySem.W.kia_one PySem.W.kitx_dict I.kIn ⟨o, h1, h2.1⟩ e (fun z => nomatch z) h
 | @ins a C dx fs ea cl ha hn htk hm =>
  cases (show u = Value.ref a from rx)
  obtain ⟨mA, O, _⟩ := tv I.hok ea
  obtain ⟨od, J, _⟩ := O.look
  exact PySem.W.kia_one (PySem.W.kitx_own (cl.get _) cl.hd ha hn htk hm) I.kIn J e (fun z => nomatch z) h
end
end L2
namespace L2
open PySem PySem.Spec PyProof.Rows
structure Room (k : Nat) (A : Around) : Prop where
 hd : A.handled = none
 dp : A.depth + 3 * k + 5 < recursionLimit
 un : A.units + 16 * k + 200 < cLine
theorem Room.mono {j k : Nat} {A : Around} (r : Room k A) (h : j <= k) : Room j A := ⟨r.hd, by have := r.dp; omega, by have := r.un; omega⟩
theorem Room.deeper {k : Nat} {A : Around} (r : Room (k + 1) A) (env : Env) : Room k (A.deeper env) :=
 ⟨r.hd, by have := r.dp; show A.depth + 1 + 3 * k + 5 < _; omega, by have := r.un; show A.units + 3 + 16 * k + 200 < _; omega⟩
theorem Dm {A : Around} {C : Addr} {us : List Value} {kw : List (Str × Value)} : (A.under (.builtin "type.__call__" ⟨.ref C :: us, kw⟩)).depth = A.depth + 1 := by
 first | rfl | simp [Around.under, Code.weight, Code.isCreation, Code.isGuard, Code.isCaller, Code.frames, Code.isFrame, guardIds]
theorem Room.depth {k : Nat} {A : Around} (r : Room k A) : A.depth < recursionLimit := by have := r.dp; omega
theorem Room.units {k : Nat} {A : Around} (r : Room k A) : A.units + 64 < cLine := by have := r.un; omega
def tNil : TA := fun _ H Q => Q [] H
def tCons (ta : TE) (tr : TA) : TA := fun σ H Q => ta σ H fun x H1 => tr σ H1 fun xs H2 => Q (x :: xs) H2
section
variable {X : Cx} {e : Expr} {es : List Expr} {te : TE} {t : TA} {pos : Pos}
theorem ja : PA X [] tNil := fun _ _ _ _ H Q I h => Calls.spliced_nil ⟨[], H, I, .nil, h⟩
theorem aa (ha : PE X e te) (hr : PA X es t) (hs : starEach (e :: es) X.env = (false, eval e X.env) :: starEach es X.env := by first | rfl | with_unfolding_all rfl) : PA X (e :: es) (tCons te t) := by
 intro pos pins s σ H Q I h
 rw [hs]
 show wpAny _ _ (spliced ((false, eval e X.env) :: backTo pos (starEach es X.env))) _ _ s
 refine Calls.spliced_cons (thn (ha pins s σ H _ I h) fun u s1 ⟨x, H1, I1, r1, q1⟩ => ?_)
 exact thn (hr pos pins s1 σ H1 _ I1 q1) fun us s2 ⟨xs, H2, I2, r2, q2⟩ => ⟨x :: xs, H2, I2, .cons r1 r2, q2⟩
def tTup (t : TA) : TE := fun σ H Q => t σ H fun xs H1 => xs.length <= sizeLine /\ ∀ p, H1 p = none -> Q (.ref p) (upd H1 p (.tup xs))
def tLst (t : TA) : TE := fun σ H Q => t σ H fun xs H1 => xs.length <= sizeLine /\ ∀ p, H1 p = none -> Q (.ref p) (upd H1 p (.lst xs))
theorem Ua {x1} (h : PA X es t) : PE X (.Tuple es x1 pos) (tTup t) := by
 intro pins s σ H Q I hq
 refine wpAny_Tuple_spliced (thn (h pos pins s σ H _ I hq) fun us s1 ⟨xs, H1, I1, r, z, q⟩ => ⟨by rw [<- r.length]; exact z, ?_⟩)
 have hf : H1 s1.heap.objs.size = none := I1.hok.fresh (Nat.le_refl _)
 refine ⟨.ref s1.heap.objs.size, upd H1 s1.heap.objs.size (.tup xs), I1.laid (t' := s1.toks) (fun b u e => Heap.get?_push_of_some _ e) (Nat.le_refl _) ?_, rfl, q _ hf⟩
 exact ⟨z, us, r, ⟨_, Heap.get?_push_size _ rfl, rfl, _, rfl⟩⟩
theorem vb (h : PA X es t) : PE X (.List es pos) (tLst t) := by
 intro pins s σ H Q I hq
 refine wpAny_List_spliced (thn (h pos pins s σ H _ I hq) fun us s1 ⟨xs, H1, I1, r, z, q⟩ => ⟨by rw [<- r.length]; exact z, ?_⟩)
 have hf : H1 s1.heap.objs.size = none := I1.hok.fresh (Nat.le_refl _)
 refine ⟨.ref s1.heap.objs.size, upd H1 s1.heap.objs.size (.lst xs), I1.laid (t' := s1.toks) (fun b u e => Heap.get?_push_of_some _ e) (Nat.le_refl _) ?_, rfl, q _ hf⟩
 exact ⟨z, us, 0, r, Heap.get?_push_size _ rfl⟩
end
abbrev Sp := List V -> Hp -> VK -> XK -> Prop
abbrev CXT := List Env -> Hp -> Shared -> XK -> Value -> Shared -> Prop
structure Env0 (P : Program) (w : World) (K : PySem.W.Frag) (mg : Str -> Option Value) (base : Heap) (A : Around) (outer : List Env) (s : Shared) (H : Hp) : Prop where
 frames : A.frames = some outer
 mod : Mod K mg base
 bs : ∀ b o, base.get? b = some o -> s.heap.get? b = some o /\ H b = none
 bsz : base.objs.size <= s.heap.objs.size
 funs : s.heap.FunFrames base outer
 frf : ∀ b ∈ frs outer, H b = none
 hok : HOk P w H s.heap
 bare : AllBare s.gens
def CE (outer : List Env) (P : Program) (w : World) (H : Hp) (s : Shared) (Q : VK) (u : Value) (s' : Shared) : Prop :=
 ∃ v H', s'.os = s.os /\ AllBare s'.gens /\ Un (frs outer) [] H H' s.heap s'.heap /\ HOk P w H' s'.heap /\ RelV v u /\ Q v H'
def CR (CX : CXT) (outer : List Env) (P : Program) (w : World) (H : Hp) (s : Shared) (Q : VK) (E : XK) (r : Result) (s' : Shared) : Prop :=
 match r with
 | .ok (.ret u) => CE outer P w H s Q u s'
 | .ok _ => False
 | .error e => CX outer H s E e s'
structure FnOk (P : Program) (w : World) (K : PySem.W.Frag) (mg : Str -> Option Value) (base : Heap) (CX : CXT) (k : Nat) (f : Addr) (fd : FuncData) (ps : List Str) (sp : Sp) : Prop where
 len : ∀ vs H Q E, sp vs H Q E -> vs.length = ps.length
 run : ∀ (A : Around) (outer : List Env) (s : Shared) (H : Hp) (args : Args) (us : List Value) (vs : List V) (Q : VK) (E : XK), Room k A -> Env0 P w K mg base A outer s H -> BindsTo s fd args (ps.zip us) -> Vals vs us -> sp vs H Q E ->
  codeAny (model P w) A (.call (.ref f) args) (CR CX outer P w H s Q E) s
section
variable {X : Cx} {pins : List (Addr × Obj)} {σ : St} {H : Hp} {s s' : Shared}
theorem Inv.env0 (I : Inv X pins σ H s) : Env0 X.prog X.w X.K X.mg X.base X.A X.stack s H :=
 ⟨I.ok.frames, I.ok.mod, I.bs, Nat.le_trans I.ok.bsz I.sz, I.stack, I.Ge, I.hok, I.bare⟩
theorem Inv.after {Q : VK} {u : Value} (I : Inv X pins σ H s) (h : CE X.stack X.prog X.w H s Q u s') : EP X pins σ Q u s' := by
 obtain ⟨v, H', os, bare, un, hok, r, q⟩ := h
 obtain ⟨hh, g, d, t, os'⟩ := s'
 obtain rfl : os' = s.os := os
 exact ⟨v, H', I.call (h' := hh) (g' := g) (d' := d) (t' := t) (ch := []) un hok bare (fun b z => absurd z (by simp)), r, q⟩
end
def tCall (sp : Sp) (dvs : List V) (E : XK) (t : TA) : TE := fun σ H Q => t σ H fun vs H1 => sp (vs ++ dvs) H1 Q E
def Binds (K : PySem.W.Frag) (fd : FuncData) (ps : List Str) (ds : List Value) : Prop :=
 ∀ (s : Shared) (us : List Value), K.In s.heap -> (us ++ ds).length = ps.length -> BindsTo s fd ⟨us, []⟩ (ps.zip (us ++ ds))
theorem Binds.all {K : PySem.W.Frag} {fd : FuncData} {ps : List Str} (h : ∀ us : List Value, us.length = ps.length -> bindArgs fd ⟨us, []⟩ = pure (ps.zip us)) : Binds K fd ps [] := fun s us _ hl => by
 rw [List.append_nil] at hl ⊢
 exact .of_eq (h us hl)
def Passes (CX : CXT) (X : Cx) (E : XK) : Prop := ∀ (pins : List (Addr × Obj)) (σ : St) (H : Hp) (s : Shared) (e : Value) (s' : Shared), Inv X pins σ H s -> CX X.stack H s E e s' -> X.xe e s'
section
variable {X : Cx} {CX : CXT} {k : Nat} {f C : Addr} {fd : FuncData} {ps : List Str} {sp : Sp} {dvs : List V} {ds : List Value} {E : XK} {x m : Str} {p pos apos : Pos} {e o : Expr} {es : List Expr} {ta : TE} {t : TA}
theorem run_fn {pins : List (Addr × Obj)} {σ : St} {H : Hp} {s : Shared} {Q : VK} {us : List Value} {vs : List V} (F : FnOk X.prog X.w X.K X.mg X.base CX k f fd ps sp) (hr : Room k X.A) (hb : Binds X.K fd ps ds) (hd : Vals dvs ds) (hx : Passes CX X E)
 (I : Inv X pins σ H s) (r : Vals vs us) (h : sp (vs ++ dvs) H Q E) : wpAny (model X.prog X.w) X.A (call (.ref f) us) (EP X pins σ Q) X.xe s := by
 have r2 : Vals (vs ++ dvs) (us ++ ds) := r.append hd
 have hl : (us ++ ds).length = ps.length := by rw [<- r2.length]; exact F.len _ _ _ _ h
 refine wpAny_call (codeAny_mono (F.run X.A X.stack s H ⟨us, []⟩ (us ++ ds) (vs ++ dvs) Q E hr I.env0 (hb s us I.kIn hl) r2 h) fun r s' hq => ?_)
 cases r with
 | error e => exact hx pins σ H s e s' I hq
 | ok fl =>
  cases fl with
  | ret u => exact I.after hq
  | next => exact False.elim hq
  | brk => exact False.elim hq
  | cont => exact False.elim hq
theorem Qu (F : FnOk X.prog X.w X.K X.mg X.base CX k f fd ps sp) (hr : Room k X.A) (hg : Gl X x) (hm : X.mg x = some (.ref f)) (hk : PySem.W.keepIn X.K (.ref f) = true) (hb : Binds X.K fd ps ds) (hd : Vals dvs ds) (hx : Passes CX X E)
 (ha : PA X (e :: es) t) (hdb : (x == ("__debug__" : Str)) = false := by decide) (he : starEach (e :: es) X.env = (false, eval e X.env) :: starEach es X.env := by first | rfl | with_unfolding_all rfl) (hpl : (backTo pos (starEach es X.env)).any (·.1) = false := by first | rfl | with_unfolding_all rfl) :
 PE X (.Call (.Name x p) (e :: es) [] pos) (tCall sp dvs E t) := by
 intro pins s σ H Q I h
 refine wpAny_Call_Name_kw (Te I hg hm ?_ hdb)
 refine PySem.W.callWith_K (h₀ := X.base) I.ok.mod.kin hk (thn (ha pos pins s σ H _ I h) fun us s1 ⟨vs, H1, I1, r, q⟩ => ⟨I1.kIn, ?_⟩) he hpl
 exact run_fn F hr hb hd hx I1 r q
end
structure Ga (N P : List Str) (sc : Scope) : Prop where
 kind : sc.kind = .function
 co : sc.isCoroutine = false
 gen : sc.isGenerator = false
 nd : N.Nodup
 pre : N.take P.length = P
 par : ∀ x ∈ P, sc.names.lookup x = some .local \/ sc.names.lookup x = some .cell
 nofree : ∀ y ∈ sc.names, y.2 ≠ .free
theorem xj {kindOf : Str -> Option NameKind} {x : Str} : ∀ {binds : List (Str × Value)} {m : Str -> Option Value}, (∀ v, (x, v) ∉ binds) -> bindL kindOf binds m x = m x
 | [], _, _ => rfl
 | (n, v) :: r, m, h => by
  unfold bindL
  rw [xj fun w hw => h w (List.mem_cons_of_mem _ hw)]
  split
  . have : x ≠ n := by rintro rfl; exact h v List.mem_cons_self
    simp [this]
  . rfl
theorem zj {kindOf : Str -> Option NameKind} {x : Str} : ∀ {binds : List (Str × Value)} {m : Str -> Option Value}, (∀ v, (x, v) ∉ binds) -> bindC kindOf binds m x = m x
 | [], _, _ => rfl
 | (n, v) :: r, m, h => by
  unfold bindC
  rw [zj fun w hw => h w (List.mem_cons_of_mem _ hw)]
  split
  . rfl
  . have : x ≠ n := by rintro rfl; exact h v List.mem_cons_self
    simp [this]
theorem yj {kindOf : Str -> Option NameKind} {x : Str} {v : Value} : ∀ {P : List Str} {vs : List Value} {i : Nat} {m : Str -> Option Value}, P.Nodup -> P[i]? = some x -> vs[i]? = some v -> kindOf x = some .local ->
 bindL kindOf (P.zip vs) m x = some v
 | [], _, _, _, _, h, _, _ => by simp at h
 | _ :: _, [], _, _, _, _, h, _ => by simp at h
 | p :: P, w :: vs, 0, m, nd, h1, h2, hk => by
  simp at h1 h2; subst h1; subst h2
  show bindL kindOf ((p, w) :: P.zip vs) m p = _
  unfold bindL
  rw [xj fun v hv => (List.nodup_cons.mp nd).1 (List.of_mem_zip hv).1, if_pos hk]
  simp
 | p :: P, w :: vs, i + 1, m, nd, h1, h2, hk => by
  show bindL kindOf ((p, w) :: P.zip vs) m x = _
  unfold bindL
  exact yj (i := i) (List.nodup_cons.mp nd).2 (by simpa using h1) (by simpa using h2) hk
theorem Aj {kindOf : Str -> Option NameKind} {x : Str} {v : Value} : ∀ {P : List Str} {vs : List Value} {i : Nat} {m : Str -> Option Value}, P.Nodup -> P[i]? = some x -> vs[i]? = some v -> kindOf x ≠ some .local ->
 bindC kindOf (P.zip vs) m x = some v
 | [], _, _, _, _, h, _, _ => by simp at h
 | _ :: _, [], _, _, _, _, h, _ => by simp at h
 | p :: P, w :: vs, 0, m, nd, h1, h2, hk => by
  simp at h1 h2; subst h1; subst h2
  show bindC kindOf ((p, w) :: P.zip vs) m p = _
  unfold bindC
  rw [zj fun v hv => (List.nodup_cons.mp nd).1 (List.of_mem_zip hv).1, if_neg hk]
  simp
 | p :: P, w :: vs, i + 1, m, nd, h1, h2, hk => by
  show bindC kindOf ((p, w) :: P.zip vs) m x = _
  unfold bindC
  exact Aj (i := i) (List.nodup_cons.mp nd).2 (by simpa using h1) (by simpa using h2) hk
def start (N : List Str) (vs : List V) : St := vs.map some ++ List.replicate (N.length - vs.length) none
def cxOf (CX : CXT) (P : Program) (w : World) (K : PySem.W.Frag) (mg : Str -> Option Value) (base : Heap) (N : List Str) (qual : Str) (scope : Scope) (f : Addr) (cd : Value) (A : Around) (outer : List Env) (s : Shared) (H : Hp) (E : XK) : Cx where
 prog := P
 w := w
 K := K
 mg := mg
 base := base
 A := A.deeper (envOfC qual scope s.heap.objs.size f cd)
 N := N
 s₀ := s
 H₀ := H
 env := envOfC qual scope s.heap.objs.size f cd
 outer := outer
 stack := envOfC qual scope s.heap.objs.size f cd :: outer
 ex := []
 calm := true
 fn := fun _ => true
 pn := []
 xe := fun e s' => wpAny (model P w) (A.deeper (envOfC qual scope s.heap.objs.size f cd)) (leaving (envOfC qual scope s.heap.objs.size f cd) e) (fun _ s'' => CX outer H s E e s'') (fun e' s'' => CX outer H s E e' s'') s'
theorem Vl {sc : Scope} {n : Nat} {x : Str} (h : sc.names.lookup x = some .cell) : ∃ c, (cellsFrom n sc.names []).lookup x = some c := by
 have q := PySem.W.cellsFrom_some sc.names n [] (.inl h)
 exact Option.isSome_iff_exists.mp q
theorem Ep {CX : CXT} {P : Program} {w : World} {K : PySem.W.Frag} {mg : Str -> Option Value} {base : Heap} {N ps : List Str} {qual : Str} {scope : Scope} {f : Addr} {cd : Value} {A : Around} {outer : List Env} {s s1 : Shared} {H : Hp} {E : XK} {us : List Value} {vs : List V}
 (S : Ga N ps scope) (hd : A.handled = none) (e0 : Env0 P w K mg base A outer s H) (hl : vs.length = ps.length) (r : Vals vs us)
 (x : InCallC s s.heap.objs.size (bindL (envOfC qual scope s.heap.objs.size f cd).kindOf (ps.zip us) fun _ => none) (cellsFrom (s.heap.objs.size + 1) scope.names []) (bindC (envOfC qual scope s.heap.objs.size f cd).kindOf (ps.zip us) fun _ => none) s1) :
 Inv (cxOf CX P w K mg base N qual scope f cd A outer s H E) [] (start N vs) H s1 := by
 have hpl : ps.length <= N.length := by have := congrArg List.length S.pre; rw [List.length_take] at this; omega
 obtain ⟨h1, tk, rfl, hk⟩ := x.done
 have noA : ∀ b : Addr, b ∉ (cxOf CX P w K mg base N qual scope f cd A outer s H E).ex := fun b z => absurd (show b ∈ ([] : List Addr) from z) (by simp)
 refine ⟨⟨e0.mod, S.kind, rfl, rfl, Nat.le_refl _, fun y z c h1 h2 => ?_, fun y hy => ?_, fun y c _ h => ?_, fun _ => hd, Around.frames_deeper e0.frames, .inr ⟨rfl, rfl⟩, fun b z => absurd z (noA b), e0.bs, e0.bsz, fun b _ _ => noA b, fun b z => absurd z (noA b), e0.funs, e0.frf⟩,
  rfl, e0.bare, Un.kept hk, ⟨_, x.toInCall.ns, fun i y v h1 h2 h3 => ?_⟩, fun y c h => ⟨_, x.cell y c h⟩, e0.hok.fresh (Nat.le_refl _), fun y c h => ?_, fun p hp => absurd (show p ∈ ([] : List (Addr × Obj)) from hp) (by simp), e0.hok.kept hk, ?_⟩
 . exact name_of_addr x.apart (PySem.mem_of_lookup h1) (PySem.mem_of_lookup h2)
 . have hy : scope.names.lookup y = some .cell \/ scope.names.lookup y = some .free := hy
   rcases hy with hy | hy
   . exact Vl hy
   . exact absurd rfl (S.nofree _ (PySem.mem_of_lookup hy))
 . exact Nat.le_of_lt (x.above y c (PySem.mem_of_lookup h))
 . have hi : i < vs.length := by
    unfold start at h2
    by_cases hi : i < vs.length
    . exact hi
    . rw [List.getElem?_append_right (by simpa using hi)] at h2
      rw [List.getElem?_replicate] at h2
      split at h2 <;> cases h2
   have ha : vs[i]? = some v := by
    unfold start at h2
    rw [List.getElem?_append_left (by simpa using hi), List.getElem?_map] at h2
    cases e : vs[i]? with
    | none => rw [e] at h2; cases h2
    | some a => rw [e] at h2; cases h2; rfl
   obtain ⟨u, hu, rv⟩ := r.get ha
   have hp : ps[i]? = some y := by
    rw [<- S.pre, List.getElem?_take_of_lt (by omega)]; exact h1
   have ndP : ps.Nodup := by rw [<- S.pre]; exact S.nd.sublist (List.take_sublist _ _)
   refine ⟨u, rv, ?_⟩
   rcases S.par y (List.mem_of_getElem? hp) with k | k
   . exact .inl ⟨k, yj ndP hp hu k⟩
   . obtain ⟨c, e⟩ := Vl (n := s.heap.objs.size + 1) k
     refine .inr ⟨.inl k, c, e, ?_⟩
     have q := x.cell y c e
     rw [Aj ndP hp hu (by show scope.names.lookup y ≠ _; rw [k]; decide)] at q
     exact q
 . exact e0.hok.fresh (Nat.le_of_lt (x.above y c (PySem.mem_of_lookup h)))
 . unfold start
   show _ = N.length
   rw [List.length_append, List.length_map, List.length_replicate]
   omega
theorem fn_of {CX : CXT} {P : Program} {w : World} {K : PySem.W.Frag} {mg : Str -> Option Value} {base : Heap} {k : Nat} {f : Addr} {name qual : Str} {params : Arguments} {body : List Stmt} {scope : Scope} {dV kV doc pm cdv ct oc : Value} {an od : Option Addr}
 {osl : Array (Option Value)} {N ps : List Str} {sp : Sp} (lk : K.lookup f = some ⟨oc, od, .func (PySem.W.fnOf name qual params body scope dV kV doc pm an cdv ct), osl⟩) (hcd : PySem.W.codeIn K cdv qual = true) (S : Ga N ps scope)
 (len : ∀ vs H Q E, sp vs H Q E -> vs.length = ps.length)
 (hbody : ∀ (A : Around) (outer : List Env) (s : Shared) (H : Hp) (vs : List V) (Q : VK) (E : XK), Room k (A.deeper (envOfC qual scope s.heap.objs.size f cdv)) -> sp vs H Q E ->
   ∃ t, PSs (cxOf CX P w K mg base N qual scope f cdv A outer s H E) body t /\ t { nx := fun _ H' => Q .non H', rt := Q } (start N vs) H) :
 FnOk P w K mg base CX (k + 1) f (PySem.W.fnOf name qual params body scope dV kV doc pm an cdv ct) ps sp := by
 refine ⟨len, fun A outer s H args us vs Q E hr e0 hb r hsp => ?_⟩
 have hl := len _ _ _ _ hsp
 have KX : K.In s.heap := e0.mod.kin.keeps fun b o e => (e0.bs b o e).1
 have lim : s.heap.NoLimit := e0.mod.nolimit.keeps fun b o e => (e0.bs b o e).1
 have hkind : ∀ y ∈ ps.zip us, scope.names.lookup y.1 = some .local \/ (scope.names.lookup y.1 = some .cell /\ ((cellsFrom (s.heap.objs.size + 1) scope.names []).lookup y.1).isSome = true) := fun ⟨n, v⟩ hy => by
  rcases S.par n (List.of_mem_zip hy).1 with q | q
  . exact .inl q
  . exact .inr ⟨q, PySem.W.cellsFrom_some _ _ _ (.inl q)⟩
 refine codeAny_call_function hr.depth (KX _ _ lk) rfl S.co S.gen rfl (PySem.W.codeRec_of KX hcd) (hb _ _ _ _ ?_)
 refine wpAny_newFunctionEnv_cells S.kind hkind fun env he s1 x => ?_
 subst he
 refine ⟨lim.keeps x.toInCall.keep, codeAny_func ?_⟩
 obtain ⟨t, ht, hq⟩ := hbody A outer s H vs Q E (hr.deeper _) hsp
 have I : Inv (cxOf CX P w K mg base N qual scope f cdv A outer s H E) [] (start N vs) H s1 := Ep S hr.hd e0 hl r x
 refine wpAny_mono (ht [] s1 (start N vs) H _ I hq) (fun fl s' hs => ?_) fun e s' hs => hs
 have fin : ∀ {σ' : St} {H' : Hp} {v : V} {u : Value}, Inv (cxOf CX P w K mg base N qual scope f cdv A outer s H E) [] σ' H' s' -> RelV v u -> Q v H' -> CE outer P w H s Q u s' :=
  fun {σ' H' v u} J rv q => ⟨v, H', J.os, J.bare, J.base, J.hok, rv, q⟩
 cases fl with
 | ret u =>
  obtain ⟨v, σ', H', J, rv, q⟩ := hs
  exact fin J rv q
 | next =>
  obtain ⟨σ', H', J, q⟩ := hs
  exact fin (v := V.non) (u := Value.none) J rfl q
 | brk =>
  obtain ⟨_, _, _, q⟩ := hs
  exact False.elim q
 | cont =>
  obtain ⟨_, _, _, q⟩ := hs
  exact False.elim q
end L2
namespace L2
open PySem PySem.Spec PyProof.Rows
section
variable {X : Cx} {x : Str} {p pos : Pos} {e : Expr} {es : List Expr} {t : TA} {id T : String} {r : List V -> Hp -> VK -> Prop}
def tCB (r : List V -> Hp -> VK -> Prop) (t : TA) : TE := fun σ H Q => t σ H fun vs H1 => r vs H1 Q
theorem Ma (hc : Xb X (.builtin id) r) (hg : Gl X x) (hm : X.mg x = none) (hv : bootBuiltins x = some (.builtin id)) (ha : PA X (e :: es) t) (hn : x ≠ "__name__" := by decide) (hdb : (x == ("__debug__" : Str)) = false := by decide)
 (he : starEach (e :: es) X.env = (false, eval e X.env) :: starEach es X.env := by first | rfl | with_unfolding_all rfl) (hpl : (backTo pos (starEach es X.env)).any (·.1) = false := by first | rfl | with_unfolding_all rfl) : PE X (.Call (.Name x p) (e :: es) [] pos) (tCB r t) := by
 intro pins s σ H Q I h
 refine wpAny_Call_Name_kw (dg I hg hm hv ?_ hn hdb)
 exact PyProof.Rows.callWith_builtin1 (thn (ha pos pins s σ H _ I h) fun us s1 ⟨vs, H1, I1, r1, q1⟩ => hc pins s1 σ H1 vs us Q I1 r1 q1) he hpl
theorem Cc (hc : Xb X (.type T) r) (hg : Gl X x) (hm : X.mg x = none) (hv : bootBuiltins x = some (.type T)) (ha : PA X (e :: es) t) (hn : x ≠ "__name__" := by decide) (hdb : (x == ("__debug__" : Str)) = false := by decide)
 (he : starEach (e :: es) X.env = (false, eval e X.env) :: starEach es X.env := by first | rfl | with_unfolding_all rfl) (hpl : (backTo pos (starEach es X.env)).any (·.1) = false := by first | rfl | with_unfolding_all rfl) : PE X (.Call (.Name x p) (e :: es) [] pos) (tCB r t) := by
 intro pins s σ H Q I h
 refine wpAny_Call_Name_kw (dg I hg hm hv ?_ hn hdb)
 exact PyProof.Rows.callWith_type1 (thn (ha pos pins s σ H _ I h) fun us s1 ⟨vs, H1, I1, r1, q1⟩ => hc pins s1 σ H1 vs us Q I1 r1 q1) he hpl
end
end L2
namespace HT
open PySem PyProof.Rows
def lexLt : List Int -> List Int -> Bool
 | [], [] => false
 | [], _ :: _ => true
 | _ :: _, [] => false
 | x :: xs, y :: ys => if x = y then lexLt xs ys else decide (x < y)
theorem Fm (x y : Int) (xs ys : List Int) : lexLt (x :: xs) (y :: ys) = if x = y then lexLt xs ys else decide (x < y) := rfl
theorem ui : lexLt [] [] = false := rfl
theorem Lg (y : Int) (ys : List Int) : lexLt [] (y :: ys) = true := rfl
theorem Mg (x : Int) (xs : List Int) : lexLt (x :: xs) [] = false := rfl
theorem Ql (A : Around) (s : Shared) (a : Int) (t : Tok) (c : Int) (u : Tok) : ∃ e, SeqAt.EqAt A s (.int a t) (.int c u) e /\ (e = true ↔ a = c) :=
 ⟨(a == c), SeqAt.EqAt.int_int a t c u, by simp⟩
theorem Xq (A : Around) (s : Shared) (a : Int) (t : Tok) (c : Int) (u : Tok) (prog : Program) (w : World) (E : Value -> Shared -> Prop) (Q : Value -> Shared -> Prop) (h : Q (.bool (decide (a < c))) s) :
 wpAny (model prog w) A (richCompare .Lt (.int a t) (.int c u)) Q E s :=
 (PyProof.Rows.lt_int h : wpAny (model prog w) A (compareOp .Lt (.int a t) (.int c u)) Q E s)
section
open PySem.SeqAt
open PySem.AutoSeq1 (wpAny_loadPart')
open PySem.MeetsSeq PySem.MeetsSeq2 PySem.MeetsSeq3
theorem uh (l b : Addr) (items items2 : Array Value) (n n2 : Nat) (dd dd2 : Option Addr) (sl sl2 : Array (Option Value)) (ns ms : List Int) (hi : IntsAre items.toList ns) (hj : IntsAre items2.toList ms) :
 Meets (Builtin.«tuple.__lt__» ⟨[.ref l, .ref b], []⟩)
  (fun _ R s => s.heap.get? l = some { cls := .type "tuple", dict := dd, data := .seq items n, slots := sl } /\ s.heap.get? b = some { cls := .type "tuple", dict := dd2, data := .seq items2 n2, slots := sl2 } /\
    R (.ok (.ret (.bool (lexLt ns ms)))) s) :=
 .of_wp fun prog w A R s h => by
  obtain ⟨hp, g, d, tk, os⟩ := s; obtain ⟨hl, hb, h⟩ := h
  have f2 := AutoSeq1.sub_tuple_tuple
  have z1 : items.size = ns.length := by rw [<- hi.length]; simp
  have z2 : items2.size = ms.length := by rw [<- hj.length]; simp
  wp_walk using wpAny_loadPart' hl, wpAny_loadPart' hb, wpAny_forIn_list _ (fun rest b s' => b.1 = none /\ s' = ⟨hp, g, d, tk, os⟩ /\ ∃ (vs ws : List Value) (ns' ms' : List Int), rest = vs.zip ws /\
   IntsAre vs ns' /\ IntsAre ws ms' /\ ns'.length + items2.size = ms'.length + items.size /\ R (.ok (.ret (.bool (lexLt ns' ms')))) ⟨hp, g, d, tk, os⟩) _
  case turn =>
   rintro ⟨y, x⟩ rest b s' ⟨hb', rfl, vs, ws, ns', ms', hz, hvi, hwi, hlen, hR⟩
   cases hvi with
   | nil => rw [List.zip_nil_left] at hz; cases hz
   | cons a t hvi' =>
    cases hwi with
    | nil => rw [List.zip_nil_right] at hz; cases hz
    | cons c u hwi' =>
     rw [List.zip_cons_cons] at hz
     injection hz with hyx hrest
     injection hyx with hy hx
     subst hy hx
     rw [Fm] at hR
     simp only [List.length_cons] at hlen
     obtain ⟨e, he, hiff⟩ := Ql A.in1 ⟨hp, g, d, tk, os⟩ a t c u
     refine wpAny_bind (he prog w _ _ ?_)
     cases e with
     | true =>
      rw [if_pos (hiff.mp rfl)] at hR
      wp_walk
      exact ⟨rfl, rfl, _, _, _, _, hrest, hvi', hwi', by omega, hR⟩
     | false =>
      rw [if_neg (fun q => absurd (hiff.mpr q) Bool.false_ne_true)] at hR
      have hri := Xq A.in1 ⟨hp, g, d, tk, os⟩ a t c u prog w
      wp_walk using hri
      exact ⟨_, rfl, by simpa using hR⟩
  case fin =>
   rintro ⟨b1, b2⟩ s' ⟨hb', rfl, vs, ws, ns', ms', hz, hvi, hwi, hlen, hR⟩
   simp only at hb'
   subst hb'
   have hv : lexLt ns' ms' = decide (items.size < items2.size) := by
    cases hvi with
    | nil =>
     cases hwi with
     | nil =>
      simp only [List.length_nil] at hlen
      rw [ui]
      exact (decide_eq_false (by omega)).symm
     | cons c u hw =>
      simp only [List.length_nil, List.length_cons] at hlen
      rw [Lg]
      exact (decide_eq_true (by omega)).symm
    | cons a t hv =>
     cases hwi with
     | nil =>
      simp only [List.length_nil, List.length_cons] at hlen
      rw [Mg]
      exact (decide_eq_false (by omega)).symm
     | cons c u hw =>
      rw [List.zip_cons_cons] at hz
      cases hz
   rw [hv] at hR
   wp_walk
   exact ⟨_, rfl, by simpa [Builtin.Tuple.tupleCompareSizes] using hR⟩
  case h =>
   exact ⟨rfl, rfl, items.toList, items2.toList, ns, ms, rfl, hi, hj, by omega, h⟩
end
section
variable {prog : Program} {w : World} {A : Around} {E : Value -> Shared -> Prop} {s : Shared}
theorem Em {l b : Addr} {items items2 : Array Value} {ns ms : List Int} {Q : Value -> Shared -> Prop} (hl : IsTup s.heap l items) (hb : IsTup s.heap b items2) (hi : IntsAre items.toList ns) (hj : IntsAre items2.toList ms)
 (hu : A.units < cLine) (h : Q (.bool (lexLt ns ms)) s) : wpAny (model prog w) A (compareOp .Lt (.ref l) (.ref b)) Q E s := by
 obtain ⟨⟨cls, dd, data, sl⟩, ho, hc, n, hd⟩ := id hl
 obtain ⟨⟨cls2, dd2, data2, sl2⟩, ho2, hc2, n2, hd2⟩ := id hb
 simp only at hc hd hc2 hd2
 subst hc hd hc2 hd2
 exact richCompare_meets_room (op := .Lt) ⟨_, ho, rfl⟩ ⟨_, ho2, rfl⟩ PySem.F.slot_tuple_lt PySem.F.entry_tuple_lt (PySem.F.args_tuple_lt_2 _ _) (uh l b items items2 n n2 dd dd2 sl sl2 ns ms hi hj)
  ⟨ho, ho2, show Value.bool (lexLt ns ms) ≠ Value.notImplemented /\ Q (.bool (lexLt ns ms)) s from ⟨(fun x => nomatch x), h⟩⟩ hu
theorem Lv {t b : Addr} {vs ws : List Value} {Q : Value -> Shared -> Prop} (ht : IsTup s.heap t vs.toArray) (hb : IsTup s.heap b ws.toArray) (hv : vs ≠ [])
 (h1 : ws = [] -> Q (.ref t) s) (h2 : ws ≠ [] -> Q (.ref s.heap.objs.size) { s with heap := s.heap.push { cls := .type "tuple", data := .seq (vs ++ ws).toArray } })
 (hsz : vs.length + ws.length <= sizeLine) : wpAny (model prog w) A (binaryOp .Add (.ref t) (.ref b)) Q E s := by
 obtain ⟨⟨cls, dd, data, sl⟩, ho, hc, n, hd⟩ := id ht
 obtain ⟨⟨cls2, dd2, data2, sl2⟩, ho2, hc2, n2, hd2⟩ := id hb
 simp only at hc hd hc2 hd2
 subst hc hd hc2 hd2
 have e : vs.toArray ++ ws.toArray = (vs ++ ws).toArray := by simp
 by_cases hw : ws = []
 . exact concat_meets ⟨_, ho, rfl⟩ ⟨_, ho2, rfl⟩ noFill_tuple_add seq_tuple_add PySem.F.slot_tuple_add PySem.F.entry_tuple_add (PySem.F.args_tuple_add_2 _ _)
    (tuple_addW1 t b vs.toArray ws.toArray n n2 dd dd2 sl sl2 (by simpa using hv) (by simp [hw])) ⟨ho, ho2, h1 hw⟩
 . refine concat_meets ⟨_, ho, rfl⟩ ⟨_, ho2, rfl⟩ noFill_tuple_add seq_tuple_add PySem.F.slot_tuple_add PySem.F.entry_tuple_add (PySem.F.args_tuple_add_2 _ _)
    (tuple_addW2 t b vs.toArray ws.toArray n n2 dd dd2 sl sl2 (by simpa using hv) (by simpa using hw) (by rw [List.size_toArray, List.size_toArray]; exact hsz)) ⟨ho, ho2, ?_⟩
   rw [e]
   exact h2 hw
end
end HT
namespace L2
open PySem PySem.Spec PyProof.Rows
abbrev TO := St -> Hp -> (Option Int -> Hp -> Prop) -> Prop
theorem intsAre_of {ns : List Int} : ∀ {us : List Value}, Vals (ns.map V.int) us -> IntsAre us ns := by
 induction ns with
 | nil => intro us r; rw [List.map_nil] at r; cases r; exact .nil
 | cons n ns ih =>
  intro us r
  rw [List.map_cons] at r
  cases r with
  | cons r1 r2 =>
   obtain ⟨t, e⟩ := r1
   subst e
   exact .cons n t (ih r2)
section
variable {X : Cx} {e : Expr} {te : TE} {lo hi : Option Expr} {tl th : TO} {pos p2 : Pos}
def rLtT (K : PySem.W.Frag) : R2 := fun x y H Q => ∃ a b ns ms, x = .ref a /\ y = .ref b /\ SqT K H a (ns.map V.int) /\ SqT K H b (ms.map V.int) /\ Q (.bl (HT.lexLt ns ms)) H
theorem op_ltT (hu : X.A.units < cLine) : OpR X (compareOp .Lt) (rLtT X.K) := by
 intro pins s σ H x y v u Q I rx ry h
 obtain ⟨a, b, ns, ms, rfl, rfl, ha, hb, q⟩ := h
 cases rx
 cases ry
 obtain ⟨its, r1, p1, _⟩ := I.tuple ha
 obtain ⟨its2, r2, p2, _⟩ := I.tuple hb
 have i1 : IntsAre its.toArray.toList ns := intsAre_of r1
 have i2 : IntsAre its2.toArray.toList ms := intsAre_of r2
 exact HT.Em p1 p2 i1 i2 hu ⟨.bl (HT.lexLt ns ms), H, I, rfl, q⟩
def rCatT (K : PySem.W.Frag) : R2 := fun x y H Q => ∃ a b xs ys, x = .ref a /\ y = .ref b /\ SqT K H a xs /\ SqT K H b ys /\ xs ≠ [] /\ xs.length + ys.length <= sizeLine /\
 (ys = [] -> Q (.ref a) H) /\ (ys ≠ [] -> ∀ p, H p = none -> Q (.ref p) (upd H p (.tup (xs ++ ys))))
theorem Vals.ik {xs : List V} {us : List Value} (r : Vals xs us) : us = [] ↔ xs = [] := by
 cases r with
 | nil => simp
 | cons _ _ => simp
theorem So : OpR X (binaryOp .Add) (rCatT X.K) := by
 intro pins s σ H x y v u Q I rx ry h
 obtain ⟨a, b, xs, ys, rfl, rfl, ha, hb, hx, hz, q1, q2⟩ := h
 cases rx
 cases ry
 obtain ⟨its, r1, p1, _⟩ := I.tuple ha
 obtain ⟨its2, r2, p2, _⟩ := I.tuple hb
 refine HT.Lv p1 p2 (fun z => hx (r1.ik.mp z)) (fun z => ⟨.ref a, H, I, rfl, q1 (r2.ik.mp z)⟩) (fun z => ?_) (by rw [<- r1.length, <- r2.length]; exact hz)
 refine ⟨.ref s.heap.objs.size, _, I.laid (t' := s.toks) (o := .tup (xs ++ ys)) (fun b ob q => Heap.get?_push_of_some _ q) (Nat.le_refl _) ?_, rfl, q2 (fun w => z (r2.ik.mpr w)) _ (I.hok.fresh (Nat.le_refl _))⟩
 exact ⟨by rw [List.length_append]; exact hz, _, r1.append r2, IsTup.new _ _⟩
end
end L2
namespace L2
open PySem PySem.Spec PyProof.Rows
def ixN (n : Nat) (i : Int) : Option Nat := if 0 <= i then (if i < n then some i.toNat else none) else if -(n : Int) <= i then some (i + n).toNat else none
def atI {α : Type} (xs : List α) (i : Int) : Option α := (ixN xs.length i).bind fun j => xs[j]?
theorem Cp {n : Nat} {i : Int} {j : Nat} (h : ixN n i = some j) : seqIndex? i n = some j /\ j < n /\ -(n : Int) <= i /\ i < n := by
 unfold ixN at h
 by_cases h0 : 0 <= i
 . rw [if_pos h0] at h
   by_cases h1 : i < n
   . rw [if_pos h1] at h
     have e : i.toNat = j := Option.some.inj h
     exact ⟨by rw [seqIndex_of h0 h1, e], by omega, by omega, h1⟩
   . rw [if_neg h1] at h; cases h
 . rw [if_neg h0] at h
   by_cases h1 : -(n : Int) <= i
   . rw [if_pos h1] at h
     have e : (i + n).toNat = j := Option.some.inj h
     exact ⟨by rw [seqIndex_neg (by omega) h1, e], by omega, h1, by omega⟩
   . rw [if_neg h1] at h; cases h
theorem Hk {α : Type} {xs : List α} {i : Int} {v : α} (h : atI xs i = some v) : ∃ j, seqIndex? i xs.length = some j /\ xs[j]? = some v /\ j < xs.length /\ -(xs.length : Int) <= i /\ i < xs.length := by
 unfold atI at h
 cases e : ixN xs.length i with
 | none => rw [e] at h; cases h
 | some j =>
  rw [e] at h
  obtain ⟨h1, h2, h3, h4⟩ := Cp e
  exact ⟨j, h1, h, h2, h3, h4⟩
theorem Oc {α : Type} {xs : List α} {j : Nat} {v : α} (h : xs[j]? = some v) : atI xs (j : Int) = some v := by
 have hj : j < xs.length := (List.getElem?_eq_some_iff.mp h).1
 have e : ixN xs.length (j : Int) = some j := by
  unfold ixN
  rw [if_pos (by omega), if_pos (by omega)]; simp
 unfold atI; rw [e]; exact h
theorem Ce {α : Type} (xs : List α) (v : α) : atI (xs ++ [v]) (-1) = some v := by
 have hl : (xs ++ [v]).length = xs.length + 1 := by simp
 have e : ixN (xs ++ [v]).length (-1) = some xs.length := by
  unfold ixN
  rw [hl, if_neg (by decide), if_pos (by omega)]
  congr 1
  omega
 unfold atI
 rw [e]
 show (xs ++ [v])[xs.length]? = some v
 simp
def Vv (b : Expr) : Prop := ∀ o i, subscripted b false o i = operate [o, i] (getItem o i)
def IxR (X : Cx) (r : R2) : Prop :=
 ∀ (value slice : Expr) (pins : List (Addr × Obj)) (s : Shared) (σ : St) (H : Hp) (x y : V) (v u : Value) (Q : VK), Inv X pins σ H s -> RelV x v -> RelV y u -> r x y H Q ->
  subscripted slice false v u = operate [v, u] (getItem v u) -> wpAny (model X.prog X.w) X.A (subscriptTail value slice v u) (EP X pins σ Q) X.xe s
def MtR (X : Cx) (id : String) (r : V -> List V -> Hp -> VK -> Prop) : Prop :=
 ∀ (pins : List (Addr × Obj)) (s : Shared) (σ : St) (H : Hp) (x : V) (xs : List V) (v : Value) (us : List Value) (Q : VK), Inv X pins σ H s -> RelV x v -> Vals xs us -> r x xs H Q ->
  wpAny (model X.prog X.w) X.A (call (.builtin id) (v :: us)) (EP X pins σ Q) X.xe s
section
variable {X : Cx} {a b : Expr} {ta tb : TE} {pos : Pos}
theorem IxR.or {r r' : R2} (h : IxR X r) (h' : IxR X r') : IxR X (fun x y H Q => r x y H Q \/ r' x y H Q) := by
 intro value slice pins s σ H x y v u Q I rx ry q hs
 rcases q with q | q
 . exact h value slice pins s σ H x y v u Q I rx ry q hs
 . exact h' value slice pins s σ H x y v u Q I rx ry q hs
theorem Ia {r : R2} (hr : IxR X r) (ha : PE X a ta) (hb : PE X b tb) (hs : Vv b) : PE X (.Subscript a b pos) (tOp r ta tb) := by
 intro pins s σ H Q I h
 exact Subscript_ (binT ha hb I h fun v u s2 x y H2 I2 rx ry q => hr a b pins s2 σ H2 x y v u Q I2 rx ry q (hs _ _))
def rIxL (K : PySem.W.Frag) : R2 := fun x y H Q => ∃ p xs i v, x = .ref p /\ y = .int i /\ SqL K H p xs /\ atI xs i = some v /\ Q v H
def rIxT (K : PySem.W.Frag) : R2 := fun x y H Q => ∃ p xs i v, x = .ref p /\ y = .int i /\ SqT K H p xs /\ atI xs i = some v /\ Q v H
theorem sv : IxR X (rIxL X.K) := by
 intro value slice pins s σ H x y v u Q I rx ry h hs
 obtain ⟨p, xs, i, z, rfl, rfl, hq, he, q⟩ := h
 cases rx
 obtain ⟨t, rfl⟩ := ry
 obtain ⟨its, r, pl, hz⟩ := I.list hq
 obtain ⟨j, h1, h2, h3, h4, h5⟩ := Hk he
 obtain ⟨w, ew, rw'⟩ := r.get h2
 have hl := r.length
 have hn := lh
 have fin : EP X pins σ Q w s := ⟨z, H, I, rw', q⟩
 by_cases h0 : 0 <= i
 . have hj : i.toNat = j := by
    rw [seqIndex_of h0 h5] at h1
    exact Option.some.inj h1
   exact item_listR pl.isList h0 (by omega) (by rw [hj]; simpa using ew) fin hs
 . have hj : (i + (its.toArray.size : Int)).toNat = j := by
    rw [seqIndex_neg (by omega) h4] at h1
    rw [List.size_toArray, <- hl]
    exact Option.some.inj h1
   exact subscriptTail_builtinR (x := w) pl.isList.typeIs slot_list_getitem.lookup
    (wpAny_getItem_list_neg (Q := fun r s' => r = w /\ EP X pins σ Q r s') pl.isList (by omega) (by rw [List.size_toArray] <;> omega) (by omega) (by rw [hj]; simpa using ew) ⟨rfl, fin⟩) hs
theorem ix_tup : IxR X (rIxT X.K) := by
 intro value slice pins s σ H x y v u Q I rx ry h hs
 obtain ⟨p, xs, i, z, rfl, rfl, hq, he, q⟩ := h
 cases rx
 obtain ⟨t, rfl⟩ := ry
 obtain ⟨its, r, pl, hz⟩ := I.tuple hq
 obtain ⟨j, h1, h2, h3, h4, h5⟩ := Hk he
 obtain ⟨w, ew, rw'⟩ := r.get h2
 have hl := r.length
 have hn := lh
 have fin : EP X pins σ Q w s := ⟨z, H, I, rw', q⟩
 exact subscriptTail_builtinR (x := w) pl.typeIs slot_tuple_getitem.lookup
  (getItem_tuple (j := j) (Q := fun r s' => r = w /\ EP X pins σ Q r s') pl (by omega) (by omega) (by rw [List.size_toArray, <- hl]; exact h1) (by simpa using ew) ⟨rfl, fin⟩) hs
theorem Cm (its : List Value) (n j : Nat) (u : Value) : Obj.mapSeq (·.setIfInBounds j u) { cls := .type "list", data := .seq its.toArray n } = { cls := .type "list", data := .seq (its.set j u).toArray n } := by
 simp [Obj.mapSeq]
theorem Inv.lst {pins : List (Addr × Obj)} {σ : St} {H : Hp} {s : Shared} {p : Addr} {xs : List V} (I : Inv X pins σ H s) (h : H p = some (.lst xs)) :
 ∃ (its : List Value) (n : Nat), Vals xs its /\ s.heap.get? p = some { cls := .type "list", data := .seq its.toArray n } /\ xs.length <= sizeLine := by
 obtain ⟨z, its, n, r, e⟩ := I.hok p _ h
 exact ⟨its, n, r, e, z⟩
theorem Inv.lstUpd {pins : List (Addr × Obj)} {σ : St} {H : Hp} {s : Shared} {p : Addr} {xs ys : List V} {its its' : List Value} {n n' : Nat} {f : Obj -> Obj} (I : Inv X pins σ H s) (h : H p = some (.lst xs))
 (ho : s.heap.get? p = some { cls := .type "list", data := .seq its.toArray n }) (hf : f { cls := .type "list", data := .seq its.toArray n } = { cls := .type "list", data := .seq its'.toArray n' }) (r : Vals ys its') (hz : ys.length <= sizeLine) (t : Nat) :
 Inv X pins σ (upd H p (.lst ys)) { s with heap := s.heap.update p f, toks := t } := by
 have e : (s.heap.update p f).get? p = some { cls := .type "list", data := .seq its'.toArray n' } := by
  rw [Heap.get?_update_self f ho (by rw [hf] <;> rfl), hf]
 refine I.write (x := p) (e := p) (by rw [h]; trivial) (.inl rfl) (fun b u hb q => (Heap.get?_update_other _ _ (Ne.symm hb)).trans q) ⟨_, e⟩ ?_
 exact ⟨hz, its', n', r, e⟩
def rSetL : V -> V -> V -> Hp -> (Hp -> Prop) -> Prop := fun o i v H Q => ∃ p xs k j, o = .ref p /\ i = .int k /\ H p = some (.lst xs) /\ ixN xs.length k = some j /\ Q (upd H p (.lst (xs.set j v)))
theorem set_list : PSet X rSetL := by
 intro pins s σ H o i v ov iv u Q I ro ri rv h
 obtain ⟨p, xs, k, j, rfl, rfl, hp, hj, q⟩ := h
 cases ro
 obtain ⟨t, rfl⟩ := ri
 obtain ⟨its, n, r, ho, hz⟩ := I.lst hp
 obtain ⟨h1, h2, h3, h4⟩ := Cp hj
 have hl := r.length
 have hn := lh
 have I' : Inv X pins σ (upd H p (.lst (xs.set j v))) { s with heap := s.heap.update p (Obj.mapSeq (·.setIfInBounds j u)) } :=
  I.lstUpd hp ho (Cm its n j u) (r.set rv j) (by rw [List.length_set]; exact hz) s.toks
 by_cases h0 : 0 <= k
 . have hk : k.toNat = j := by
    rw [seqIndex_of h0 h4] at h1
    exact Option.some.inj h1
   exact PySem.W.ki_setAt ho h0 (by omega) (by rw [List.size_toArray, <- hl]; exact h4) (by rw [hk]; exact ⟨_, I', q⟩)
 . have hk : (k + (its.toArray.size : Int)).toNat = j := by
    rw [seqIndex_neg (by omega) h3] at h1
    rw [List.size_toArray, <- hl]
    exact Option.some.inj h1
   exact PySem.W.ki_setBack ho (by omega) (by rw [List.size_toArray, <- hl]; exact h3) (by omega) (by rw [hk]; exact ⟨_, I', q⟩)
def ve : V -> Bool
 | .non => true
 | .bl _ => true
 | .int _ => true
 | .str _ => true
 | _ => false
def eqV : V -> V -> Bool
 | .non, .non => true
 | .bl a, .bl b => a == b
 | .bl a, .int b => (if a then 1 else 0) == b
 | .int a, .bl b => a == (if b then 1 else 0)
 | .int a, .int b => a == b
 | .str a, .str b => a == b
 | _, _ => false
theorem Lp {A : Around} {s : Shared} {y x : V} {u v : Value} (ry : RelV y u) (rx : RelV x v) (fy : ve y = true) (fx : ve x = true) : SeqAt.EqAt A s u v (eqV y x) := by
 cases y with
 | non =>
  cases ry
  cases x with
  | non => cases rx; exact SeqAt.EqAt.same _
  | bl b => cases rx; exact SeqAt.EqAt.none_bool b
  | int b => obtain ⟨t, rfl⟩ := rx; exact SeqAt.EqAt.none_int b t
  | str b => obtain ⟨t, rfl⟩ := rx; exact SeqAt.EqAt.none_str b t
  | _ => exact absurd (show false = true from fx) Bool.false_ne_true
 | bl a =>
  cases ry
  cases x with
  | non => cases rx; exact SeqAt.EqAt.bool_none a
  | bl b => cases rx; exact SeqAt.EqAt.bool_bool a b
  | int b => obtain ⟨t, rfl⟩ := rx; exact SeqAt.EqAt.bool_int a b t
  | str b => obtain ⟨t, rfl⟩ := rx; exact SeqAt.EqAt.bool_str a b t
  | _ => exact absurd (show false = true from fx) Bool.false_ne_true
 | int a =>
  obtain ⟨t', rfl⟩ := ry
  cases x with
  | non => cases rx; exact SeqAt.EqAt.int_none a t'
  | bl b => cases rx; exact SeqAt.EqAt.int_bool a t' b
  | int b => obtain ⟨t, rfl⟩ := rx; exact SeqAt.EqAt.int_int a t' b t
  | str b => obtain ⟨t, rfl⟩ := rx; exact SeqAt.EqAt.int_str a t' b t
  | _ => exact absurd (show false = true from fx) Bool.false_ne_true
 | str a =>
  obtain ⟨t', rfl⟩ := ry
  cases x with
  | non => cases rx; exact SeqAt.EqAt.str_none a t'
  | bl b => cases rx; exact SeqAt.EqAt.str_bool a t' b
  | int b => obtain ⟨t, rfl⟩ := rx; exact SeqAt.EqAt.str_int a t' b t
  | str b => obtain ⟨t, rfl⟩ := rx; exact SeqAt.EqAt.str_str a t' b t
  | _ => exact absurd (show false = true from fx) Bool.false_ne_true
 | _ => exact absurd (show false = true from fy) Bool.false_ne_true
def eqU (x : V) (u : Value) : Bool := match u with
 | .none => eqV .non x
 | .bool b => eqV (.bl b) x
 | .int i _ => eqV (.int i) x
 | .str z _ => eqV (.str z) x
 | _ => false
theorem Mt {x y : V} {u : Value} (r : RelV y u) (f : ve y = true) : eqU x u = eqV y x := by
 cases y with
 | non => cases r; rfl
 | bl b => cases r; rfl
 | int i => obtain ⟨t, rfl⟩ := r; rfl
 | str z => obtain ⟨t, rfl⟩ := r; rfl
 | _ => exact absurd (show false = true from f) Bool.false_ne_true
theorem Ik {x : V} : ∀ {xs : List V} {us : List Value}, Vals xs us -> xs.all ve = true -> us.any (eqU x) = xs.any fun y => eqV y x
 | _, _, .nil, _ => rfl
 | y :: xs, u :: us, .cons r t, f => by
  rw [List.all_cons, Bool.and_eq_true] at f
  rw [List.any_cons, List.any_cons, Mt r f.1, Ik t f.2]
theorem oi {A : Around} {s : Shared} {x : V} {v : Value} (rx : RelV x v) (fx : ve x = true) : ∀ {xs : List V} {us : List Value}, Vals xs us -> xs.all ve = true -> ∀ u ∈ us, SeqAt.EqAt A s u v (eqU x u)
 | _, _, .nil, _ => fun u hu => by cases hu
 | y :: xs, u :: us, .cons r t, f => fun u' hu => by
  rw [List.all_cons, Bool.and_eq_true] at f
  rcases List.mem_cons.mp hu with rfl | hu
  . rw [Mt r f.1]; exact Lp r rx f.1 fx
  . exact oi rx fx t f.2 u' hu
def inV (x : V) (xs : List V) : Bool := xs.any fun y => eqV y x
def rIn (K : PySem.W.Frag) (neg : Bool) : R2 := fun x y H Q => ∃ p xs, y = .ref p /\ (SqL K H p xs \/ SqT K H p xs) /\ ve x = true /\ xs.all ve = true /\ Q (.bl (if neg then !inV x xs else inV x xs)) H
theorem Ro : OpR X (compareOp .In) (rIn X.K false) := by
 intro pins s σ H x y v u Q I rx ry h
 obtain ⟨p, xs, rfl, hq, fx, fs, q⟩ := h
 cases ry
 rcases hq with hq | hq
 . obtain ⟨its, r, pl, hz⟩ := I.list hq
   refine SeqAt.in_listAt (eqU x) pl.isList (fun w hw => oi rx fx r fs w (by simpa using hw)) ⟨.bl _, H, I, rfl, ?_⟩
   rw [show its.toArray.any (eqU x) = its.any (eqU x) by simp, Ik r fs]
   exact q
 . obtain ⟨its, r, pl, hz⟩ := I.tuple hq
   refine SeqAt.in_tupleAt (eqU x) pl (fun w hw => oi rx fx r fs w (by simpa using hw)) ⟨.bl _, H, I, rfl, ?_⟩
   rw [show its.toArray.any (eqU x) = its.any (eqU x) by simp, Ik r fs]
   exact q
theorem vj : Xb X (.builtin "len") (fun xs H Q => ∃ p ys, xs = [.ref p] /\ (SqL X.K H p ys \/ SqT X.K H p ys) /\ Q (.int ys.length) H) := by
 intro pins s σ H xs us Q I r h
 obtain ⟨p, ys, rfl, hq, q⟩ := h
 obtain ⟨u, rfl, rx⟩ := vals1 r
 cases rx
 have hn := lh
 rcases hq with hq | hq
 . obtain ⟨its, r', pl, hz⟩ := I.list hq
   have hlen := r'.length
   exact Calls.call_len_list pl.isList (by simp only [List.size_toArray] <;> omega) ⟨.int ys.length, H, I.tok _, ⟨s.toks + 1, by rw [List.size_toArray, hlen]⟩, q⟩
 . obtain ⟨its, r', pl, hz⟩ := I.tuple hq
   have hlen := r'.length
   exact len_tuple pl (by simp only [List.size_toArray] <;> omega) ⟨.int ys.length, H, I.tok _, ⟨s.toks + 1, by rw [List.size_toArray, hlen]⟩, q⟩
theorem uj : Xb X (.type "list") (fun xs H Q => ∃ p ys, xs = [.ref p] /\ (SqL X.K H p ys \/ SqT X.K H p ys) /\ ∀ l, H l = none -> Q (.ref l) (upd H l (.lst ys))) := by
 intro pins s σ H xs us Q I r h
 obtain ⟨p, ys, rfl, hq, q⟩ := h
 obtain ⟨u, rfl, rx⟩ := vals1 r
 cases rx
 have fin : ∀ (its : List Value), Vals ys its -> ys.length <= sizeLine -> ∀ (h' : Heap) (c' : Nat), (∀ b o', s.heap.get? b = some o' -> h'.get? b = some o') ->
  h'.get? s.heap.objs.size = some { cls := .type "list", dict := none, data := .seq its.toArray c', slots := #[] } -> EP X pins σ Q (.ref s.heap.objs.size) { s with heap := h' } := fun its r' hz h' c' kp e =>
  ⟨.ref s.heap.objs.size, _, I.laid (t' := s.toks) kp (Nat.le_refl _) (show Ob X.prog X.w _ h' _ (.lst ys) from ⟨hz, its, c', r', e⟩), rfl, q _ (I.hok.fresh (Nat.le_refl _))⟩
 rcases hq with hq | hq
 . obtain ⟨its, r', pl, hz⟩ := I.list hq
   have hlen := r'.length
   obtain ⟨o, ho, hc, n, hd⟩ := pl.isList
   exact call_list_seq p (.inl rfl) ho hc hd (fun h' c' kp e => fin its r' hz h' c' kp e) (by simp only [List.size_toArray] <;> omega)
 . obtain ⟨its, r', pl, hz⟩ := I.tuple hq
   have hlen := r'.length
   obtain ⟨o, ho, hc, n, hd⟩ := pl
   exact call_list_seq p (.inr rfl) ho hc hd (fun h' c' kp e => fin its r' hz h' c' kp e) (by simp only [List.size_toArray] <;> omega)
def tyV (K : PySem.W.Frag) (T : String) (x : V) (H : Hp) : Prop := match x with
 | .str _ => T = "str"
 | .int _ => T = "int"
 | .ref p => (T = "list" /\ ∃ xs, SqL K H p xs) \/ (T = "tuple" /\ ∃ o, K.lookup p = some o /\ o.cls = .type "tuple" /\ o.dict = none) \/
  (T = "dict" /\ ((∃ kvs, H p = some (.dK kvs)) \/ ∃ kvs, H p = some (.dT kvs))) \/ (T = "set" /\ ∃ S n, H p = some (.set S n))
 | _ => False
theorem tyV_is {pins : List (Addr × Obj)} {σ : St} {H : Hp} {s : Shared} {T : String} {x : V} {v : Value} (I : Inv X pins σ H s) (r : RelV x v) (ty : tyV X.K T x H) :
 s.TypeIs v T /\ ∀ a, v = .ref a -> ∃ ob, s.heap.get? a = some ob /\ ob.dict = none := by
 cases x with
 | str z =>
  obtain ⟨t, rfl⟩ := r
  cases (show T = "str" from ty)
  exact ⟨typeIs_str s z t, fun _ e => nomatch e⟩
 | int i =>
  obtain ⟨t, rfl⟩ := r
  cases (show T = "int" from ty)
  exact ⟨typeIs_int s i t, fun _ e => nomatch e⟩
 | ref p =>
  cases r
  rcases ty with ⟨rfl, xs, hq⟩ | ⟨rfl, o, hk, hc, hd⟩ | ⟨rfl, hk⟩ | ⟨rfl, S, n, hk⟩
  . obtain ⟨its, _, pl, _⟩ := I.list hq
    refine ⟨pl.isList.typeIs, fun a e => ?_⟩
    cases e
    obtain ⟨o, n, e, c, hd, _⟩ := pl
    exact ⟨o, e, hd⟩
  . refine ⟨⟨o, I.kIn p o hk, hc⟩, fun a e => ?_⟩
    cases e
    exact ⟨o, I.kIn _ o hk, hd⟩
  . have z : ∃ o, s.heap.get? p = some o /\ o.ExactDict := by
     rcases hk with ⟨kvs, hk⟩ | ⟨kvs, hk⟩
     . obtain ⟨_, _, _, _, o, _, _, e, ex, _⟩ := I.hok p _ hk
       exact ⟨o, e, ex⟩
     . obtain ⟨_, _, _, _, o, _, _, e, ex, _⟩ := I.hok p _ hk
       exact ⟨o, e, ex⟩
    obtain ⟨o, e, ex⟩ := z
    refine ⟨⟨o, e, ex.1⟩, fun a e2 => ?_⟩
    cases e2
    exact ⟨o, e, ex.2.1⟩
  . obtain ⟨o, _, _, _, e, ex, _⟩ := I.hok p _ hk
    refine ⟨⟨o, e, ex.1⟩, fun a e2 => ?_⟩
    cases e2
    exact ⟨o, e, ex.2.1⟩
 | _ => exact False.elim ty
def tBM (K : PySem.W.Frag) (T : String) (r : V -> List V -> Hp -> VK -> Prop) (to : TE) (t : TA) : TE := fun σ H Q => to σ H fun x H1 => tyV K T x H1 /\ t σ H1 fun xs H2 => r x xs H2 Q
variable {o e : Expr} {es : List Expr} {to : TE} {t : TA} {name : Str} {apos cpos : Pos} {T id : String} {r : V -> List V -> Hp -> VK -> Prop}
theorem dj (pa : PlainAttrs T) (slot : Slot T name id) (hty : typeOf (.builtin id) = pure (.type "method_descriptor")) (hm : MtR X id r) (ho : PE X o to) (ha : PA X (e :: es) t)
 (hbase : attributeBase o name X.env (eval o X.env) = eval o X.env := by first | rfl | with_unfolding_all rfl)
 (hfew : ((backTo cpos (starEach (e :: es) X.env)).all (fun x => !x.1) && (backToKw cpos (keywordEach [] X.env)).all (fun x => x.1.isSome)
   && decide ((e :: es).length + ([] : List Keyword).length + (if ([] : List Keyword).isEmpty then 0 else 1) < 30)) = true := by first | rfl | with_unfolding_all rfl)
 (hline : (apos.endLine == cpos.line) = true := by first | rfl | with_unfolding_all rfl) (hs : starEach (e :: es) X.env = (false, eval e X.env) :: starEach es X.env := by first | rfl | with_unfolding_all rfl) (hplain : (backTo cpos (starEach es X.env)).any (·.1) = false := by first | rfl | with_unfolding_all rfl) :
 PE X (.Call (.Attribute o name apos) (e :: es) [] cpos) (tBM X.K T r to t) := by
 intro pins s σ H Q I h
 refine wpAny_Call_method_late hbase hfew hline rfl (thn (ho pins s σ H _ I h) fun v s1 ⟨x, H1, I1, r1, ty, q1⟩ => ?_)
 obtain ⟨h1, h2⟩ := tyV_is I1 r1 ty
 refine ⟨T, id, pa, slot, hty, h1, h2, ?_⟩
 have hA := ha cpos pins s1 σ H1 _ I1 q1
 rw [hs] at hA ⊢
 refine Calls.callWith_builtin (by show (false || (backTo cpos (starEach es X.env)).any (·.1)) = false; rw [hplain] <;> rfl) (Calls.evalArgs_plain ?_)
 exact thn hA fun us s2 ⟨vs, H2, I2, r2, q2⟩ => hm pins s2 σ H2 x vs v us Q I2 r1 r2 q2
end
end L2
namespace L2
open PySem PySem.Spec PyProof.Rows
def MtM (X : Cx) (id : String) (r : V -> List V -> Hp -> VK -> Prop) : Prop :=
 ∀ (pins : List (Addr × Obj)) (s : Shared) (σ : St) (H : Hp) (x : V) (xs : List V) (v : Value) (us : List Value) (Q : VK), Inv X pins σ H s -> RelV x v -> Vals xs us -> r x xs H Q ->
  wpAny (model X.prog X.w) X.A (call (.builtin id) (v :: us)) (EP X pins σ Q) X.xe s
theorem Vals.one : ∀ {x : V} {us : List Value}, Vals [x] us -> ∃ u, us = [u] /\ RelV x u
 | _, _, .cons r .nil => ⟨_, rfl, r⟩
theorem Vals.reverse {xs : List V} {us : List Value} (h : Vals xs us) : Vals xs.reverse us.reverse := by
 induction h with
 | nil => exact .nil
 | cons r t ih => rw [List.reverse_cons, List.reverse_cons]; exact Vals.append ih (.cons r .nil)
theorem Vals.rep {xs : List V} {us : List Value} (h : Vals xs us) : ∀ k : Nat, Vals (List.replicate k xs).flatten (List.replicate k us).flatten
 | 0 => .nil
 | k + 1 => by
  rw [List.replicate_succ, List.replicate_succ, List.flatten_cons, List.flatten_cons]
  exact Vals.append h (Vals.rep h k)
theorem foldl_rep (its : List Value) : ∀ (k : Nat) (acc : List Value),
 List.foldl (fun x1 x2 => x1 ++ x2) acc.toArray (List.replicate k its.toArray) = (acc ++ (List.replicate k its).flatten).toArray
 | 0, acc => by simp
 | k + 1, acc => by
  have e : acc.toArray ++ its.toArray = (acc ++ its).toArray := by simp
  have e2 : (acc ++ its) ++ (List.replicate k its).flatten = acc ++ (List.replicate (k + 1) its).flatten := by
   rw [List.replicate_succ, List.flatten_cons, List.append_assoc]
  rw [<- e2, <- foldl_rep its k (acc ++ its), <- e, List.replicate_succ, List.foldl_cons]
section
variable {X : Cx} {pins : List (Addr × Obj)} {σ : St} {H : Hp} {s : Shared} {l b : Addr} {xs ys zs : List V}
theorem Inv.lset {its its' : List Value} {n : Nat} {f : Array Value -> Array Value} {t' : Nat} (I : Inv X pins σ H s) (hH : H l = some (.lst xs))
 (e : s.heap.get? l = some { cls := .type "list", data := .seq its.toArray n }) (hf : f its.toArray = its'.toArray) (hv : Vals ys its') (hz : ys.length <= sizeLine) :
 Inv X pins σ (upd H l (.lst ys)) { s with heap := s.heap.update l (Obj.mapSeq f), toks := t' } := by
 have q := PySem.IsL.update e f
 rw [hf] at q
 refine I.write (x := l) (e := l) (by rw [hH]; exact trivial) (.inl rfl) (fun b' u hb hu => (Heap.get?_update_other s.heap (Obj.mapSeq f) (Ne.symm hb)).trans hu) ⟨_, q⟩ ?_
 exact ⟨hz, its', _, hv, q⟩
theorem Inv.lnew {its : List Value} {t' : Nat} (I : Inv X pins σ H s) (hv : Vals ys its) (hz : ys.length <= sizeLine) :
 Inv X pins σ (upd H s.heap.objs.size (.lst ys)) { s with heap := s.heap.push { cls := .type "list", data := .seq its.toArray }, toks := t' } :=
 I.laid (fun _ _ q => Heap.get?_push_of_some _ q) (Nat.le_refl _) ⟨hz, its, 0, hv, Heap.get?_push_size _ rfl⟩
theorem Inv.fresh (I : Inv X pins σ H s) : H s.heap.objs.size = none := I.hok.fresh (Nat.le_refl _)
theorem Inv.lstM (I : Inv X pins σ H s) (hH : H l = some (.lst xs)) : xs.length <= sizeLine /\ ∃ (its : List Value) (n : Nat), Vals xs its /\ xs.length = its.length /\ s.heap.get? l = some { cls := .type "list", data := .seq its.toArray n } := by
 obtain ⟨z, its, n, r, e⟩ := I.hok l _ hH
 exact ⟨z, its, n, r, r.length, e⟩
theorem Cr {n : Nat} (h : n <= sizeLine) : Builtin.List.listTooLong n = false := by
 unfold Builtin.List.listTooLong
 exact decide_eq_false (by omega)
end
section
variable {X : Cx}
def Eo : V -> List V -> Hp -> VK -> Prop := fun x vs H Q => ∃ l xs y, x = .ref l /\ vs = [y] /\ H l = some (.lst xs) /\ xs.length < sizeLine /\ Q .non (upd H l (.lst (xs ++ [y])))
theorem Ub : MtM X "list.append" Eo := by
 intro pins s σ H x vs v us Q I rx rv h
 obtain ⟨l, xs, y, rfl, rfl, hH, hz, q⟩ := h
 cases rx
 obtain ⟨u, rfl, ru⟩ := rv.one
 obtain ⟨z, its, n, r, hl, e⟩ := I.lstM hH
 refine call_meets F.slot_list_append ⟨_, e, rfl⟩ F.entry_list_append (F.args_list_append_2 _ _) (PySem.list_append l its.toArray n u (by rw [List.size_toArray]; omega)) ⟨e, ?_⟩
 refine ⟨.non, _, I.lset (its' := its ++ [u]) hH e (by simp) (r.append (.cons ru .nil)) ?_, rfl, q⟩
 rw [List.length_append, List.length_singleton]
 omega
def rCat : R2 := fun x y H Q => ∃ l b xs zs, x = .ref l /\ y = .ref b /\ H l = some (.lst xs) /\ H b = some (.lst zs) /\ xs.length + zs.length <= sizeLine /\ ∀ p, H p = none -> Q (.ref p) (upd H p (.lst (xs ++ zs)))
theorem op_cat : OpR X (binaryOp .Add) rCat := by
 intro pins s σ H x y v u Q I rx ry h
 obtain ⟨l, b, xs, zs, rfl, rfl, hH, hB, hz, q⟩ := h
 cases rx
 cases ry
 obtain ⟨z, its, n, r, hl, e⟩ := I.lstM hH
 obtain ⟨z2, its2, n2, r2, hl2, e2⟩ := I.lstM hB
 refine PySem.P.add_list e e2 ?_ (by rw [List.size_toArray, List.size_toArray]; omega)
 have ea : its.toArray ++ its2.toArray = (its ++ its2).toArray := by simp
 rw [ea]
 exact ⟨.ref _, _, I.lnew (t' := s.toks) (r.append r2) (by rw [List.length_append]; omega), rfl, q _ I.fresh⟩
def rRep : R2 := fun x y H Q => ∃ l k xs, x = .ref l /\ y = .int k /\ H l = some (.lst xs) /\ -(2 ^ 63) <= k /\ k < 2 ^ 63 /\ xs.length * k.toNat <= sizeLine /\
 ∀ p, H p = none -> Q (.ref p) (upd H p (.lst (List.replicate k.toNat xs).flatten))
theorem len_rep {α : Type} (xs : List α) (k : Nat) : (List.replicate k xs).flatten.length = k * xs.length := by
 induction k with
 | zero => simp
 | succ k ih => rw [List.replicate_succ, List.flatten_cons, List.length_append, ih, Nat.succ_mul, Nat.add_comm]
theorem op_rep : OpR X (binaryOp .Mult) rRep := by
 intro pins s σ H x y v u Q I rx ry h
 obtain ⟨l, k, xs, rfl, rfl, hH, h1, h2, hz, q⟩ := h
 cases rx
 obtain ⟨t, rfl⟩ := ry
 obtain ⟨z, its, n, r, hl, e⟩ := I.lstM hH
 have hlen : its.toArray.size * k.toNat <= sizeLine := by rw [List.size_toArray, <- hl]; exact hz
 have hcap : ¬ its.toArray.size * k.toNat > (2 ^ 63 - 1) / 8 := by
  have : (sizeLine : Nat) <= (2 ^ 63 - 1) / 8 := by decide
  omega
 have hfit : ¬ (!Builtin.List.listFitsIndex k) = true := by
  rw [fitsIndex_both h1 h2]
  exact Bool.false_ne_true
 have hlong : ¬ Builtin.List.listTooLong (its.toArray.size * k.toNat) = true := by
  rw [Cr hlen]
  exact Bool.false_ne_true
 have hnew : List.foldl (fun x1 x2 => x1 ++ x2) #[] (List.replicate (if its.toArray.isEmpty = true then 0 else k.toNat) its.toArray) = (List.replicate k.toNat its).flatten.toArray := by
  have f0 : ∀ m : Nat, List.foldl (fun x1 x2 => x1 ++ x2) #[] (List.replicate m its.toArray) = (List.replicate m its).flatten.toArray := fun m => by
   have := foldl_rep its m []
   rw [List.nil_append] at this
   exact this
  rw [f0]
  cases its with
  | nil => simp
  | cons a r' => rw [if_neg (by simp)]
 refine wpAny_binaryOp_repeat_ref (T := "list") (U := "int") (by decide) ⟨_, e, rfl⟩ (fun s' => typeIs_int s' k t) noFill_list_mul F.fills_int_mul F.slot_int_rmul repeat_list F.slot_int_index.lookup
  (call_meets F.slot_int_rmul (typeIs_int s k t) F.entry_int_rmul (F.args_int_rmul_2 _ _) (int___rmul___int_list k t l its.toArray n)
    ⟨e, rfl, ⟨_, e, rfl⟩, call_meets F.slot_list_mul ⟨_, e, rfl⟩ F.entry_list_mul (F.args_list_mul_2 _ _) (AutoListH.list___mul___list_int_3 l its.toArray n k t hfit hcap hlong) ⟨e, ?_⟩⟩)
 rw [hnew]
 exact ⟨.ref _, _, I.lnew (t' := s.toks) (r.rep k.toNat) (by rw [len_rep, Nat.mul_comm]; exact hz), rfl, q _ I.fresh⟩
end
end L2
namespace Att
open PySem PySem.W PySem.Calls PyProof.Rows
theorem gg {P : Params} {h : Heap} : ∀ (ns : List Int) (vs : List Value), WellAll P h vs (ns.map WData.int) -> IntsAre vs ns := by
 intro ns
 induction ns with
 | nil =>
  intro vs w
  rw [List.map_nil] at w
  cases w
  exact .nil
 | cons n ns ih =>
  intro vs w
  rw [List.map_cons] at w
  cases w with
  | cons a b =>
   cases a
   exact .cons _ _ (ih _ b)
theorem Vn {l : OpenLaw} {n : Nat} (hn : l.most = some n) {P : Params} {h : Heap} {args : List WData} {vals : List Value}
 (hpre : l.row.toRowW.claim.pre args = true) (hwl : WellAll P h vals args) :
 ∃ a vs ns, vals = [Value.ref a] /\ args = [WData.list (ns.map WData.int)] /\ h.get? a = some { cls := .type "list", data := .seq vs.toArray } /\ IntsAre vs ns /\ ns.length <= n := by
 have hsh : WShape.hasAll [] args [.list .int] = true := (pre_splitW hpre).1
 have hc : l.pre.holds [] { args := args } = true := (pre_splitW hpre).2
 obtain ⟨d, r, rfl, h1, h2⟩ := hasAllW_cons hsh
 obtain rfl := hasAllW_nil h2
 obtain ⟨xs, rfl, h3⟩ := hasW_list h1
 obtain ⟨ns, rfl⟩ := items_int h3
 have hlen : ns.length <= n := by
  unfold OpenLaw.pre at hc
  have h4 : (WTm.not (.lt (.lit (.int (n : Int))) (.len (.arg 0)))).holds [] { args := [.list (ns.map .int)] } = true := by
   have h4 := (holds_andW hc).1
   rw [hn] at h4
   exact h4
  have h5 := condW_of h4 (w_not (w_lt w_lit (w_len_list (w_arg rfl))))
  rw [List.length_map] at h5
  refine Nat.le_of_not_lt fun q => ?_
  have q' : (n : Int) < ((ns.length : Nat) : Int) := by omega
  first
   | (rw [decide_eq_true q'] at h5; exact absurd h5 (by decide))
   | (simp at h5; omega)
 cases hwl with
 | cons w1 w2 =>
  cases w2
  cases w1 with
  | list ho hall => exact ⟨_, _, ns, rfl, rfl, ho, gg ns _ hall, hlen⟩
theorem Lo (l : OpenLaw) (args : List WData) : l.row.toRowW.claim.post args (.bool true) args = true :=
 postW_of (r := l.row.toRowW) (X := (true == true))
  (show WShape.has [] (.bool true) .bool = true by first | rfl | decide | simp [WShape.has, WShape.arms, WShape.armsAll])
  (show (WTm.eq .res (.lit (.bool true))).value [] { args := args, res := some (.bool true), after := args } = some (.bool (true == true)) from w_eq_bool (w_res rfl) w_lit) rfl
theorem Gk {l : OpenLaw} {n : Nat} {q : Program} {loose : List Str} {XP : (Str -> Option Value) -> Heap -> Prop} {YP : World -> Heap -> Prop} {d : DefRec}
 (hn : l.most = some n) (hdf : d.params.defaults = [])
 (call : ∀ (w : World) (s₀ s₁ : Shared) (mg mb : Str -> Option Value) (fa : Addr) (o : Obj) (pm cd doc : Value) (a : Addr) (vs : List Value) (ns : List Int),
   Ground q loose [] XP w s₀ mg mb s₁.heap -> YP w s₁.heap ->
   s₁.heap.get? fa = some o -> o.data = .func (docDef d.name d.params d.body d.scope pm cd doc) -> s₁.heap.CodeRec cd d.name -> mg d.name = some (.ref fa) ->
   s₁.heap.get? a = some { cls := .type "list", data := .seq vs.toArray } -> IntsAre vs ns -> ns.length <= n -> s₁.gens = #[] ->
   codeAny (model l.prog w) callerA (.call (.ref fa) ⟨[.ref a], []⟩) (fun r s' => r = .ok (.ret (.bool true)) /\ OldK s₁.heap s'.heap /\ s'.os = s₁.os /\ AllBare s'.gens) s₁) :
 WalkO q loose XP YP l.row.toRowW d [] (fun f vs => PySem.call f vs) := by
 intro w s₀ s₁ mg mb G Y fa o pm cd doc dV kV ho hd hcd hD hmg hg args vals as hpre hlay hrd hwl hlo
 obtain rfl : dV = .none := Dflts.none hD hdf
 obtain rfl : kV = .none := Dflts.noKw hD
 obtain ⟨a, vs, ns, rfl, rfl, hobj, hints, hlen⟩ := Vn hn hpre hwl
 refine enter_call (codeAny_mono (call w s₀ s₁ mg mb fa o pm cd doc a vs ns G Y ho (fd_plain hd) hcd hmg hobj hints hlen hg) fun r s' hq => ?_)
 obtain ⟨rfl, h2, h3, h4⟩ := hq
 exact ⟨.inl ⟨.bool true, .bool true, [], rfl, fun _ => rfl, .bool true, Lo l _, fun _ => ⟨List.Pairwise.nil, fun _ hm => (nomatch hm)⟩⟩, h2, h3, h4⟩
section
variable {prog : Program} {w : World} {A : Around} {E : Value -> Shared -> Prop} {s : Shared} {K : Frag}
def ledger (h : Heap) (L d : Addr) : List (Addr × Obj) := (List.range h.objs.size).filterMap fun a => if a = L \/ a = d then none else (h.get? a).map fun o => (a, o)
end
end Att
namespace L2
open PySem PySem.Spec PyProof.Rows
theorem Ki : ∀ {vs : List Value} {ns : List Int}, IntsAre vs ns -> Vals (ns.map V.int) vs
 | _, _, .nil => .nil
 | _, _, .cons n t h => .cons ⟨t, rfl⟩ (Ki h)
def Only (H : Hp) : Prop := ∀ b, H b = none \/ ∃ o xs, H b = some (.frz o (.lst xs))
theorem Ir {P : Program} {w : World} {K : PySem.W.Frag} {mg mb : Str -> Option Value} {CX : CXT} {k : Nat} {fa a : Addr} {fd : FuncData} {x : Str} {sp : Sp} {s₁ : Shared} {vs : List Value} {ns : List Int}
 (KX : K.In s₁.heap) (hns : s₁.heap.Ns mainGlobals mg) (hb : s₁.heap.Ns builtinsNs mb) (hbb : ∀ x : Str, x ≠ "__name__" -> mb x = bootBuiltins x) (hlim : s₁.heap.NoLimit) (hg : s₁.gens = #[])
 (ha : s₁.heap.get? a = some { cls := .type "list", data := .seq vs.toArray }) (hi : IntsAre vs ns) (hl : ns.length <= sizeLine) (hr : Room k callerA)
 (F : ∀ base : Heap, K.In base -> base.Ns mainGlobals mg -> FnOk P w K mg base CX k fa fd [x] sp) (hbind : ∀ (s : Shared) (u : Value), BindsTo s fd ⟨[u], []⟩ [(x, u)])
 (hsp : ∀ H : Hp, Only H -> SqL K H a (ns.map V.int) -> sp [.ref a] H (fun v _ => v = .bl true) fun _ _ _ => False)
 (hCX : ∀ H e s', CX [] H s₁ (fun _ _ _ => False) e s' -> False) :
 codeAny (model P w) callerA (.call (.ref fa) ⟨[.ref a], []⟩) (fun r s' => r = .ok (.ret (.bool true)) /\ OldK s₁.heap s'.heap /\ s'.os = s₁.os /\ AllBare s'.gens) s₁ := by
 have rv := Ki hi
 have lenV := hi.length
 have core : ∀ H : Hp, Only H -> SqL K H a (ns.map V.int) -> HOk P w H s₁.heap -> (∀ b, H b ≠ none -> b = a) -> (H a ≠ none -> K.lookup a = none) ->
  codeAny (model P w) callerA (.call (.ref fa) ⟨[.ref a], []⟩) (fun r s' => r = .ok (.ret (.bool true)) /\ OldK s₁.heap s'.heap /\ s'.os = s₁.os /\ AllBare s'.gens) s₁ := by
  intro H hO hS hok hA hK
  have base_of : ∀ {b : Addr} {o : Obj}, s₁.heap.get? b = some o -> H b = none -> (hidT s₁.heap H).get? b = some o := fun e n => Mr e n
  have noA : ∀ {b : Addr} {o : Obj} {es : Array DictEntry} {ep : Nat}, s₁.heap.get? b = some o -> o.data = .dict es ep -> H b = none := fun {b o es ep} e d => by
   cases q : H b with
   | none => rfl
   | some u =>
    have e' : b = a := hA b (by rw [q]; simp)
    subst e'
    rw [ha] at e; cases e
    have d' : Data.seq vs.toArray _ = Data.dict es ep := d
    cases d'
  have nsK : ∀ {b : Addr} {m : Str -> Option Value}, s₁.heap.Ns b m -> (hidT s₁.heap H).Ns b m := fun {b m} ⟨o, es, ep, e, d, r⟩ => ⟨o, es, ep, base_of e (noA e d), d, r⟩
  have hKb : K.In (hidT s₁.heap H) := fun b o e => base_of (KX b o e) (by
   cases q : H b with
   | none => rfl
   | some u =>
    have e' : b = a := hA b (by rw [q]; simp)
    subst e'
    rw [hK (by rw [q]; simp)] at e; cases e)
  have hM : Mod K mg (hidT s₁.heap H) := ⟨hKb, nsK hns, ⟨mb, nsK hb, hbb⟩, let ⟨mc, h1, h2⟩ := hlim; ⟨mc, nsK h1, h2⟩⟩
  have e0 : Env0 P w K mg (hidT s₁.heap H) callerA [] s₁ H := ⟨rfl, hM, fun b o e => av e, Nat.le_of_eq (Fp _ _), trivial, fun b hb => absurd (show b ∈ ([] : List Addr) from hb) (by simp), hok, .of_eq hg⟩
  refine codeAny_mono ((F _ hKb (nsK hns)).run callerA [] s₁ H ⟨[.ref a], []⟩ [.ref a] [.ref a] _ _ hr e0 (hbind s₁ (.ref a)) (.cons rfl .nil) (hsp H hO hS)) fun r s' h => ?_
  cases r with
  | error e => exact (hCX H e s' h).elim
  | ok fl =>
   cases fl with
   | next => exact False.elim h
   | brk => exact False.elim h
   | cont => exact False.elim h
   | ret u =>
    obtain ⟨v, H', os, bare, un, hok', r', q⟩ := h
    have q' : v = .bl true := q
    subst q'
    obtain rfl : u = Value.bool true := r'
    refine ⟨rfl, OldK.of_keep fun b o e => ?_, os, bare⟩
    cases q : H b with
    | none => exact un.keep b o e q (by intro z; exact absurd (show b ∈ ([] : List Addr) from z) (by simp)) (by simp)
    | some u =>
     rcases hO b with z | ⟨ob, xs, z⟩
     . rw [q] at z; cases z
     . have z2 := un.frzs b ob _ z
       obtain ⟨e1, _⟩ := hok b _ z
       obtain ⟨e2, _⟩ := hok' b _ z2
       rw [e] at e1; cases e1
       exact e2
 cases hk : K.lookup a with
 | some o =>
  have e := KX a o hk
  rw [ha] at e
  cases e
  refine core (fun _ => none) (fun _ => .inl rfl) (.inr ⟨_, vs.toArray, _, hk, rfl, rfl, rfl, by rw [List.size_toArray, lenV]; exact hl, by simpa using rv⟩) (fun b u z => by have z' : (none : Option HO) = some u := z; cases z') (fun b z => absurd rfl z) fun z => absurd rfl z
 | none =>
  refine core (fun b => if b = a then some (.frz { cls := .type "list", data := .seq vs.toArray } (.lst (ns.map V.int))) else none) (fun b => ?_) (.inl (.inr ⟨{ cls := .type "list", data := .seq vs.toArray }, if_pos rfl⟩)) (fun b u z => ?_) (fun b z => ?_) fun _ => hk
  . by_cases hb : b = a
    . exact .inr ⟨_, _, if_pos hb⟩
    . exact .inl (if_neg hb)
  . by_cases hb : b = a
    . have z' := (if_pos hb).symm.trans z
      cases z'
      subst hb
      exact ⟨ha, by rw [List.length_map]; exact hl, vs, _, rv, ha⟩
    . have z' := (if_neg hb).symm.trans z
      cases z'
  . by_cases hb : b = a
    . exact hb
    . exact absurd (if_neg hb) z
end L2
namespace L2
open PySem PySem.Spec PyProof.Rows
abbrev KOf {K : PySem.W.Frag} {h : Heap} (_ : K.In h) : PySem.W.Frag := K
theorem Vt {l : PySem.W.OpenLaw} {n k : Nat} {q : Program} {loose : List Str} {XP : (Str -> Option Value) -> Heap -> Prop} {YP : World -> Heap -> Prop} {d : DefRec} {K : Params -> PySem.W.Frag} {CX : World -> CXT} {sp : World -> Sp} {x : Str}
 (hn : l.most = some n) (hn2 : n <= sizeLine) (hdf : d.params.defaults = []) (hr : Room k callerA)
 (hY : ∀ (w : World) (h : Heap), YP w h -> (K w.params).In h)
 (F : ∀ (w : World) (mg : Str -> Option Value) (fa : Addr) (h : Heap), (K w.params).In h -> h.Ns mainGlobals mg -> mg d.name = some (.ref fa) ->
   ∃ fd : FuncData, (∀ (s : Shared) (u : Value), BindsTo s fd ⟨[u], []⟩ [(x, u)]) /\
    ∀ base : Heap, (K w.params).In base -> base.Ns mainGlobals mg -> FnOk l.prog w (K w.params) mg base (CX w) k fa fd [x] (sp w))
 (hsp : ∀ (w : World) (H : Hp) (a : Addr) (ns : List Int), ns.length <= n -> Only H -> SqL (K w.params) H a (ns.map V.int) -> sp w [.ref a] H (fun v _ => v = .bl true) fun _ _ _ => False)
 (hCX : ∀ (w : World) (H : Hp) (s : Shared) (e : Value) (s' : Shared), CX w [] H s (fun _ _ _ => False) e s' -> False) :
 PySem.W.WalkO q loose XP YP l.row.toRowW d [] (fun f vs => PySem.call f vs) := by
 refine Att.Gk hn hdf fun w s₀ s₁ mg mb fa o pm cd doc a vs ns G Y ho hd hcd hmg hobj hints hlen hg => ?_
 have KX := hY w _ Y
 obtain ⟨fd, hb, hF⟩ := F w mg fa _ KX G.T.g hmg
 exact Ir KX G.T.g G.T.b G.T.builtins G.T.nolimit hg hobj hints (Nat.le_trans hlen hn2) hr hF hb (fun H hO hS => hsp w H a ns hlen hO hS) fun H e s' => hCX w H s₁ e s'
end L2
namespace L2
open PySem PySem.Spec PyProof.Rows
def Nc (s : Stmt) : Arguments := match s with
 | .FunctionDef _ a _ _ _ _ _ _ _ _ => a
 | _ => { posonlyargs := [], args := [], vararg := none, kwonlyargs := [], kw_defaults := [], kwarg := none, defaults := [] }
def Ba (s : Stmt) : List Stmt := match s with
 | .FunctionDef _ _ b _ _ _ _ _ _ _ => b
 | _ => []
def ua (s : Stmt) : Scope := match s with
 | .FunctionDef _ _ _ _ _ _ sc _ _ _ => sc
 | _ => { kind := .function, names := [], isGenerator := false, isCoroutine := false }
abbrev CX0 : CXT := fun _ _ _ _ _ _ => False
abbrev E0 : XK := fun _ _ _ => False
theorem pass0 {X : Cx} : Passes CX0 X E0 := fun _ _ _ _ _ _ _ h => h.elim
structure Fun (K : PySem.W.Frag) (x qual : Str) (st : Stmt) (f : Addr) (fd : FuncData) : Prop where
 ex : ∃ (oc : Value) (od : Option Addr) (kV doc pm : Value) (an : Option Addr) (cdv ct : Value) (osl : Array (Option Value)),
  fd = PySem.W.fnOf x qual (Nc st) (Ba st) (ua st) .none kV doc pm an cdv ct /\ K.lookup f = some ⟨oc, od, .func fd, osl⟩ /\ PySem.W.codeIn K cdv qual = true
 kp : PySem.W.keepIn K (.ref f) = true
section
variable {P : Program} {w : World} {K : PySem.W.Frag} {mg : Str -> Option Value} {base : Heap}
theorem Fun.ok {x qual : Str} {st : Stmt} {f : Addr} {fd : FuncData} {N ps : List Str} {k : Nat} {sp : Sp} (F : Fun K x qual st f fd) (S : Ga N ps (ua st)) (len : ∀ vs H Q E, sp vs H Q E -> vs.length = ps.length)
 (hbody : ∀ (cdv : Value) (A : Around) (outer : List Env) (s : Shared) (H : Hp) (vs : List V) (Q : VK) (E : XK), Room k (A.deeper (envOfC qual (ua st) s.heap.objs.size f cdv)) -> sp vs H Q E ->
   ∃ t, PSs (cxOf CX0 P w K mg base N qual (ua st) f cdv A outer s H E).nox (Ba st) t /\ t { nx := fun _ H' => Q .non H', rt := Q } (start N vs) H) : FnOk P w K mg base CX0 (k + 1) f fd ps sp := by
 obtain ⟨oc, od, kV, doc, pm, an, cdv, ct, osl, rfl, lk, hcd⟩ := F.ex
 refine fn_of lk hcd S len fun A outer s H vs Q E hr hsp => ?_
 obtain ⟨t, h, q⟩ := hbody cdv A outer s H vs Q E hr hsp
 exact ⟨t, h.nox, q⟩
theorem Fun.binds {x qual : Str} {st : Stmt} {f : Addr} {fd : FuncData} {ps : List Str} (F : Fun K x qual st f fd)
 (h : ∀ (kV doc pm : Value) (an : Option Addr) (cdv ct : Value) (us : List Value), us.length = ps.length -> bindArgs (PySem.W.fnOf x qual (Nc st) (Ba st) (ua st) .none kV doc pm an cdv ct) ⟨us, []⟩ = pure (ps.zip us)) : Binds K fd ps [] := by
 obtain ⟨oc, od, kV, doc, pm, an, cdv, ct, osl, rfl, lk, hcd⟩ := F.ex
 exact .all (h kV doc pm an cdv ct)
theorem fun_mk {x qual : Str} {st : Stmt} {f : Addr} {oc : Value} {od an : Option Addr} {osl : Array (Option Value)} {kV doc pm cdv ct : Value} (l : K.lookup f = some ⟨oc, od, .func (PySem.W.fnOf x qual (Nc st) (Ba st) (ua st) .none kV doc pm an cdv ct), osl⟩)
 (c : PySem.W.codeIn K cdv qual = true) (k : PySem.W.keepIn K (.ref f) = true) : Fun K x qual st f (PySem.W.fnOf x qual (Nc st) (Ba st) (ua st) .none kV doc pm an cdv ct) := ⟨⟨oc, od, kV, doc, pm, an, cdv, ct, osl, rfl, l, c⟩, k⟩
end
section
variable {X : Cx}
theorem pv (i : Nat) {x : Str} {pos : Pos} (hN : X.N[i]? = some x := by first | rfl | with_unfolding_all rfl) (hv : Vis X.env.scope x := by first | exact Or.inl rfl | exact Or.inr (Or.inl rfl) | exact Or.inr (Or.inr rfl) | with_unfolding_all exact Or.inl rfl | with_unfolding_all exact Or.inr (Or.inl rfl) | with_unfolding_all exact Or.inr (Or.inr rfl)) (hd : (x == ("__debug__" : Str)) = false := by decide)
 (hcd : (x == ("__classdict__" : Str)) = false := by decide) : PE X (.Name x pos) (tVar i) := pe_var hN hv hd hcd
end
theorem iteF {A B : Prop} (h : B) : if false = true then A else B := by
 rw [if_neg Bool.false_ne_true]
 exact h
theorem iteT {A B : Prop} (h : A) : if true = true then A else B := by
 rw [if_pos rfl]
 exact h
theorem ite2 {c A B : Prop} [Decidable c] (h1 : c -> A) (h2 : ¬ c -> B) : if c then A else B := by
 by_cases h : c
 . rw [if_pos h]
   exact h1 h
 . rw [if_neg h]
   exact h2 h
def Same (H H' : Hp) : Prop := ∀ b o, H b = some o -> H' b = some o
theorem Same.refl (H : Hp) : Same H H := fun _ _ h => h
theorem Same.trans {H H1 H2 : Hp} (a : Same H H1) (b : Same H1 H2) : Same H H2 := fun c o h => b c o (a c o h)
theorem Same.free {H H' : Hp} (e : Same H H') {l : Addr} (h : H' l = Option.none) : H l = Option.none := by
 cases q : H l with
 | none => rfl
 | some o =>
  rw [e l o q] at h
  cases h
end L2
namespace L2
open PySem PySem.Spec PyProof.Rows
def qf (i j : Int) : Prop := CMul i j \/ ∃ m n : Nat, i.natAbs < 2 ^ m /\ j.natAbs < 2 ^ n /\ m + n <= 134217728
def Jk (_i j : Int) : Prop := 0 < j /\ ∃ n : Nat, j.natAbs < 2 ^ n /\ n <= 9000
section
variable {X : Cx}
theorem Ru : OpR X (binaryOp .Mult) (rI qf fun i j => .int (i * j)) := opI fun _ _ _ _ _ _ _ hc q => by
 rcases hc with hc | ⟨m, n, h1, h2, h3⟩
 . exact mul_int q hc.ok
 exact mul_int q (PySem.IntMulOk.of_le (PySem.intBits_le_iff.mpr h1) (PySem.intBits_le_iff.mpr h2) h3)
theorem xb : OpR X (binaryOp .FloorDiv) (rI Jk fun i j => .int (i / j)) := opI fun i j _ _ _ _ _ hc q => by
 obtain ⟨h1, n, h2, h3⟩ := hc
 refine floordiv_int (by omega) (by rw [Int.fdiv_eq_ediv_of_nonneg i (by omega)]; exact q) (.inl (PyProof.noPylong_of_log2 ?_))
 exact (Nat.log2_lt (by omega)).mpr (Nat.lt_of_lt_of_le h2 (Nat.pow_le_pow_right (by decide) h3))
end
theorem qf.of {i j : Int} (m n : Nat) (h1 : i.natAbs < 2 ^ m) (h2 : j.natAbs < 2 ^ n) (h3 : m + n <= 134217728 := by decide) : qf i j := .inr ⟨m, n, h1, h2, h3⟩
theorem Jk.of {i j : Int} (n : Nat) (h1 : 0 < j) (h2 : j.natAbs < 2 ^ n) (h3 : n <= 9000 := by decide) : Jk i j := ⟨h1, n, h2, h3⟩
theorem Jk.small {i j : Int} (h1 : 0 < j) (h2 : j < 4294967296) : Jk i j := .of 32 h1 (by omega)
theorem qf.left {i j : Int} (h1 : -18446744073709551616 < i) (h2 : i < 18446744073709551616) : qf i j := .inl (.inl ⟨h1, h2⟩)
theorem qf.right {i j : Int} (h1 : -18446744073709551616 < j) (h2 : j < 18446744073709551616) : qf i j := .inl (.inr ⟨h1, h2⟩)
def rIsi (K : PySem.W.Frag) : List V -> Hp -> VK -> Prop := fun xs H Q => ∃ x n t b, xs = [x, .ty n] /\ TyOf K H x t /\ PySem.W.kitOne K t (.type n) = some b /\ Q (.bl b) H
def rAbs : List V -> Hp -> VK -> Prop := fun xs H Q => ∃ i, xs = [.int i] /\ Q (.int (if i < 0 then -i else i)) H
def rMin2 : List V -> Hp -> VK -> Prop := fun xs H Q => ∃ i j, xs = [.int i, .int j] /\ Q (.int (if j < i then j else i)) H
def rMax2 : List V -> Hp -> VK -> Prop := fun xs H Q => ∃ i j, xs = [.int i, .int j] /\ Q (.int (if j > i then j else i)) H
def rInt1 : List V -> Hp -> VK -> Prop := fun xs H Q => (∃ i, xs = [.int i] /\ Q (.int i) H) \/ ∃ k, xs = [.bl k] /\ Q (.int (if k then 1 else 0)) H
def rLen (K : PySem.W.Frag) : List V -> Hp -> VK -> Prop := fun xs H Q => ∃ p ys, xs = [.ref p] /\ (SqL K H p ys \/ SqT K H p ys) /\ Q (.int ys.length) H
def Yj (K : PySem.W.Frag) : List V -> Hp -> VK -> Prop := fun xs H Q => ∃ p ys, xs = [.ref p] /\ (SqL K H p ys \/ SqT K H p ys) /\ ∀ l, H l = none -> Q (.ref l) (upd H l (.lst ys))
section
variable {X : Cx}
theorem cl_isi : Xb X (.builtin "isinstance") (rIsi X.K) := by
 intro pins s σ H xs us Q I r h
 obtain ⟨x, n, t, b, rfl, ty, e, q⟩ := h
 obtain ⟨u, c, rfl, ru, rc⟩ := vals2 r
 cases rc
 exact Dp I ru ty e fun tk => ⟨.bl b, H, I.tok _, rfl, q⟩
theorem Tp : Xb X (.builtin "abs") rAbs := Zr
theorem ae (hc : X.calm = true) : Xb X (.builtin "min") rMin2 := aq hc
theorem Ak (hc : X.calm = true) : Xb X (.builtin "max") rMax2 := bq hc
theorem ng : Xb X (.type "int") rInt1 := cq
theorem cl_len : Xb X (.builtin "len") (rLen X.K) := vj
theorem Gv : Xb X (.type "list") (Yj X.K) := uj
end
theorem gb : bootBuiltins "isinstance" = some (.builtin "isinstance") := by decide +kernel
theorem fq : bootBuiltins "abs" = some (.builtin "abs") := by decide +kernel
theorem oh : bootBuiltins "len" = some (.builtin "len") := by decide +kernel
theorem rg : bootBuiltins "min" = some (.builtin "min") := by decide +kernel
theorem dq : bootBuiltins "max" = some (.builtin "max") := by decide +kernel
theorem bt_sum : bootBuiltins "sum" = some (.builtin "sum") := by decide +kernel
theorem bt_all : bootBuiltins "all" = some (.builtin "all") := by decide +kernel
theorem ph : bootBuiltins "int" = some (.type "int") := by decide +kernel
theorem Nv : bootBuiltins "bool" = some (.type "bool") := by decide +kernel
theorem Mv : bootBuiltins "list" = some (.type "list") := by decide +kernel
structure Up (K : PySem.W.Frag) (mg : Str -> Option Value) (x : Str) (st : Stmt) (ps : List Str) : Prop where
 ex : ∃ (f : Addr) (fd : FuncData), Fun K x x st f fd /\ mg x = some (.ref f) /\ Binds K fd ps []
structure Callee (P : Program) (w : World) (K : PySem.W.Frag) (mg : Str -> Option Value) (base : Heap) (k : Nat) (x : Str) (ps : List Str) (sp : Sp) : Prop where
 ex : ∃ (f : Addr) (fd : FuncData), FnOk P w K mg base CX0 k f fd ps sp /\ mg x = some (.ref f) /\ PySem.W.keepIn K (.ref f) = true /\ Binds K fd ps []
theorem Callee.of {P : Program} {w : World} {K : PySem.W.Frag} {mg : Str -> Option Value} {base : Heap} {x : Str} {st : Stmt} {N ps : List Str} {k : Nat} {sp : Sp} (U : Up K mg x st ps) (S : Ga N ps (ua st))
 (len : ∀ vs H Q E, sp vs H Q E -> vs.length = ps.length)
 (hbody : ∀ (f : Addr) (cdv : Value) (A : Around) (outer : List Env) (s : Shared) (H : Hp) (vs : List V) (Q : VK) (E : XK), Room k (A.deeper (envOfC x (ua st) s.heap.objs.size f cdv)) -> sp vs H Q E ->
   ∃ t, PSs (cxOf CX0 P w K mg base N x (ua st) f cdv A outer s H E).nox (Ba st) t /\ t { nx := fun _ H' => Q .non H', rt := Q } (start N vs) H) : Callee P w K mg base (k + 1) x ps sp := by
 obtain ⟨f, fd, F, hm, hb⟩ := U.ex
 exact ⟨f, fd, F.ok S len fun cdv A outer s H vs Q E hr h => hbody f cdv A outer s H vs Q E hr h, hm, F.kp, hb⟩
def tCl (sp : Sp) (t : TA) : TE := fun σ H Q => t σ H fun vs H1 => sp vs H1 Q E0
section
variable {X : Cx} {k : Nat} {ps : List Str} {sp : Sp} {x : Str} {p pos : Pos} {e : Expr} {es : List Expr} {t : TA}
theorem pe_c (C : Callee X.prog X.w X.K X.mg X.base k x ps sp) (hr : Room k X.A) (hg : Gl X x) (ha : PA X (e :: es) t) (hdb : (x == ("__debug__" : Str)) = false := by decide)
 (he : starEach (e :: es) X.env = (false, eval e X.env) :: starEach es X.env := by first | rfl | with_unfolding_all rfl) (hpl : (backTo pos (starEach es X.env)).any (·.1) = false := by first | rfl | with_unfolding_all rfl) : PE X (.Call (.Name x p) (e :: es) [] pos) (tCl sp t) := by
 obtain ⟨f, fd, F, hm, hk, hb⟩ := C.ex
 have h := Qu (p := p) (E := E0) F hr hg hm hk hb .nil pass0 ha hdb he hpl
 intro pins s σ H Q I q
 refine h pins s σ H Q I ?_
 unfold tCl at q
 unfold tCall
 simp only [List.append_nil]
 exact q
end
def tSeqM (t u : TS) : TS := fun D σ H => ∃ M : St -> Hp -> Prop, t { D with nx := M } σ H /\ ∀ σ' H', M σ' H' -> u D σ' H'
theorem Vf {X : Cx} {st : Stmt} {rest : List Stmt} {t u : TS} (h1 : PS X st t) (h2 : PSs X rest u) : PSs X (st :: rest) (tSeqM t u) := by
 intro pins s σ H D I h
 obtain ⟨M, ht, hu⟩ := h
 refine wpAny_execs_cons (thn (h1 pins s σ H _ I ht) fun f s1 q => ?_)
 cases f with
 | next =>
  obtain ⟨σ', H', I', m⟩ := q
  exact h2 pins s1 σ' H' D I' (hu σ' H' m)
 | brk => exact q
 | cont => exact q
 | ret u => exact q
end L2
namespace L2
open PySem PySem.Spec PyProof.Rows
section
variable {t u tb : TS} {n b c : St -> Hp -> Prop} {r : VK} {σ : St} {H : Hp} {D : Ends} {te ta tb' : TE} {tc td : TT} {g : TG} {Q : VK} {QB : Bool -> Hp -> Prop} {QA : List V -> Hp -> Prop} {QS : St -> Hp -> Prop} {i j : Nat} {v w x y : V} {tA tr : TA}
theorem r_seq (h : t ⟨u ⟨n, r, b, c⟩, r, b, c⟩ σ H) : tSeq t u ⟨n, r, b, c⟩ σ H := h
theorem Ao (M : St -> Hp -> Prop) (h : t ⟨M, r, b, c⟩ σ H) (h2 : ∀ σ' H', M σ' H' -> u ⟨n, r, b, c⟩ σ' H') : tSeqM t u ⟨n, r, b, c⟩ σ H := ⟨M, h, h2⟩
theorem r_next (h : n σ H) : tNext ⟨n, r, b, c⟩ σ H := h
theorem r_asg (h : te σ H fun x H1 => g x σ H1 n) : tAsg te g ⟨n, r, b, c⟩ σ H := h
theorem Du (h : QS (σ.set i (some v)) H) : uk i v σ H QS := h
theorem r_gsub {to ti : TE} {ts : TSet} (h : to σ H fun o H1 => ti σ H1 fun i H2 => ts o i v H2 fun H3 => QS σ H3) : gSub to ti ts v σ H QS := h
theorem r_gnil (h : QS σ H) : gNil [] σ H QS := ⟨rfl, h⟩
theorem Eu {gs : TGs} {vs : List V} (h : g v σ H fun σ' H' => gs vs σ' H' QS) : gCons g gs (v :: vs) σ H QS := ⟨v, vs, rfl, h⟩
theorem r_gtup {K : PySem.W.Frag} {gs : TGs} {a : Addr} {xs : List V} {k : Nat} (h1 : H a = some (.tup xs)) (h2 : xs.length = k) (h : gs xs σ H QS) : gTup K k gs (.ref a) σ H QS := ⟨a, xs, rfl, SqT.of h1, h2, h⟩
theorem r_drop (h : te σ H fun _ H1 => n σ H1) : tDrop te ⟨n, r, b, c⟩ σ H := h
theorem r_ret (h : te σ H r) : tRet te ⟨n, r, b, c⟩ σ H := h
theorem r_ifs (h : tc σ H fun q H1 => if q = true then t D σ H1 else u D σ H1) : tIfS tc t u D σ H := h
theorem r_par (h : tA σ H fun vs H1 => ∃ v w, vs = [v, w] /\ n ((σ.set i (some v)).set j (some w)) H1) : tPar i j tA ⟨n, r, b, c⟩ σ H := h
theorem r_par2 {P : V -> V -> Prop} (h : P x y) : ∃ v w, [x, y] = [v, w] /\ P v w := ⟨x, y, rfl, h⟩
theorem r_aug {ti : TIp} (e : σ[i]? = some (some x)) (h : te σ H fun y H1 => ti x y H1 fun z H2 => n (σ.set i (some z)) H2) : tAug i te ti ⟨n, r, b, c⟩ σ H := ⟨x, e, h⟩
theorem r_ipI {f : Int -> Int -> Int} {p q : Int} (h : Q (.int (f p q)) H) : ipI f (.int p) (.int q) H Q := ⟨p, q, rfl, rfl, h⟩
theorem Xj (Pv : Nat -> St -> Hp -> Prop) (m : Nat) (h0 : Pv m σ H)
 (hs : ∀ m σ H, Pv m σ H -> tc σ H fun q H1 => if q = true then ∃ N : St -> Hp -> Prop, (∀ σ' H', N σ' H' -> ∃ m', m' < m /\ Pv m' σ' H') /\ tb ⟨N, r, n, N⟩ σ H1 else n σ H1) : Gs tc tb ⟨n, r, b, c⟩ σ H := ⟨Pv, ⟨m, h0⟩, hs⟩
theorem r_var (e : σ[i]? = some (some v)) (h : Q v H) : tVar i σ H Q := ⟨v, e, h⟩
theorem r_c (h : Q v H) : tC v σ H Q := h
theorem r_op {o : R2} (h : ta σ H fun x H1 => tb' σ H1 fun y H2 => o x y H2 Q) : tOp o ta tb' σ H Q := h
theorem r_un {o : V -> Hp -> VK -> Prop} (h : ta σ H fun x H1 => o x H1 Q) : tUn o ta σ H Q := h
theorem r_rU {f : Int -> V} {p : Int} (h : Q (f p) H) : rU f (.int p) H Q := ⟨p, rfl, h⟩
theorem br {f : Int -> Int -> V} {p q : Int} (h : Q (f p q) H) : rI0 f (.int p) (.int q) H Q := ⟨p, q, rfl, rfl, h⟩
theorem r_rI {C : Int -> Int -> Prop} {f : Int -> Int -> V} {p q : Int} (hc : C p q) (h : Q (f p q) H) : rI C f (.int p) (.int q) H Q := ⟨p, q, rfl, rfl, hc, h⟩
theorem r_rEqI {p q : Int} (h : Q (.bl (decide (p = q))) H) : rEq (.int p) (.int q) H Q := ⟨rfl, by
 have e : decide (V.int p = V.int q) = decide (p = q) := by by_cases z : p = q <;> simp [z]
 rw [e]; exact h⟩
theorem r_rNeI {p q : Int} (h : Q (.bl (!decide (p = q))) H) : rNe (.int p) (.int q) H Q := ⟨rfl, by
 have e : decide (V.int p = V.int q) = decide (p = q) := by by_cases z : p = q <;> simp [z]
 rw [e]; exact h⟩
theorem r_rEqS {p q : Str} (h : Q (.bl (decide (p = q))) H) : rEq (.str p) (.str q) H Q := ⟨rfl, by
 have e : decide (V.str p = V.str q) = decide (p = q) := by by_cases z : p = q <;> simp [z]
 rw [e]; exact h⟩
theorem r_rNeS {p q : Str} (h : Q (.bl (!decide (p = q))) H) : rNe (.str p) (.str q) H Q := ⟨rfl, by
 have e : decide (V.str p = V.str q) = decide (p = q) := by by_cases z : p = q <;> simp [z]
 rw [e]; exact h⟩
theorem r_test (h : te σ H fun x H' => ∃ k, x = .bl k /\ QB k H') : tTest te σ H QB := h
theorem r_bl {k : Bool} {P : Bool -> Prop} (h : P k) : ∃ k', V.bl k = .bl k' /\ P k' := ⟨k, rfl, h⟩
theorem r_and (h : tc σ H fun q H1 => if q = true then td σ H1 QB else QB false H1) : tAnd tc td σ H QB := h
theorem r_or (h : tc σ H fun q H1 => if q = true then QB true H1 else td σ H1 QB) : tOr tc td σ H QB := h
theorem r_not (h : tc σ H fun q H1 => QB (!q) H1) : tNot tc σ H QB := h
theorem r_andV (h : ta σ H fun x H1 => ∃ q, x = .bl q /\ if q = true then tb' σ H1 Q else Q (.bl false) H1) : tAndV ta tb' σ H Q := h
theorem r_orV (h : ta σ H fun x H1 => ∃ q, x = .bl q /\ if q = true then Q (.bl true) H1 else tb' σ H1 Q) : tOrV ta tb' σ H Q := h
theorem r_notV (h : ta σ H fun x H1 => ∃ q, x = .bl q /\ Q (.bl (!q)) H1) : tNotV ta σ H Q := h
theorem r_nil (h : QA [] H) : tNil σ H QA := h
theorem r_cons (h : te σ H fun x H1 => tr σ H1 fun xs H2 => QA (x :: xs) H2) : tCons te tr σ H QA := h
theorem r_tup (h : tA σ H fun xs H1 => xs.length <= sizeLine /\ ∀ p, H1 p = none -> Q (.ref p) (upd H1 p (.tup xs))) : tTup tA σ H Q := h
theorem r_lst (h : tA σ H fun xs H1 => xs.length <= sizeLine /\ ∀ p, H1 p = none -> Q (.ref p) (upd H1 p (.lst xs))) : tLst tA σ H Q := h
theorem r_cb {o : List V -> Hp -> VK -> Prop} (h : tA σ H fun vs H1 => o vs H1 Q) : tCB o tA σ H Q := h
theorem r_cl {sp : Sp} (h : tA σ H fun vs H1 => sp vs H1 Q E0) : tCl sp tA σ H Q := h
theorem r_abs {p : Int} (h : Q (.int (if p < 0 then -p else p)) H) : rAbs [.int p] H Q := ⟨p, rfl, h⟩
theorem r_min2 {p q : Int} (h : Q (.int (if q < p then q else p)) H) : rMin2 [.int p, .int q] H Q := ⟨p, q, rfl, h⟩
theorem r_max2 {p q : Int} (h : Q (.int (if q > p then q else p)) H) : rMax2 [.int p, .int q] H Q := ⟨p, q, rfl, h⟩
theorem Cu {k : Bool} (h : Q (.int (if k then 1 else 0)) H) : rInt1 [.bl k] H Q := .inr ⟨k, rfl, h⟩
theorem r_isi {K : PySem.W.Frag} {s : String} {ty : Value} {k : Bool} (h1 : TyOf K H x ty) (h2 : PySem.W.kitOne K ty (.type s) = some k) (h : Q (.bl k) H) : rIsi K [x, .ty s] H Q := ⟨x, s, ty, k, rfl, h1, h2, h⟩
theorem Co {K : PySem.W.Frag} {p : Addr} {xs : List V} (h1 : H p = some (.lst xs)) (h : Q (.int xs.length) H) : rLen K [.ref p] H Q := ⟨p, xs, rfl, .inl (SqL.of h1), h⟩
theorem r_lenT {K : PySem.W.Frag} {p : Addr} {xs : List V} (h1 : H p = some (.tup xs)) (h : Q (.int xs.length) H) : rLen K [.ref p] H Q := ⟨p, xs, rfl, .inr (SqT.of h1), h⟩
theorem zu {K : PySem.W.Frag} {p : Addr} {xs : List V} (h1 : SqL K H p xs) (h : ∀ l, H l = none -> Q (.ref l) (upd H l (.lst xs))) : Yj K [.ref p] H Q := ⟨p, xs, rfl, .inl h1, h⟩
theorem r_ixL {K : PySem.W.Frag} {p : Addr} {xs : List V} {k : Int} (h1 : H p = some (.lst xs)) (h2 : atI xs k = some v) (h : Q v H) : rIxL K (.ref p) (.int k) H Q := ⟨p, xs, k, v, rfl, rfl, SqL.of h1, h2, h⟩
theorem r_ixT {K : PySem.W.Frag} {p : Addr} {xs : List V} {k : Int} (h1 : H p = some (.tup xs)) (h2 : atI xs k = some v) (h : Q v H) : rIxT K (.ref p) (.int k) H Q := ⟨p, xs, k, v, rfl, rfl, SqT.of h1, h2, h⟩
theorem Al {p : Addr} {xs : List V} {k : Int} {QH : Hp -> Prop} {m : Nat} (h1 : H p = some (.lst xs)) (h2 : ixN xs.length k = some m) (h : QH (upd H p (.lst (xs.set m v)))) : rSetL (.ref p) (.int k) v H QH := ⟨p, xs, k, m, rfl, rfl, h1, h2, h⟩
theorem r_bmL {K : PySem.W.Frag} {o : V -> List V -> Hp -> VK -> Prop} (h : te σ H fun x H1 => tyV K "list" x H1 /\ tA σ H1 fun xs H2 => o x xs H2 Q) : tBM K "list" o te tA σ H Q := h
theorem um {K : PySem.W.Frag} {p : Addr} {xs : List V} {R : Prop} (h1 : H p = some (.lst xs)) (h : R) : tyV K "list" (.ref p) H /\ R := ⟨.inl ⟨rfl, _, SqL.of h1⟩, h⟩
theorem Zb {p : Addr} {xs : List V} (h1 : H p = some (.lst xs)) (h2 : xs.length < sizeLine) (h : Q .non (upd H p (.lst (xs ++ [y])))) : Eo (.ref p) [y] H Q := ⟨p, xs, y, rfl, rfl, h1, h2, h⟩
theorem va {p A B : Prop} [Decidable p] (h1 : p -> A) (h2 : ¬ p -> B) : if decide p = true then A else B := ite2 (fun z => h1 (of_decide_eq_true z)) fun z => h2 fun y => z (decide_eq_true y)
theorem Gb {p A B : Prop} [Decidable p] (h1 : ¬ p -> A) (h2 : p -> B) : if (!decide p) = true then A else B := by
 by_cases z : p
 . rw [decide_eq_true z]; exact iteF (h2 z)
 . rw [decide_eq_false z]; exact iteT (h1 z)
theorem Au {A B : Prop} (h : B) : if (!true) = true then A else B := iteF h
theorem Bu {A B : Prop} (h : A) : if (!false) = true then A else B := iteT h
theorem wu {n : Nat} {R : Prop} (h1 : n <= sizeLine) (h : R) : n <= sizeLine /\ R := ⟨h1, h⟩
end
def ForR (vs : List V) (g : TG) (tb : TS) (D : Ends) (σ : St) (H : Hp) : Prop := ∃ j : Int, vs = [.int j] /\ -(2 ^ 62) <= j /\ j < 2 ^ 62 /\
 ∃ W : Nat -> Nat -> St -> Hp -> Prop, (∃ m, W 0 m σ H) /\ ∀ i m σ H, W i m σ H ->
  ((Itr 0 j.toNat).stop i H /\ D.nx σ H) \/ ((Itr 0 j.toNat).go i H /\ ∃ N : St -> Hp -> Prop, (∀ σ' H', N σ' H' -> ∃ m', m' < m /\ W (i + 1) m' σ' H') /\ ∀ x H', (Itr 0 j.toNat).yld i H x H' -> g x σ H' fun σ2 H2 => tb { D with nx := N, ct := N, bk := D.nx } σ2 H2)
theorem r_forR {tA : TA} {g : TG} {tb : TS} {D : Ends} {σ : St} {H : Hp} (h : tA σ H fun vs H1 => ForR vs g tb D σ H1) : tFor (iRng1 tA) g tb D σ H := h
theorem forR {j : Int} {g : TG} {tb : TS} {n b c : St -> Hp -> Prop} {r : VK} {σ : St} {H : Hp} (Pv : Nat -> St -> Hp -> Prop) (h1 : -(2 ^ 62) <= j) (h2 : j < 2 ^ 62) (h0 : Pv 0 σ H)
 (hs : ∀ (i : Nat) σ H, (i : Int) < j -> Pv i σ H -> g (.int (i : Int)) σ H fun σ2 H2 => tb ⟨Pv (i + 1), r, n, Pv (i + 1)⟩ σ2 H2) (hd : ∀ σ H, Pv j.toNat σ H -> n σ H) : ForR [.int j] g tb ⟨n, r, b, c⟩ σ H := by
 refine ⟨j, rfl, h1, h2, ?_⟩
 refine Ip (lo := 0) (n := j.toNat) (D := ⟨n, r, b, c⟩) Pv h0 (fun i σ H hi p => ?_) hd
 rw [Int.zero_add]
 exact hs i σ H (by omega) p
def ForL (K : PySem.W.Frag) (x : V) (g : TG) (tb : TS) (D : Ends) (σ : St) (H : Hp) : Prop := ∃ a, x = .ref a /\ (∃ xs, SqL K H a xs) /\
 ∃ W : Nat -> Nat -> St -> Hp -> Prop, (∃ m, W 0 m σ H) /\ ∀ i m σ H, W i m σ H ->
  ((Itl K a).stop i H /\ D.nx σ H) \/ ((Itl K a).go i H /\ ∃ N : St -> Hp -> Prop, (∀ σ' H', N σ' H' -> ∃ m', m' < m /\ W (i + 1) m' σ' H') /\ ∀ x H', (Itl K a).yld i H x H' -> g x σ H' fun σ2 H2 => tb { D with nx := N, ct := N, bk := D.nx } σ2 H2)
theorem r_forL {K : PySem.W.Frag} {te : TE} {g : TG} {tb : TS} {D : Ends} {σ : St} {H : Hp} (h : te σ H fun x H1 => ForL K x g tb D σ H1) : tFor (Lr K te) g tb D σ H := h
theorem forL {K : PySem.W.Frag} {a : Addr} {xs : List V} {g : TG} {tb : TS} {n b c : St -> Hp -> Prop} {r : VK} {σ : St} {H : Hp} (Pv : Nat -> St -> Hp -> Prop) (h0 : Pv 0 σ H) (hl : ∀ i σ H, i <= xs.length -> Pv i σ H -> SqL K H a xs)
 (hs : ∀ i x σ H, xs[i]? = some x -> Pv i σ H -> g x σ H fun σ2 H2 => tb ⟨Pv (i + 1), r, n, Pv (i + 1)⟩ σ2 H2) (hd : ∀ σ H, Pv xs.length σ H -> n σ H) : ForL K (.ref a) g tb ⟨n, r, b, c⟩ σ H :=
 ⟨a, rfl, ⟨xs, hl 0 σ H (Nat.zero_le _) h0⟩, Qr (D := ⟨n, r, b, c⟩) Pv h0 hl hs hd⟩
def Fr1 (d : Addr) (H H' : Hp) : Prop := ∀ b o, H b = some o -> b ≠ d -> H' b = some o
theorem Fr1.refl (d : Addr) (H : Hp) : Fr1 d H H := fun _ _ h _ => h
theorem Fr1.trans {d : Addr} {H H1 H2 : Hp} (a : Fr1 d H H1) (b : Fr1 d H1 H2) : Fr1 d H H2 := fun c o h n => b c o (a c o h n) n
theorem Fr1.upd {d : Addr} {H H' : Hp} {o : HO} (a : Fr1 d H H') : Fr1 d H (upd H' d o) := fun b u h n => by rw [Aa n]; exact a b u h n
theorem Fr1.new {d p : Addr} {H H' : Hp} {o : HO} (a : Fr1 d H H') (e : H' p = none) : Fr1 d H (L2.upd H' p o) := fun b u h n => by rw [Aa (da (a b u h n) e)]; exact a b u h n
theorem Fr1.get {d b : Addr} {H H' : Hp} {o : HO} (a : Fr1 d H H') (h : H b = some o) (n : b ≠ d) : H' b = some o := a b o h n
theorem Same.new {H H' : Hp} {p : Addr} {o : HO} (a : Same H H') (e : H' p = none) : Same H (upd H' p o) := fun b u h => by rw [Aa (da (a b u h) e)]; exact a b u h
theorem Oa {H : Hp} {a b : Addr} {o u : HO} (n : b ≠ a) (h : H b = some u) : upd H a o b = some u := by rw [Aa n]; exact h
end L2
namespace L2
open PySem PySem.Spec PyProof.Rows
inductive D where
 | v (x : V)
 | t (ds : List D)
 | l (ds : List D)
mutual
def IsD (K : PySem.W.Frag) (H : Hp) : D -> V -> Prop
 | .v x, y => ve x = true /\ y = x
 | .t ds, y => ∃ p xs, y = .ref p /\ SqT K H p xs /\ IsDs K H ds xs
 | .l ds, y => ∃ p xs, y = .ref p /\ SqL K H p xs /\ IsDs K H ds xs
def IsDs (K : PySem.W.Frag) (H : Hp) : List D -> List V -> Prop
 | [], xs => xs = []
 | d :: ds, xs => ∃ x r, xs = x :: r /\ IsD K H d x /\ IsDs K H ds r
end
mutual
def eqD : D -> D -> Bool
 | .v a, .v b => eqV a b
 | .t as, .t bs => eqDs as bs
 | .l as, .l bs => eqDs as bs
 | _, _ => false
def eqDs : List D -> List D -> Bool
 | [], [] => true
 | a :: as, b :: bs => eqD a b && eqDs as bs
 | _, _ => false
end
mutual
def dep : D -> Nat
 | .v _ => 0
 | .t ds => deps ds + 1
 | .l ds => deps ds + 1
def deps : List D -> Nat
 | [] => 0
 | d :: ds => max (dep d) (deps ds)
end
theorem IsDs.length {K : PySem.W.Frag} {H : Hp} : ∀ {ds : List D} {xs : List V}, IsDs K H ds xs -> ds.length = xs.length
 | [], xs, h => by unfold IsDs at h; subst h; rfl
 | d :: ds, xs, h => by
  unfold IsDs at h
  obtain ⟨x, r, rfl, _, h2⟩ := h
  rw [List.length_cons, List.length_cons, IsDs.length h2]
theorem IsDs.get {K : PySem.W.Frag} {H : Hp} : ∀ {ds : List D} {xs : List V} {j : Nat} {x : V}, IsDs K H ds xs -> xs[j]? = some x -> ∃ d, ds[j]? = some d /\ IsD K H d x
 | [], xs, j, x, h, e => by unfold IsDs at h; subst h; simp at e
 | d :: ds, xs, j, x, h, e => by
  unfold IsDs at h
  obtain ⟨y, r, rfl, h1, h2⟩ := h
  cases j with
  | zero => simp at e; subst e; exact ⟨d, by simp, h1⟩
  | succ j => obtain ⟨d', q, h3⟩ := IsDs.get (j := j) (x := x) h2 (by simpa using e); exact ⟨d', by simpa using q, h3⟩
theorem kg : ∀ {ds : List D} {j : Nat} {d : D}, ds[j]? = some d -> dep d <= deps ds
 | [], j, d, e => by simp at e
 | a :: ds, 0, d, e => by simp at e; subst e; unfold deps; exact Nat.le_max_left _ _
 | a :: ds, j + 1, d, e => by
  have := kg (ds := ds) (j := j) (d := d) (by simpa using e)
  unfold deps
  exact Nat.le_trans this (Nat.le_max_right _ _)
def rj (ds es : List D) (j : Nat) : Bool := match ds[j]?, es[j]? with
 | some d, some e => eqD d e
 | _, _ => false
theorem Ve : ∀ (ds es : List D), ds.length = es.length -> (List.range ds.length).all (rj ds es) = eqDs ds es
 | [], [], _ => by simp [eqDs]
 | [], _ :: _, h => by simp at h
 | _ :: _, [], h => by simp at h
 | d :: ds, e :: es, h => by
  have ih := Ve ds es (by simpa using h)
  unfold eqDs
  rw [<- ih, List.length_cons, List.range_succ_eq_map, List.all_cons, List.all_map]
  have e1 : rj (d :: ds) (e :: es) 0 = eqD d e := by simp [rj]
  rw [e1]
  congr 1
theorem Di : ∀ (ds es : List D), ds.length ≠ es.length -> eqDs ds es = false
 | [], [], h => absurd rfl h
 | [], _ :: _, _ => by simp [eqDs]
 | _ :: _, [], _ => by simp [eqDs]
 | d :: ds, e :: es, h => by
  unfold eqDs
  rw [Di ds es (by simpa using h), Bool.and_false]
theorem Ur {x : V} (h : ve x = true) : eqV x x = true := by
 cases x <;> simp [eqV] <;> cases h
mutual
theorem Vr {K : PySem.W.Frag} {H : Hp} : ∀ {d : D} {x : V}, IsD K H d x -> eqD d d = true
 | .v y, x, h => by unfold IsD at h; unfold eqD; exact Ur h.1
 | .t ds, x, h => by unfold IsD at h; obtain ⟨p, xs, _, _, h⟩ := h; unfold eqD; exact ud h
 | .l ds, x, h => by unfold IsD at h; obtain ⟨p, xs, _, _, h⟩ := h; unfold eqD; exact ud h
theorem ud {K : PySem.W.Frag} {H : Hp} : ∀ {ds : List D} {xs : List V}, IsDs K H ds xs -> eqDs ds ds = true
 | [], _, _ => by unfold eqDs; rfl
 | d :: ds, xs, h => by
  unfold IsDs at h
  obtain ⟨x, r, _, h1, h2⟩ := h
  unfold eqDs
  rw [Vr h1, ud h2]; rfl
end
section
variable {X : Cx} {pins : List (Addr × Obj)} {σ : St} {H : Hp} {s : Shared}
theorem Sd {a : Addr} {xs ys : List V} (I : Inv X pins σ H s) (h : SqL X.K H a xs) (h' : SqT X.K H a ys) : False := by
 obtain ⟨_, _, ⟨o, n, e, c, _⟩, _⟩ := I.list h
 obtain ⟨_, _, ⟨o', e', c', _⟩, _⟩ := I.tuple h'
 rw [e] at e'; cases e'
 rw [c] at c'
 injection c' with c'
 exact absurd c' (by decide)
mutual
theorem sk (I : Inv X pins σ H s) : ∀ {d e : D} {x : V}, IsD X.K H d x -> IsD X.K H e x -> d = e
 | .v y, e, x, h, h' => by
  unfold IsD at h
  obtain ⟨f, rfl⟩ := h
  cases e with
  | v z => unfold IsD at h'; rw [h'.2]
  | t es => unfold IsD at h'; obtain ⟨p, _, rfl, _⟩ := h'; cases f
  | l es => unfold IsD at h'; obtain ⟨p, _, rfl, _⟩ := h'; cases f
 | .t ds, e, x, h, h' => by
  unfold IsD at h
  obtain ⟨p, xs, rfl, hs, hd⟩ := h
  cases e with
  | v z => unfold IsD at h'; obtain ⟨f, q⟩ := h'; subst q; cases f
  | t es =>
   unfold IsD at h'
   obtain ⟨p', xs', q, hs', hd'⟩ := h'
   cases q
   have := I.Vm hs hs'
   subst this
   rw [xi I hd hd']
  | l es =>
   unfold IsD at h'
   obtain ⟨p', xs', q, hs', hd'⟩ := h'
   cases q
   exact (Sd I hs' hs).elim
 | .l ds, e, x, h, h' => by
  unfold IsD at h
  obtain ⟨p, xs, rfl, hs, hd⟩ := h
  cases e with
  | v z => unfold IsD at h'; obtain ⟨f, q⟩ := h'; subst q; cases f
  | t es =>
   unfold IsD at h'
   obtain ⟨p', xs', q, hs', hd'⟩ := h'
   cases q
   exact (Sd I hs hs').elim
  | l es =>
   unfold IsD at h'
   obtain ⟨p', xs', q, hs', hd'⟩ := h'
   cases q
   have := I.Kl hs hs'
   subst this
   rw [xi I hd hd']
theorem xi (I : Inv X pins σ H s) : ∀ {ds es : List D} {xs : List V}, IsDs X.K H ds xs -> IsDs X.K H es xs -> ds = es
 | [], es, xs, h, h' => by
  unfold IsDs at h
  subst h
  cases es with
  | nil => rfl
  | cons e es => unfold IsDs at h'; obtain ⟨x, r, q, _⟩ := h'; cases q
 | d :: ds, es, xs, h, h' => by
  unfold IsDs at h
  obtain ⟨x, r, rfl, h1, h2⟩ := h
  cases es with
  | nil => unfold IsDs at h'; cases h'
  | cons e es =>
   unfold IsDs at h'
   obtain ⟨x', r', q, h3, h4⟩ := h'
   cases q
   rw [sk I h1 h3, xi I h2 h4]
end
theorem Pl {A : Around} {ds es : List D} {xs ys : List V} {us vs : List Value} (hd : IsDs X.K H ds xs) (he : IsDs X.K H es ys) (rx : Vals xs us) (ry : Vals ys vs)
 (ih : ∀ d e x y u v, dep d <= deps ds -> IsD X.K H d x -> IsD X.K H e y -> RelV x u -> RelV y v -> SeqAt.EqAt A s u v (eqD d e)) :
 ∀ j (h1 : j < us.toArray.size) (h2 : j < vs.toArray.size), SeqAt.EqAt A s us.toArray[j] vs.toArray[j] (rj ds es j) := by
 intro j h1 h2
 have h1' : j < us.length := by simpa using h1
 have h2' : j < vs.length := by simpa using h2
 obtain ⟨x, ex⟩ : ∃ x, xs[j]? = some x := ⟨xs[j]'(by rw [rx.length]; exact h1'), List.getElem?_eq_getElem _⟩
 obtain ⟨y, ey⟩ : ∃ y, ys[j]? = some y := ⟨ys[j]'(by rw [ry.length]; exact h2'), List.getElem?_eq_getElem _⟩
 obtain ⟨u, eu, ru⟩ := rx.get ex
 obtain ⟨v, ev, rv⟩ := ry.get ey
 obtain ⟨d, ed, id1⟩ := hd.get ex
 obtain ⟨e, ee, id2⟩ := he.get ey
 have q1 : us.toArray[j] = u := by
  rw [List.getElem?_eq_getElem h1'] at eu
  simpa using Option.some.inj eu
 have q2 : vs.toArray[j] = v := by
  rw [List.getElem?_eq_getElem h2'] at ev
  simpa using Option.some.inj ev
 rw [q1, q2]
 have q3 : rj ds es j = eqD d e := by unfold rj; rw [ed, ee]
 rw [q3]
 exact ih d e x y u v (kg ed) id1 id2 ru rv
theorem zl {A : Around} {ds es : List D} {xs ys : List V} {p q : Addr} (I : Inv X pins σ H s) (hp : SqL X.K H p xs) (hq : SqL X.K H q ys) (hd : IsDs X.K H ds xs) (he : IsDs X.K H es ys) (hu : A.units < cLine)
 (ih : ∀ d e x y u v, dep d <= deps ds -> IsD X.K H d x -> IsD X.K H e y -> RelV x u -> RelV y v -> SeqAt.EqAt A.in1 s u v (eqD d e)) : SeqAt.RcAt A s (.ref p) (.ref q) (eqDs ds es) /\ SeqAt.RcNeAt A s (.ref p) (.ref q) (!eqDs ds es) := by
 obtain ⟨us, rx, lp, _⟩ := I.list hp
 obtain ⟨vs, ry, lq, _⟩ := I.list hq
 have l1 := hd.length
 have l2 := he.length
 have l3 := rx.length
 have l4 := ry.length
 by_cases hl : ds.length = es.length
 . have it := Pl (A := A.in1) hd he rx ry ih
   have sz : us.toArray.size = vs.toArray.size := by simp only [List.size_toArray]; omega
   have e1 : (List.range us.toArray.size).all (rj ds es) = eqDs ds es := by
    have : us.toArray.size = ds.length := by simp only [List.size_toArray]; omega
    rw [this]; exact Ve ds es hl
   have a := SeqAt.RcAt.lists lp.isList lq.isList sz hu it
   have b := SeqAt.RcNeAt.lists lp.isList lq.isList sz hu it
   rw [e1] at a b
   exact ⟨a, b⟩
 . have sz : (us.toArray.size != vs.toArray.size) = true := by
    simp only [List.size_toArray, bne_iff_ne, ne_eq]; omega
   rw [Di ds es hl]
   exact ⟨SeqAt.RcAt.lists_lengths lp.isList lq.isList sz hu, SeqAt.RcNeAt.lists_lengths lp.isList lq.isList sz hu⟩
theorem Zi {A : Around} {ds es : List D} {xs ys : List V} {p q : Addr} (I : Inv X pins σ H s) (hp : SqT X.K H p xs) (hq : SqT X.K H q ys) (hd : IsDs X.K H ds xs) (he : IsDs X.K H es ys) (hu : A.units < cLine)
 (ih : ∀ d e x y u v, dep d <= deps ds -> IsD X.K H d x -> IsD X.K H e y -> RelV x u -> RelV y v -> SeqAt.EqAt A.in1 s u v (eqD d e)) : SeqAt.RcAt A s (.ref p) (.ref q) (eqDs ds es) /\ SeqAt.RcNeAt A s (.ref p) (.ref q) (!eqDs ds es) := by
 obtain ⟨us, rx, lp, _⟩ := I.tuple hp
 obtain ⟨vs, ry, lq, _⟩ := I.tuple hq
 have l1 := hd.length
 have l2 := he.length
 have l3 := rx.length
 have l4 := ry.length
 have it := Pl (A := A.in1) hd he rx ry ih
 have a := SeqAt.RcAt.tuples (A := A) (s := s) lp lq hu it
 have b := SeqAt.RcNeAt.tuples (A := A) (s := s) lp lq hu it
 have e1 : ((List.range (min us.toArray.size vs.toArray.size)).all (rj ds es) && us.toArray.size == vs.toArray.size) = eqDs ds es := by
  by_cases hl : ds.length = es.length
  . have q1 : min us.toArray.size vs.toArray.size = ds.length := by simp only [List.size_toArray]; omega
    have q2 : (us.toArray.size == vs.toArray.size) = true := by simp only [List.size_toArray, beq_iff_eq]; omega
    rw [q1, q2, Bool.and_true]
    exact Ve ds es hl
  . have q2 : (us.toArray.size == vs.toArray.size) = false := by simp only [List.size_toArray, beq_eq_false_iff_ne, ne_eq]; omega
    rw [q2, Bool.and_false, Di ds es hl]
 rw [e1] at a b
 exact ⟨a, b⟩
theorem vu {A : Around} {y x : V} {u v : Value} (ry : RelV y u) (rx : RelV x v) (fy : ve y = true) (fx : ve x = true) : SeqAt.RcAt A s u v (eqV y x) /\ SeqAt.RcNeAt A s u v (!eqV y x) := by
 cases y with
 | non =>
  cases ry
  cases x with
  | non => cases rx; exact ⟨SeqAt.RcAt.none_none, SeqAt.RcNeAt.none_none⟩
  | bl b => cases rx; exact ⟨SeqAt.RcAt.none_bool b, SeqAt.RcNeAt.none_bool b⟩
  | int b => obtain ⟨t, rfl⟩ := rx; exact ⟨SeqAt.RcAt.none_int b t, SeqAt.RcNeAt.none_int b t⟩
  | str b => obtain ⟨t, rfl⟩ := rx; exact ⟨SeqAt.RcAt.none_str b t, SeqAt.RcNeAt.none_str b t⟩
  | _ => exact absurd (show false = true from fx) Bool.false_ne_true
 | bl a =>
  cases ry
  cases x with
  | non => cases rx; exact ⟨SeqAt.RcAt.bool_none a, SeqAt.RcNeAt.bool_none a⟩
  | bl b => cases rx; exact ⟨SeqAt.RcAt.bool_bool a b, SeqAt.RcNeAt.bool_bool a b⟩
  | int b => obtain ⟨t, rfl⟩ := rx; exact ⟨SeqAt.RcAt.bool_int a b t, SeqAt.RcNeAt.bool_int a b t⟩
  | str b => obtain ⟨t, rfl⟩ := rx; exact ⟨SeqAt.RcAt.bool_str a b t, SeqAt.RcNeAt.bool_str a b t⟩
  | _ => exact absurd (show false = true from fx) Bool.false_ne_true
 | int a =>
  obtain ⟨t', rfl⟩ := ry
  cases x with
  | non => cases rx; exact ⟨SeqAt.RcAt.int_none a t', SeqAt.RcNeAt.int_none a t'⟩
  | bl b => cases rx; exact ⟨SeqAt.RcAt.int_bool a t' b, SeqAt.RcNeAt.int_bool a t' b⟩
  | int b => obtain ⟨t, rfl⟩ := rx; exact ⟨SeqAt.RcAt.int_int a t' b t, SeqAt.RcNeAt.int_int a t' b t⟩
  | str b => obtain ⟨t, rfl⟩ := rx; exact ⟨SeqAt.RcAt.int_str a t' b t, SeqAt.RcNeAt.int_str a t' b t⟩
  | _ => exact absurd (show false = true from fx) Bool.false_ne_true
 | str a =>
  obtain ⟨t', rfl⟩ := ry
  cases x with
  | non => cases rx; exact ⟨SeqAt.RcAt.str_none a t', SeqAt.RcNeAt.str_none a t'⟩
  | bl b => cases rx; exact ⟨SeqAt.RcAt.str_bool a t' b, SeqAt.RcNeAt.str_bool a t' b⟩
  | int b => obtain ⟨t, rfl⟩ := rx; exact ⟨SeqAt.RcAt.str_int a t' b t, SeqAt.RcNeAt.str_int a t' b t⟩
  | str b => obtain ⟨t, rfl⟩ := rx; exact ⟨SeqAt.RcAt.str_str a t' b t, SeqAt.RcNeAt.str_str a t' b t⟩
  | _ => exact absurd (show false = true from fx) Bool.false_ne_true
 | _ => exact absurd (show false = true from fy) Bool.false_ne_true
theorem Mc {A : Around} {p : Addr} {xs : List V} {x : V} {v : Value} (I : Inv X pins σ H s) (hp : SqT X.K H p xs) (rx : RelV x v) (fx : ve x = true) (hu : A.units < cLine) : SeqAt.EqAt A s (.ref p) v false /\ SeqAt.EqAt A s v (.ref p) false := by
 obtain ⟨us, _, lp, _⟩ := I.tuple hp
 cases x with
 | non => cases rx; exact ⟨SeqAt.EqAt.tuple_none lp hu, SeqAt.EqAt.none_tuple lp hu⟩
 | bl b => cases rx; exact ⟨SeqAt.EqAt.tuple_bool b lp hu, SeqAt.EqAt.bool_tuple b lp hu⟩
 | int b => obtain ⟨t, rfl⟩ := rx; exact ⟨SeqAt.EqAt.tuple_int b t lp hu, SeqAt.EqAt.int_tuple b t lp hu⟩
 | str b => obtain ⟨t, rfl⟩ := rx; exact ⟨SeqAt.EqAt.tuple_str b t lp hu, SeqAt.EqAt.str_tuple b t lp hu⟩
 | _ => exact absurd (show false = true from fx) Bool.false_ne_true
theorem sd {A : Around} {p : Addr} {xs : List V} {x : V} {v : Value} (I : Inv X pins σ H s) (hp : SqL X.K H p xs) (rx : RelV x v) (fx : ve x = true) (hu : A.units < cLine) : SeqAt.EqAt A s (.ref p) v false /\ SeqAt.EqAt A s v (.ref p) false := by
 obtain ⟨us, _, lp, _⟩ := I.list hp
 cases x with
 | non => cases rx; exact ⟨SeqAt.EqAt.list_none lp.isList hu, SeqAt.EqAt.none_list lp.isList hu⟩
 | bl b => cases rx; exact ⟨SeqAt.EqAt.list_bool b lp.isList hu, SeqAt.EqAt.bool_list b lp.isList hu⟩
 | int b => obtain ⟨t, rfl⟩ := rx; exact ⟨SeqAt.EqAt.list_int b t lp.isList hu, SeqAt.EqAt.int_list b t lp.isList hu⟩
 | str b => obtain ⟨t, rfl⟩ := rx; exact ⟨SeqAt.EqAt.list_str b t lp.isList hu, SeqAt.EqAt.str_list b t lp.isList hu⟩
 | _ => exact absurd (show false = true from fx) Bool.false_ne_true
theorem Nt (I : Inv X pins σ H s) : ∀ (n : Nat) (d e : D) (x y : V) (u v : Value) (A : Around), dep d <= n -> A.units + n < cLine -> IsD X.K H d x -> IsD X.K H e y -> RelV x u -> RelV y v -> SeqAt.EqAt A s u v (eqD d e) := by
 intro n
 induction n with
 | zero =>
  intro d e x y u v A hn hu h h' ru rv
  cases d with
  | t ds => unfold dep at hn; omega
  | l ds => unfold dep at hn; omega
  | v x' =>
   unfold IsD at h
   obtain ⟨fx, rfl⟩ := h
   cases e with
   | v y' => unfold IsD at h'; obtain ⟨fy, rfl⟩ := h'; unfold eqD; exact Lp ru rv fx fy
   | t es => unfold IsD at h'; obtain ⟨p, ys, rfl, hs, _⟩ := h'; cases rv; unfold eqD; exact (Mc I hs ru fx (by omega)).2
   | l es => unfold IsD at h'; obtain ⟨p, ys, rfl, hs, _⟩ := h'; cases rv; unfold eqD; exact (sd I hs ru fx (by omega)).2
 | succ n ihn =>
  intro d e x y u v A hn hu h h' ru rv
  have hin : A.in1.units = A.units + 1 := rfl
  cases d with
  | v x' =>
   unfold IsD at h
   obtain ⟨fx, rfl⟩ := h
   cases e with
   | v y' => unfold IsD at h'; obtain ⟨fy, rfl⟩ := h'; unfold eqD; exact Lp ru rv fx fy
   | t es => unfold IsD at h'; obtain ⟨p, ys, rfl, hs, _⟩ := h'; cases rv; unfold eqD; exact (Mc I hs ru fx (by omega)).2
   | l es => unfold IsD at h'; obtain ⟨p, ys, rfl, hs, _⟩ := h'; cases rv; unfold eqD; exact (sd I hs ru fx (by omega)).2
  | t ds =>
   have hd0 := h
   unfold IsD at h
   obtain ⟨p, xs, rfl, hs, hd⟩ := h
   cases ru
   unfold dep at hn
   cases e with
   | v y' => unfold IsD at h'; obtain ⟨fy, rfl⟩ := h'; unfold eqD; exact (Mc I hs rv fy (by omega)).1
   | t es =>
    have hd0' := h'
    unfold IsD at h'
    obtain ⟨q, ys, rfl, hs', hd'⟩ := h'
    cases rv
    unfold eqD
    by_cases hpq : p = q
    . subst hpq
      have e1 := sk I hd0 hd0'
      injection e1 with e1
      subst e1
      rw [ud hd]
      exact SeqAt.EqAt.same _
    . exact .of_refs hpq (Zi I hs hs' hd hd' (by omega) fun d e x y u v hj h1 h2 r1 r2 => ihn d e x y u v A.in1 (by omega) (by omega) h1 h2 r1 r2).1
   | l es =>
    unfold IsD at h'
    obtain ⟨q, ys, rfl, hs', hd'⟩ := h'
    cases rv
    unfold eqD
    obtain ⟨_, _, lp, _⟩ := I.tuple hs
    obtain ⟨_, _, lq, _⟩ := I.list hs'
    exact SeqAt.EqAt.tuple_list lp lq.isList (by omega)
  | l ds =>
   have hd0 := h
   unfold IsD at h
   obtain ⟨p, xs, rfl, hs, hd⟩ := h
   cases ru
   unfold dep at hn
   cases e with
   | v y' => unfold IsD at h'; obtain ⟨fy, rfl⟩ := h'; unfold eqD; exact (sd I hs rv fy (by omega)).1
   | l es =>
    have hd0' := h'
    unfold IsD at h'
    obtain ⟨q, ys, rfl, hs', hd'⟩ := h'
    cases rv
    unfold eqD
    by_cases hpq : p = q
    . subst hpq
      have e1 := sk I hd0 hd0'
      injection e1 with e1
      subst e1
      rw [ud hd]
      exact SeqAt.EqAt.same _
    . exact .of_refs hpq (zl I hs hs' hd hd' (by omega) fun d e x y u v hj h1 h2 r1 r2 => ihn d e x y u v A.in1 (by omega) (by omega) h1 h2 r1 r2).1
   | t es =>
    unfold IsD at h'
    obtain ⟨q, ys, rfl, hs', hd'⟩ := h'
    cases rv
    unfold eqD
    obtain ⟨_, _, lp, _⟩ := I.list hs
    obtain ⟨_, _, lq, _⟩ := I.tuple hs'
    exact SeqAt.EqAt.list_tuple lp.isList lq (by omega)
def nu : D -> D -> Bool
 | .v _, .v _ => true
 | .t _, .t _ => true
 | .l _, .l _ => true
 | _, _ => false
def rEqD (K : PySem.W.Frag) (neg : Bool) : R2 := fun x y H Q => ∃ d e, nu d e = true /\ dep d <= 40 /\ IsD K H d x /\ IsD K H e y /\ Q (.bl (if neg then !eqD d e else eqD d e)) H
theorem rc_D (I : Inv X pins σ H s) {d e : D} {x y : V} {u v : Value} {A : Around} (hk : nu d e = true) (hn : dep d <= 40) (hu : A.units + 64 < cLine) (h : IsD X.K H d x) (h' : IsD X.K H e y) (ru : RelV x u) (rv : RelV y v) :
 SeqAt.RcAt A s u v (eqD d e) /\ SeqAt.RcNeAt A s u v (!eqD d e) := by
 have hin : A.in1.units = A.units + 1 := rfl
 cases d with
 | v x' =>
  cases e with
  | v y' => unfold IsD at h h'; obtain ⟨fx, rfl⟩ := h; obtain ⟨fy, rfl⟩ := h'; unfold eqD; exact vu ru rv fx fy
  | t es => cases hk
  | l es => cases hk
 | t ds =>
  cases e with
  | v y' => cases hk
  | l es => cases hk
  | t es =>
   unfold IsD at h h'
   obtain ⟨p, xs, rfl, hs, hd⟩ := h
   obtain ⟨q, ys, rfl, hs', hd'⟩ := h'
   cases ru
   cases rv
   unfold dep at hn
   unfold eqD
   exact Zi I hs hs' hd hd' (by omega) fun d e x y u v hj h1 h2 r1 r2 => Nt I 40 d e x y u v A.in1 (by omega) (by omega) h1 h2 r1 r2
 | l ds =>
  cases e with
  | v y' => cases hk
  | t es => cases hk
  | l es =>
   unfold IsD at h h'
   obtain ⟨p, xs, rfl, hs, hd⟩ := h
   obtain ⟨q, ys, rfl, hs', hd'⟩ := h'
   cases ru
   cases rv
   unfold dep at hn
   unfold eqD
   exact zl I hs hs' hd hd' (by omega) fun d e x y u v hj h1 h2 r1 r2 => Nt I 40 d e x y u v A.in1 (by omega) (by omega) h1 h2 r1 r2
end
section
variable {X : Cx}
theorem op_eqD (hu : X.A.units + 64 < cLine) : OpR X (compareOp .Eq) (rEqD X.K false) := by
 intro pins s σ H x y v u Q I rx ry h
 obtain ⟨d, e, hk, hn, h1, h2, q⟩ := h
 exact (rc_D I hk hn hu h1 h2 rx ry).1 _ _ _ _ ⟨.bl (eqD d e), H, I, rfl, q⟩
theorem op_neD (hu : X.A.units + 64 < cLine) : OpR X (compareOp .NotEq) (rEqD X.K true) := by
 intro pins s σ H x y v u Q I rx ry h
 obtain ⟨d, e, hk, hn, h1, h2, q⟩ := h
 exact (rc_D I hk hn hu h1 h2 rx ry).2 _ _ _ _ ⟨.bl (!eqD d e), H, I, rfl, q⟩
def gr (K : PySem.W.Frag) : R2 := fun x y H Q => rI0 (fun i j => .int (i + j)) x y H Q \/ rCat x y H Q \/ rCatT K x y H Q \/ (∃ i j, x = .str i /\ y = .str j /\ i.length + j.length <= sizeLine /\ Q (.str (i ++ j)) H)
theorem Tu : OpR X (binaryOp .Add) (gr X.K) := op_add.or (op_cat.or (So.or wm))
def Ku : R2 := fun x y H Q => rI qf (fun i j => .int (i * j)) x y H Q \/ rRep x y H Q
theorem wb : OpR X (binaryOp .Mult) Ku := Ru.or op_rep
def rEqA (K : PySem.W.Frag) : R2 := fun x y H Q => rEq x y H Q \/ rEqD K false x y H Q
theorem op_eqA (hu : X.A.units + 64 < cLine) : OpR X (compareOp .Eq) (rEqA X.K) := op_eq.or (op_eqD hu)
def rNeA (K : PySem.W.Frag) : R2 := fun x y H Q => rNe x y H Q \/ rEqD K true x y H Q
theorem op_neA (hu : X.A.units + 64 < cLine) : OpR X (compareOp .NotEq) (rNeA X.K) := op_ne.or (op_neD hu)
def rIx2 (K : PySem.W.Frag) : R2 := fun x y H Q => rIxL K x y H Q \/ rIxT K x y H Q
theorem ix_2 : IxR X (rIx2 X.K) := sv.or ix_tup
end
section
variable {K : PySem.W.Frag} {H : Hp} {Q : VK} {v : V}
theorem r_addI {p q : Int} (h : Q (.int (p + q)) H) : gr K (.int p) (.int q) H Q := .inl (br h)
theorem r_addL {a b : Addr} {xs ys : List V} (h1 : H a = some (.lst xs)) (h2 : H b = some (.lst ys)) (h3 : xs.length + ys.length <= sizeLine) (h : ∀ p, H p = none -> Q (.ref p) (upd H p (.lst (xs ++ ys)))) : gr K (.ref a) (.ref b) H Q := .inr (.inl ⟨a, b, xs, ys, rfl, rfl, h1, h2, h3, h⟩)
theorem ah {p q : Int} (hc : qf p q) (h : Q (.int (p * q)) H) : Ku (.int p) (.int q) H Q := .inl (r_rI hc h)
theorem r_eqI {p q : Int} (h : Q (.bl (decide (p = q))) H) : rEqA K (.int p) (.int q) H Q := .inl (r_rEqI h)
theorem r_neI {p q : Int} (h : Q (.bl (!decide (p = q))) H) : rNeA K (.int p) (.int q) H Q := .inl (r_rNeI h)
theorem r_eqS {p q : Str} (h : Q (.bl (decide (p = q))) H) : rEqA K (.str p) (.str q) H Q := .inl (r_rEqS h)
theorem r_neS {p q : Str} (h : Q (.bl (!decide (p = q))) H) : rNeA K (.str p) (.str q) H Q := .inl (r_rNeS h)
theorem r_eqDt {x y : V} (d e : D) (hk : nu d e = true) (hn : dep d <= 40) (h1 : IsD K H d x) (h2 : IsD K H e y) (h : Q (.bl (eqD d e)) H) : rEqA K x y H Q := .inr ⟨d, e, hk, hn, h1, h2, h⟩
theorem Fb {p : Addr} {xs : List V} {k : Int} (h1 : H p = some (.lst xs)) (h2 : atI xs k = some v) (h : Q v H) : rIx2 K (.ref p) (.int k) H Q := .inl (r_ixL h1 h2 h)
theorem Yb {p : Addr} {xs : List V} {k : Int} (h1 : H p = some (.tup xs)) (h2 : atI xs k = some v) (h : Q v H) : rIx2 K (.ref p) (.int k) H Q := .inr (r_ixT h1 h2 h)
end
def tTru (K : PySem.W.Frag) (ta : TE) : TT := fun σ H Q => ta σ H fun x H' => ∃ k, TruV K x H' k /\ Q k H'
theorem pt_tru {X : Cx} {a : Expr} {ta : TE} (ha : PE X a ta) (he : ∀ whole, isTrue a X.env whole = (do let v <- whole; standAt a.pos; holding [v] (truthy v)) := by intro _; first | rfl | with_unfolding_all rfl) : PT X a (tTru X.K ta) := ir ha he
section
variable {K : PySem.W.Frag} {H : Hp} {σ : St} {QB : Bool -> Hp -> Prop} {te : TE}
theorem r_tru (h : te σ H fun x H' => ∃ k, TruV K x H' k /\ QB k H') : tTru K te σ H QB := h
theorem r_truI {p : Int} {P : Bool -> Prop} (h : P (!decide (p = 0))) : ∃ k, TruV K (.int p) H k /\ P k := ⟨_, show _ = (p != 0) from rfl, by
 have e : (p != 0) = !decide (p = 0) := by by_cases z : p = 0 <;> simp [z]
 rw [e]; exact h⟩
theorem r_truB {b : Bool} {P : Bool -> Prop} (h : P b) : ∃ k, TruV K (.bl b) H k /\ P k := ⟨b, rfl, h⟩
theorem jt {p : Addr} {xs : List V} {P : Bool -> Prop} (h1 : H p = some (.lst xs)) (h : P (!xs.isEmpty)) : ∃ k, TruV K (.ref p) H k /\ P k := ⟨_, .inl ⟨xs, SqL.of h1, rfl⟩, h⟩
end
def Zd (ns : List Int) : List D := ns.map fun n => D.v (.int n)
theorem fg {K : PySem.W.Frag} {H : Hp} : ∀ (ns : List Int), IsDs K H (Zd ns) (ns.map V.int)
 | [] => by unfold Zd IsDs; rfl
 | n :: ns => by
  show IsDs K H (D.v (.int n) :: Zd ns) (V.int n :: ns.map V.int)
  unfold IsDs
  exact ⟨_, _, rfl, by unfold IsD; exact ⟨rfl, rfl⟩, fg ns⟩
theorem qj : ∀ (ns ms : List Int), eqDs (Zd ns) (Zd ms) = decide (ns = ms)
 | [], [] => by simp [Zd, eqDs]
 | [], _ :: _ => by simp [Zd, eqDs]
 | _ :: _, [] => by simp [Zd, eqDs]
 | n :: ns, m :: ms => by
  show eqDs (D.v (.int n) :: Zd ns) (D.v (.int m) :: Zd ms) = _
  unfold eqDs
  rw [qj ns ms]
  unfold eqD eqV
  by_cases h1 : n = m <;> by_cases h2 : ns = ms <;> simp [h1, h2]
theorem tj : ∀ (ns : List Int), deps (Zd ns) = 0
 | [] => by simp [Zd, deps]
 | n :: ns => by
  show deps (D.v (.int n) :: Zd ns) = 0
  unfold deps
  rw [tj ns]
  simp [dep]
end L2
namespace L2
open PySem PySem.Spec PyProof.Rows
section
variable {H : Hp} {Q : VK}
theorem yu (h : Q (.int 1000000000000000000) H) : rI CPow (fun i j => .int (i ^ j.toNat)) (.int 10) (.int 18) H Q := ⟨10, 18, rfl, rfl, ⟨by decide, by decide, by decide⟩, h⟩
end
theorem ag {H : Hp} {a b : Addr} {o u : HO} (h : H a = some o) (h' : H b = some u) (d : o ≠ u) : a ≠ b := ne_of h h' d
theorem Ef {xs ys : List V} : HO.tup xs ≠ HO.lst ys := fun h => HO.noConfusion h
theorem Wl {α : Type} {xs : List α} {i : Int} (h0 : 0 <= i) (h1 : i < xs.length) : atI xs i = xs[i.toNat]? := by
 unfold atI ixN
 rw [if_pos h0, if_pos h1]; rfl
theorem As {ns : List Int} {i : Int} (h0 : 0 <= i) (h1 : i < ns.length) : atI (ns.map V.int) i = some (.int (ns.getD i.toNat 0)) := by
 rw [Wl h0 (by rw [List.length_map]; exact h1), List.getElem?_map, List.getD_eq_getElem?_getD]
 have : i.toNat < ns.length := by omega
 rw [List.getElem?_eq_getElem this]; rfl
theorem up_mk {K : PySem.W.Frag} {h : Heap} {mg : Str -> Option Value} {x : Str} {st : Stmt} {ps : List Str} {f : Addr} {oc : Value} {od an : Option Addr} {osl : Array (Option Value)} {kV doc pm cdv ct : Value} (X : K.In h) (G : h.Ns mainGlobals mg)
 (a : PySem.W.nsIn K mainGlobals x = some (some (.ref f))) (l : K.lookup f = some ⟨oc, od, .func (PySem.W.fnOf x x (Nc st) (Ba st) (ua st) .none kV doc pm an cdv ct), osl⟩)
 (c : PySem.W.codeIn K cdv x = true) (k : PySem.W.keepIn K (.ref f) = true)
 (b : ∀ (kV doc pm : Value) (an : Option Addr) (cdv ct : Value) (us : List Value), us.length = ps.length -> bindArgs (PySem.W.fnOf x x (Nc st) (Ba st) (ua st) .none kV doc pm an cdv ct) ⟨us, []⟩ = pure (ps.zip us)) : Up K mg x st ps := by
 have F := fun_mk (x := x) (qual := x) (st := st) l c k
 exact ⟨f, _, F, PySem.W.mg_of X G a, F.binds b⟩
def Jn (K : PySem.W.Frag) : Sp := fun vs H Q _ => ∃ (a : Addr) (ns : List Int), vs = [.ref a] /\ SqL K H a (ns.map V.int) /\ ns.length <= 63 /\ ∀ H', Q (.bl true) H'
theorem Gn {K : PySem.W.Frag} {vs : List V} {H : Hp} {Q : VK} {E : XK} (h : Jn K vs H Q E) : vs.length = 1 := by
 obtain ⟨a, ns, rfl, _⟩ := h; rfl
theorem walkC {l : PySem.W.OpenLaw} {k : Nat} {q : Program} {loose : List Str} {XP : (Str -> Option Value) -> Heap -> Prop} {YP : World -> Heap -> Prop} {d : DefRec} {K : Params -> PySem.W.Frag} {x : Str} (hn : l.most = some 63) (hdf : d.params.defaults = []) (hr : Room k callerA)
 (hY : ∀ (w : World) (h : Heap), YP w h -> (K w.params).In h)
 (F : ∀ (w : World) (mg : Str -> Option Value) (fa : Addr) (h : Heap), (K w.params).In h -> h.Ns mainGlobals mg -> mg d.name = some (.ref fa) ->
   ∃ fd : FuncData, (∀ (s : Shared) (u : Value), BindsTo s fd ⟨[u], []⟩ [(x, u)]) /\ ∀ base : Heap, (K w.params).In base -> base.Ns mainGlobals mg -> FnOk l.prog w (K w.params) mg base CX0 k fa fd [x] (Jn (K w.params))) :
 PySem.W.WalkO q loose XP YP l.row.toRowW d [] (fun f vs => PySem.call f vs) :=
 L2.Vt (n := 63) (k := k) (x := x) (CX := fun _ => CX0) (sp := fun w => Jn (K w.params)) hn (by decide) hdf hr hY F (fun _ _ a ns hl _ hS => ⟨a, ns, rfl, hS, hl, fun _ => rfl⟩) fun _ _ _ _ _ z => z
theorem law_fn {P : Program} {w : World} {K : PySem.W.Frag} {mg : Str -> Option Value} {fa : Addr} {k : Nat} {x p : Str} {st : Stmt} (U : Up K mg x st [p]) (hfa : mg x = some (.ref fa)) {sp : Sp}
 (C : ∀ base : Heap, K.In base -> base.Ns mainGlobals mg -> ∀ (f : Addr) (fd : FuncData), Fun K x x st f fd -> FnOk P w K mg base CX0 k f fd [p] sp)
 (hb : ∀ (kV doc pm : Value) (an : Option Addr) (cdv ct : Value) (s : Shared) (u : Value), BindsTo s (PySem.W.fnOf x x (Nc st) (Ba st) (ua st) .none kV doc pm an cdv ct) ⟨[u], []⟩ [(p, u)]) :
 ∃ fd : FuncData, (∀ (s : Shared) (u : Value), BindsTo s fd ⟨[u], []⟩ [(p, u)]) /\ ∀ base : Heap, K.In base -> base.Ns mainGlobals mg -> FnOk P w K mg base CX0 k fa fd [p] sp := by
 obtain ⟨f, fd, F, hm, _⟩ := U.ex
 have e := hfa.symm.trans hm
 cases e
 refine ⟨fd, fun s u => ?_, fun base kb nb => C base kb nb _ fd F⟩
 obtain ⟨oc, od, kV, doc, pm, an, cdv, ct, osl, rfl, _⟩ := F.ex
 exact hb kV doc pm an cdv ct s u
end L2
namespace HT
open PySem PyProof.Rows
def lexLe : List Int -> List Int -> Bool
 | [], _ => true
 | _ :: _, [] => false
 | x :: xs, y :: ys => if x = y then lexLe xs ys else decide (x <= y)
theorem Gm (x y : Int) (xs ys : List Int) : lexLe (x :: xs) (y :: ys) = if x = y then lexLe xs ys else decide (x <= y) := rfl
theorem Bp (ys : List Int) : lexLe [] ys = true := by cases ys <;> rfl
theorem Ng (x : Int) (xs : List Int) : lexLe (x :: xs) [] = false := rfl
theorem Yq (A : Around) (s : Shared) (a : Int) (t : Tok) (c : Int) (u : Tok) (prog : Program) (w : World) (E : Value -> Shared -> Prop) (Q : Value -> Shared -> Prop) (h : Q (.bool (decide (a <= c))) s) :
 wpAny (model prog w) A (richCompare .LtE (.int a t) (.int c u)) Q E s :=
 (PyProof.Rows.le_int h : wpAny (model prog w) A (compareOp .LtE (.int a t) (.int c u)) Q E s)
section
open PySem.SeqAt
open PySem.AutoSeq1 (wpAny_loadPart')
open PySem.MeetsSeq PySem.MeetsSeq2 PySem.MeetsSeq3
theorem vh (l b : Addr) (items items2 : Array Value) (n n2 : Nat) (dd dd2 : Option Addr) (sl sl2 : Array (Option Value)) (ns ms : List Int) (hi : IntsAre items.toList ns) (hj : IntsAre items2.toList ms) :
 Meets (Builtin.«tuple.__le__» ⟨[.ref l, .ref b], []⟩)
  (fun _ R s => s.heap.get? l = some { cls := .type "tuple", dict := dd, data := .seq items n, slots := sl } /\ s.heap.get? b = some { cls := .type "tuple", dict := dd2, data := .seq items2 n2, slots := sl2 } /\
    R (.ok (.ret (.bool (lexLe ns ms)))) s) :=
 .of_wp fun prog w A R s h => by
  obtain ⟨hp, g, d, tk, os⟩ := s; obtain ⟨hl, hb, h⟩ := h
  have f2 := AutoSeq1.sub_tuple_tuple
  have z1 : items.size = ns.length := by rw [<- hi.length]; simp
  have z2 : items2.size = ms.length := by rw [<- hj.length]; simp
  wp_walk using wpAny_loadPart' hl, wpAny_loadPart' hb, wpAny_forIn_list _ (fun rest b s' => b.1 = none /\ s' = ⟨hp, g, d, tk, os⟩ /\ ∃ (vs ws : List Value) (ns' ms' : List Int), rest = vs.zip ws /\
   IntsAre vs ns' /\ IntsAre ws ms' /\ ns'.length + items2.size = ms'.length + items.size /\ R (.ok (.ret (.bool (lexLe ns' ms')))) ⟨hp, g, d, tk, os⟩) _
  case turn =>
   rintro ⟨y, x⟩ rest b s' ⟨hb', rfl, vs, ws, ns', ms', hz, hvi, hwi, hlen, hR⟩
   cases hvi with
   | nil => rw [List.zip_nil_left] at hz; cases hz
   | cons a t hvi' =>
    cases hwi with
    | nil => rw [List.zip_nil_right] at hz; cases hz
    | cons c u hwi' =>
     rw [List.zip_cons_cons] at hz
     injection hz with hyx hrest
     injection hyx with hy hx
     subst hy hx
     rw [Gm] at hR
     simp only [List.length_cons] at hlen
     obtain ⟨e, he, hiff⟩ := Ql A.in1 ⟨hp, g, d, tk, os⟩ a t c u
     refine wpAny_bind (he prog w _ _ ?_)
     cases e with
     | true =>
      rw [if_pos (hiff.mp rfl)] at hR
      wp_walk
      exact ⟨rfl, rfl, _, _, _, _, hrest, hvi', hwi', by omega, hR⟩
     | false =>
      rw [if_neg (fun q => absurd (hiff.mpr q) Bool.false_ne_true)] at hR
      have hri := Yq A.in1 ⟨hp, g, d, tk, os⟩ a t c u prog w
      wp_walk using hri
      exact ⟨_, rfl, by simpa using hR⟩
  case fin =>
   rintro ⟨b1, b2⟩ s' ⟨hb', rfl, vs, ws, ns', ms', hz, hvi, hwi, hlen, hR⟩
   simp only at hb'
   subst hb'
   have hv : lexLe ns' ms' = decide (items.size <= items2.size) := by
    cases hvi with
    | nil =>
     rw [Bp]
     simp only [List.length_nil] at hlen
     exact (decide_eq_true (by omega)).symm
    | cons a t hv =>
     cases hwi with
     | nil =>
      simp only [List.length_nil, List.length_cons] at hlen
      rw [Ng]
      exact (decide_eq_false (by omega)).symm
     | cons c u hw =>
      rw [List.zip_cons_cons] at hz
      cases hz
   rw [hv] at hR
   wp_walk
   exact ⟨_, rfl, by simpa [Builtin.Tuple.tupleCompareSizes] using hR⟩
  case h =>
   exact ⟨rfl, rfl, items.toList, items2.toList, ns, ms, rfl, hi, hj, by omega, h⟩
end
section
variable {prog : Program} {w : World} {A : Around} {E : Value -> Shared -> Prop} {s : Shared}
theorem Im {l b : Addr} {items items2 : Array Value} {ns ms : List Int} {Q : Value -> Shared -> Prop} (hl : IsTup s.heap l items) (hb : IsTup s.heap b items2) (hi : IntsAre items.toList ns) (hj : IntsAre items2.toList ms)
 (hu : A.units < cLine) (h : Q (.bool (lexLe ns ms)) s) : wpAny (model prog w) A (compareOp .LtE (.ref l) (.ref b)) Q E s := by
 obtain ⟨⟨cls, dd, data, sl⟩, ho, hc, n, hd⟩ := id hl
 obtain ⟨⟨cls2, dd2, data2, sl2⟩, ho2, hc2, n2, hd2⟩ := id hb
 simp only at hc hd hc2 hd2
 subst hc hd hc2 hd2
 exact richCompare_meets_room (op := .LtE) ⟨_, ho, rfl⟩ ⟨_, ho2, rfl⟩ PySem.F.slot_tuple_le PySem.F.entry_tuple_le (PySem.F.args_tuple_le_2 _ _) (vh l b items items2 n n2 dd dd2 sl sl2 ns ms hi hj)
  ⟨ho, ho2, show Value.bool (lexLe ns ms) ≠ Value.notImplemented /\ Q (.bool (lexLe ns ms)) s from ⟨(fun x => nomatch x), h⟩⟩ hu
end
end HT
namespace L2
open PySem PySem.Spec PyProof.Rows
section
variable {X : Cx}
def rLeT (K : PySem.W.Frag) : R2 := fun x y H Q => ∃ a b ns ms, x = .ref a /\ y = .ref b /\ SqT K H a (ns.map V.int) /\ SqT K H b (ms.map V.int) /\ Q (.bl (HT.lexLe ns ms)) H
theorem op_leT (hu : X.A.units < cLine) : OpR X (compareOp .LtE) (rLeT X.K) := by
 intro pins s σ H x y v u Q I rx ry h
 obtain ⟨a, b, ns, ms, rfl, rfl, ha, hb, q⟩ := h
 cases rx
 cases ry
 obtain ⟨its, r1, p1, _⟩ := I.tuple ha
 obtain ⟨its2, r2, p2, _⟩ := I.tuple hb
 have i1 : IntsAre its.toArray.toList ns := intsAre_of r1
 have i2 : IntsAre its2.toArray.toList ms := intsAre_of r2
 exact HT.Im p1 p2 i1 i2 hu ⟨.bl (HT.lexLe ns ms), H, I, rfl, q⟩
theorem hu0 (hu : X.A.units + 64 < cLine) : X.A.units < cLine := by omega
def rLeA (K : PySem.W.Frag) : R2 := fun x y H Q => rI0 (fun i j => .bl (decide (i <= j))) x y H Q \/ rLeT K x y H Q
theorem op_leA (hu : X.A.units + 64 < cLine) : OpR X (compareOp .LtE) (rLeA X.K) := op_le.or (op_leT (hu0 hu))
def rLtA (K : PySem.W.Frag) : R2 := fun x y H Q => rI0 (fun i j => .bl (decide (i < j))) x y H Q \/ rLtT K x y H Q
theorem op_ltA (hu : X.A.units + 64 < cLine) : OpR X (compareOp .Lt) (rLtA X.K) := op_lt.or (op_ltT (hu0 hu))
end
section
variable {K : PySem.W.Frag} {H : Hp} {Q : VK}
theorem r_leI {p q : Int} (h : Q (.bl (decide (p <= q))) H) : rLeA K (.int p) (.int q) H Q := .inl (br h)
theorem r_ltI {p q : Int} (h : Q (.bl (decide (p < q))) H) : rLtA K (.int p) (.int q) H Q := .inl (br h)
end
end L2
namespace L2
open PySem PySem.Spec PyProof.Rows
def cxIn (X : Cx) (scope : Scope) (cl : List (Str × Addr)) (C : Addr) (N : List Str) (s₀ : Shared) (H₀ : Hp) (ex : List Addr) : Cx :=
 { X with env := compEnvC scope cl C X.env, N := N, s₀ := s₀, H₀ := H₀, outer := X.stack, stack := X.stack, ex := ex, fn := fun x => scope.names.lookup x == some .cell, pn := [], xe := fun _ _ => False }
def PTs (X : Cx) (ifs : List Expr) (t : TT) : Prop :=
 ∀ (pins : List (Addr × Obj)) (s : Shared) (σ : St) (H : Hp) (Q : Bool -> Hp -> Prop), Inv X pins σ H s -> t σ H Q ->
  wpAny (model X.prog X.w) X.A (forIn ifs true fun c r => if r = true then do let ok <- isTrue c X.env (eval c X.env); pure (ForInStep.yield ok) else pure (ForInStep.yield r)) (TP X pins σ Q) X.xe s
def tYes : TT := fun _ H Q => Q true H
theorem Wh {X : Cx} : PTs X [] tYes := fun _ _ _ H _ I h => wpAny_tests_nil ⟨H, I, h⟩
theorem Fo {X : Cx} {c : Expr} {t : TT} (hc : PT X c t) : PTs X [c] t := fun pins s σ H Q I h => wpAny_tests_one (hc pins s σ H Q I h)
def pf (X : Cx) (env' : Env) : List Str -> List Nat -> Prop
 | [], [] => True
 | x :: xs, j :: js => (X.N[j]? = some x /\ Vis X.env.scope x /\ X.env.kindOf x ≠ some .local /\ (env'.kindOf x = some .cell \/ env'.kindOf x = some .free) /\ env'.cells.lookup x = X.env.cells.lookup x) /\ pf X env' xs js
 | _, _ => False
theorem pf.len {X : Cx} {e : Env} : ∀ {xs : List Str} {js : List Nat}, pf X e xs js -> xs.length = js.length
 | [], [], _ => rfl
 | _ :: _, _ :: _, ⟨_, h⟩ => by rw [List.length_cons, List.length_cons, pf.len h]
 | [], _ :: _, h => h.elim
 | _ :: _, [], h => h.elim
theorem pf.get {X : Cx} {e : Env} : ∀ {xs : List Str} {js : List Nat} {i : Nat} {x : Str}, pf X e xs js -> xs[i]? = some x -> ∃ j, js[i]? = some j /\ X.N[j]? = some x /\ Vis X.env.scope x /\ X.env.kindOf x ≠ some .local /\ (e.kindOf x = some .cell \/ e.kindOf x = some .free) /\ e.cells.lookup x = X.env.cells.lookup x
 | [], [], i, x, _, h => by simp at h
 | y :: xs, j :: js, 0, x, ⟨h1, _⟩, h => by simp at h; subst h; exact ⟨j, by simp, h1⟩
 | y :: xs, j :: js, i + 1, x, ⟨_, h2⟩, h => by
  obtain ⟨k, a, b⟩ := pf.get (i := i) (x := x) h2 (by simpa using h)
  exact ⟨k, by simpa using a, b⟩
 | [], _ :: _, _, _, h, _ => h.elim
 | _ :: _, [], _, _, h, _ => h.elim
def cap (σ : St) (js : List Nat) (nt : Nat) : St := js.map (fun j => σ.getD j none) ++ List.replicate nt none
def Oi (js : List Nat) (nt : Nat) (wi : TI) (g : TG) (tt : TT) (te : TE) : TE := fun σ H Q => wi σ H fun J H1 => ∃ W : Nat -> Nat -> List V -> St -> Hp -> Prop, (∃ m, W 0 m [] (cap σ js nt) H1) /\
 ∀ i m ys σ' H', W i m ys σ' H' -> ys.length < sizeLine /\ ((J.stop i H' /\ ∀ D, H' D = none -> Q (.ref D) (upd H' D (.lst ys))) \/
  (J.go i H' /\ ∃ N : List V -> St -> Hp -> Prop, (∀ ys σ' H', N ys σ' H' -> ∃ m', m' < m /\ W (i + 1) m' ys σ' H') /\ ∀ x H2, J.yld i H' x H2 -> g x σ' H2 fun σ3 H3 => tt σ3 H3 fun ok H4 => if ok = true then te σ3 H4 fun y H5 => N (ys ++ [y]) σ3 H5 else N ys σ3 H4))
theorem Ib {prog : Program} {w : World} {A : Around} {R : Result -> Shared -> Prop} {s : Shared} {elt target iter : Expr} {ifs : List Expr} {scope : Scope} {pos : Pos} {it acc : Value} {env : Env} (I : Nat -> Shared -> Prop)
 (turn : ∀ n s, I n s -> wpAny (model prog w) A (pyNext it) (fun r s₁ => match r with
   | none => R (.ok .next) s₁
   | some v => wpAny (model prog w) A (letOwnedTupleGo target it v) (fun _ s₁' => wpAny (model prog w) A (assign target env v) (fun _ s₂ =>
    wpAny (model prog w) A (forIn ifs true fun c r => if r = true then do let ok <- isTrue c env (eval c env); pure (ForInStep.yield ok) else pure (ForInStep.yield r)) (fun ok s₃ =>
     if ok = true then wpAny (model prog w) A (eval elt env) (fun x s₄ =>
      wpAny (model prog w) A (call (.builtin "list.append") [acc, x]) (fun _ s₅ => ∃ m, m < n /\ I m s₅) (notedBy (model prog w) A env fun e s' => R (.error e) s') s₄) (notedBy (model prog w) A env fun e s' => R (.error e) s') s₃
     else ∃ m, m < n /\ I m s₃) (notedBy (model prog w) A env fun e s' => R (.error e) s') s₂) (notedBy (model prog w) A env fun e s' => R (.error e) s') s₁') (notedBy (model prog w) A env fun e s' => R (.error e) s') s₁) (notedBy (model prog w) A env fun e s' => R (.error e) s') s)
 (n : Nat) (h : I n s) :
 codeAny (model prog w) A (.compLoop (.ListComp elt [⟨target, iter, ifs, 0⟩] scope pos) 0 it acc env) R s := by
 refine codeAny_loop rfl I (fun n s hI => ?_) n h
 show wpAny _ A ((compTurn (.ListComp elt [⟨target, iter, ifs, 0⟩] scope pos) 0 it acc env).onRaise (fun x => do noteFrame x env; theTreesLotGoes x)) _ _ s
 refine wpAny_noted ?_
 rw [compTurn_list]
 refine wpAny_bind (wpAny_standAt (wpAny_bind (wpAny_mono (turn n s hI) (fun r s₁ h₁ => ?_) fun _ _ h' => h')))
 cases r with
 | none => exact wpAny_pure h₁
 | some v =>
  refine wpAny_bind (wpAny_mono h₁ (fun _ s₁' h₁' => ?_) fun _ _ h' => h')
  refine wpAny_bind (wpAny_mono h₁' (fun _ s₂ h₂ => wpAny_bind (wpAny_mono h₂ (fun ok s₃ h₃ => ?_) fun _ _ h' => h')) fun _ _ h' => h')
  cases ok with
  | false => exact wpAny_pure ⟨rfl, h₃⟩
  | true =>
   exact wpAny_bind (wpAny_bind (wpAny_mono h₃ (fun x s₄ h₄ => wpAny_bind (wpAny_mono h₄ (fun _ s₅ h₅ => wpAny_pure (wpAny_pure ⟨rfl, h₅⟩)) fun _ _ h' => h')) fun _ _ h' => h'))
section
variable {X : Cx} {pins : List (Addr × Obj)} {σ : St} {H H' : Hp} {s : Shared}
theorem HOk.Yl {P : Program} {w : World} {h : Heap} {a : Addr} {o : HO} (x : HOk P w H h) (hn : H a = none) (new : Ob P w (upd H a o) h a o) : HOk P w (upd H a o) h := fun b u e => by
 by_cases hb : b = a
 . subst hb; rw [ka] at e; cases e; exact new
 . rw [Aa hb] at e
   exact (x b u e).stay (fun c v _ q => q) (fun c q => by rw [Aa (da q hn)]; exact q) fun c xs q => by rw [Aa (da q hn)]; exact q
theorem HOk.other {P : Program} {w : World} {h h' : Heap} {C : Addr} (x : HOk P w H h) (hn : H C = none) (k : ∀ b o, b ≠ C -> h.get? b = some o -> h'.get? b = some o) : HOk P w H h' := fun b u e =>
 (x b u e).stay (fun c v hc q => k c v (by
  rintro rfl
  rcases hc with rfl | hc
  . rw [hn] at e; cases e
  . rw [hn] at hc; cases hc) q) (fun _ q => q) fun _ _ q => q
theorem xc : ∀ {names : List (Str × NameKind)} {n : Nat} {acc : List (Str × Addr)}, (∀ y ∈ names, y.2 ≠ .cell) -> cellsFrom n names acc = acc
 | [], _, _, _ => rfl
 | (x, k) :: r, n, acc, h => by
  unfold cellsFrom
  rw [if_neg (by simpa using h (x, k) List.mem_cons_self)]
  exact xc fun y hy => h y (List.mem_cons_of_mem _ hy)
theorem og : ∀ (names : List (Str × NameKind)) (h : Heap) (acc : List (Str × Addr)) (x : Str) (c : Addr), (cellsFrom h.objs.size names acc).lookup x = some c -> acc.lookup x = some c \/ ((pushCells h names).IsCell c none /\ h.objs.size <= c)
 | [], _, _, _, _, e => .inl e
 | (y, k) :: r, h, acc, x, c, e => by
  unfold cellsFrom at e
  unfold pushCells
  split at e
  . rename_i hk
    rw [if_pos hk]
    have e' : (cellsFrom (h.push { cls := .type "cell", data := .cell none }).objs.size r ((y, h.objs.size) :: acc)).lookup x = some c := by rw [Heap.size_push]; exact e
    rcases og r _ _ x c e' with z | ⟨z1, z2⟩
    . rw [List.lookup_cons] at z
      split at z
      . cases z
        exact .inr ⟨⟨_, pushCells_keeps _ _ _ _ (Heap.get?_push_size _ rfl), rfl⟩, Nat.le_refl _⟩
      . exact .inl z
    . rw [Heap.size_push] at z2
      exact .inr ⟨z1, Nat.le_of_succ_le z2⟩
  . rename_i hk
    rw [if_neg hk]
    exact og r h acc x c e
theorem qg : ∀ (names : List (Str × NameKind)) (n : Nat) (acc : List (Str × Addr)), (∀ x y c, acc.lookup x = some c -> acc.lookup y = some c -> x = y) -> (∀ x c, acc.lookup x = some c -> c < n) -> ∀ x y c, (cellsFrom n names acc).lookup x = some c -> (cellsFrom n names acc).lookup y = some c -> x = y
 | [], _, _, h, _ => h
 | (z, k) :: r, n, acc, h, hl => by
  unfold cellsFrom
  split
  . refine qg r (n + 1) _ (fun x y c e1 e2 => ?_) fun x c e => ?_
    . rw [List.lookup_cons] at e1 e2
      split at e1 <;> split at e2
      . rename_i _ a _ b; rw [beq_iff_eq.mp a, beq_iff_eq.mp b]
      . cases e1; exact absurd (hl _ _ e2) (Nat.lt_irrefl _)
      . cases e2; exact absurd (hl _ _ e1) (Nat.lt_irrefl _)
      . exact h x y c e1 e2
    . rw [List.lookup_cons] at e
      split at e
      . cases e; exact Nat.lt_succ_self _
      . exact Nat.lt_succ_of_lt (hl x c e)
  . exact qg r n acc h hl
theorem Ul {x : Str} {lo : Nat} : ∀ (names : List (Str × NameKind)) (n : Nat) (acc : List (Str × Addr)), lo <= n -> ((∀ c, acc.lookup x = some c -> lo <= c) \/ names.lookup x = some .cell) -> ∀ c, (cellsFrom n names acc).lookup x = some c -> lo <= c
 | [], _, _, _, h => h.elim id fun z => nomatch z
 | (z, k) :: r, n, acc, hl, h => by
  have h2 : ∀ acc' : List (Str × Addr), (∀ c, acc'.lookup x = some c -> lo <= c) \/ r.lookup x = some .cell -> ∀ m, lo <= m -> ∀ c, (cellsFrom m r acc').lookup x = some c -> lo <= c := fun acc' q m hm => Ul r m acc' hm q
  unfold cellsFrom
  rw [List.lookup_cons] at h
  split
  . refine h2 _ ?_ _ (Nat.le_succ_of_le hl)
    by_cases hx : x == z
    . refine .inl fun c e => ?_
      rw [List.lookup_cons, hx] at e
      cases e; exact hl
    . simp only [hx] at h
      refine h.imp (fun q c e => ?_) id
      rw [List.lookup_cons] at e
      simp only [hx] at e
      exact q c e
  . rename_i hk
    refine h2 _ ?_ _ hl
    by_cases hx : x == z
    . simp only [hx] at h
      refine .inl (h.elim id fun q => absurd q ?_)
      intro e
      rw [Option.some.inj e] at hk
      exact hk rfl
    . simp only [hx] at h
      exact h
theorem ke {M : Model} {A : Around} {E : Value -> Shared -> Prop} {s : Shared} {scope : Scope} {g : Addr} {cl : List (Str × Addr)} {q : Str} {env : Env} {Q : Env -> Shared -> Prop}
 (h : Q { scope, locals := s.heap.objs.size, globals := g, cells := cellsFrom (s.heap.objs.size + 1) scope.names cl, qual := q, func := none, code := env.code, frame := env.frame, builtins := env.builtins }
   { s with heap := pushCells (s.heap.push { cls := .type "dict", data := .dict #[] }) scope.names }) : wpAny M A (newFunctionEnv scope g cl [] q none .none (some env)) Q E s := by
 simp only [newFunctionEnv, Option.isSome_some, if_true]
 refine wpAny_bind (wpAny_alloc (wpAny_bind (wpAny_layCells _ (fun name kind cells => by cases hkc : kind == NameKind.cell <;> simp [hkc]) _ _ _ _ ?_)))
 rw [show ({ s with heap := s.heap.push { cls := .type "dict", data := .dict #[] } } : Shared).heap.objs.size = s.heap.objs.size + 1 from Heap.size_push ..]
 refine wpAny_bind ?_
 rw [List.forIn_nil]
 exact wpAny_pure (wpAny_pure h)
theorem Rp {scope : Scope} {cl : List (Str × Addr)} {C : Addr} {N : List Str} {s₀ : Shared} {ex : List Addr} (I : Inv X pins σ H s₀) (hC : C = s₀.heap.objs.size) (hkind : scope.kind = .function)
 (hinj : ∀ x y c, cl.lookup x = some c -> cl.lookup y = some c -> x = y) (hcl : ∀ x c, cl.lookup x = some c -> X.env.cells.lookup x = some c \/ s₀.heap.objs.size <= c) (hcab : ∀ x c, scope.names.lookup x = some .cell -> cl.lookup x = some c -> s₀.heap.objs.size <= c) (hhas : ∀ x, ((compEnvC scope cl C X.env).kindOf x = some .cell \/ (compEnvC scope cl C X.env).kindOf x = some .free) -> ∃ c, cl.lookup x = some c)
 (hex : ∀ b ∈ ex, b < s₀.heap.objs.size /\ b ∉ frs X.stack /\ (∀ x c, X.env.cells.lookup x = some c -> c ≠ b) /\ X.base.get? b = none) : (cxIn X scope cl C N s₀ H ex).Ok := by
 refine ⟨I.ok.mod, hkind, I.ok.glob, I.ok.blt, ?_, hinj, hhas, fun x c h => hcab x c (beq_iff_eq.mp h), I.ok.hd, I.ok.frames, .inl rfl, fun b hb => ⟨?_, fun x c h => ?_⟩, I.bs, Nat.le_trans I.ok.bsz I.sz, fun b o e hb => ?_, fun b hb => (hex b hb).2.1, I.stack, I.Ge⟩
 . show s₀.heap.objs.size <= C
   rw [hC]; exact Nat.le_refl _
 . show b ≠ C
   rw [hC]; exact Nat.ne_of_lt (hex b hb).1
 . rcases hcl x c h with z | z
   . exact (hex b hb).2.2.1 x c z
   . exact fun e => absurd (Nat.lt_of_lt_of_le (hex b hb).1 (e ▸ z)) (Nat.lt_irrefl _)
 . have e' : X.base.get? b = some o := e
   rw [(hex b hb).2.2.2] at e'; cases e'
theorem Yp (σ : St) (js : List Nat) (nt : Nat) : (cap σ js nt).length = js.length + nt := by
 unfold cap; rw [List.length_append, List.length_map, List.length_replicate]
theorem Zp {σ : St} {js : List Nat} {nt i : Nat} {v : V} (h : (cap σ js nt)[i]? = some (some v)) : ∃ j, js[i]? = some j /\ σ[j]? = some (some v) := by
 unfold cap at h
 by_cases hi : i < js.length
 . rw [List.getElem?_append_left (by rw [List.length_map]; exact hi), List.getElem?_map] at h
   obtain ⟨j, hj⟩ : ∃ j, js[i]? = some j := ⟨_, List.getElem?_eq_getElem hi⟩
   rw [hj] at h
   refine ⟨j, hj, ?_⟩
   have e : σ.getD j none = some v := Option.some.inj h
   rw [List.getD_eq_getElem?_getD] at e
   cases q : σ[j]? with
   | none => rw [q] at e; cases e
   | some z => rw [q] at e; have : z = some v := e; rw [this]
 . rw [List.getElem?_append_right (by rw [List.length_map]; omega), List.getElem?_replicate] at h
   split at h <;> cases h
end
theorem Fl {X : Cx} {elt tg iter : Expr} {ifs : List Expr} {scope : Scope} {pos : Pos} {cl : List (Str × Addr)} {cs : Addr -> List (Str × Addr)} {cN tN : List Str} {js : List Nat} {wi : TI} {g : TG} {tt : TT} {te : TE}
 (hc : X.calm = true) (hi : PI X tg iter wi)
 (hclos : closureFor scope X.env = pure cl) (hcs : ∀ C, cellsFrom (C + 1) scope.names cl = cs C) (hkind : scope.kind = .function) (hnames : ∀ y ∈ scope.names, y.2 = .local -> scope.names.lookup y.1 = some .local)
 (hcl : ∀ p ∈ cl, X.env.cells.lookup p.1 = some p.2) (hhas : ∀ C x, ((compEnvC scope (cs C) C X.env).kindOf x = some .cell \/ (compEnvC scope (cs C) C X.env).kindOf x = some .free) -> ∃ c, (cs C).lookup x = some c)
 (hcap : ∀ C, pf X (compEnvC scope (cs C) C X.env) cN js)
 (hg : ∀ C s₀ H₀ ex, PG (cxIn X scope (cs C) C (cN ++ tN) s₀ H₀ ex) tg g) (ht : ∀ C s₀ H₀ ex, PTs (cxIn X scope (cs C) C (cN ++ tN) s₀ H₀ ex) ifs tt) (he : ∀ C s₀ H₀ ex, PE (cxIn X scope (cs C) C (cN ++ tN) s₀ H₀ ex) elt te)
 (hs : ∀ x, foldedSetIterable iter X.env x = pure x := by intro _; first | rfl | with_unfolding_all rfl) :
 PE X (.ListComp elt [⟨tg, iter, ifs, 0⟩] scope pos) (Oi js tN.length wi g tt te) := by
 intro pins s σ H Q I h
 rw [eval_ListComp]
 refine wpAny_comprehension_free (use := none) rfl hs hclos hkind hnames (thn (hi pins s σ H _ I h) fun v s1 h1 => thn h1 fun itv s2 h2 => ?_)
 obtain ⟨it, fp, tn, J, H2, e, I2, T, st2, f2, W, ⟨m0, w0⟩, turn⟩ := h2
 subst e
 refine wpAny_newObj_type (ke ?_)
 dsimp only
 generalize hH3 : s2.heap.push { cls := .type "list", dict := none, data := .seq ([] : List Value).toArray } = h3
 rw [hcs]
 have hns4 : (pushCells (h3.push { cls := .type "dict", data := .dict #[] }) scope.names).Ns h3.objs.size fun _ => none := (Heap.Ns.new h3 (.type "dict")).keeps (pushCells_keeps _ _)
 have hnew : ∀ x c, (cs h3.objs.size).lookup x = some c -> cl.lookup x = some c \/ ((pushCells (h3.push { cls := .type "dict", data := .dict #[] }) scope.names).IsCell c none /\ h3.objs.size + 1 <= c) := fun x c e => by
  have := og scope.names (h3.push { cls := .type "dict", data := .dict #[] }) cl x c (by rw [Heap.size_push, hcs]; exact e)
  rw [Heap.size_push] at this; exact this
 have up4 : ∀ b o, h3.get? b = some o -> (pushCells (h3.push { cls := .type "dict", data := .dict #[] }) scope.names).get? b = some o := fun b o q => pushCells_keeps _ _ _ _ (Heap.get?_push_of_some _ q)
 generalize pushCells (h3.push { cls := .type "dict", data := .dict #[] }) scope.names = h4 at hns4 hnew up4 ⊢
 have hD : h3.get? s2.heap.objs.size = some { cls := .type "list", data := .seq ([] : List Value).toArray } := by rw [<- hH3]; exact Heap.get?_push_size _ rfl
 have up3 : ∀ b o, s2.heap.get? b = some o -> h3.get? b = some o := fun b o q => by rw [<- hH3]; exact Heap.get?_push_of_some _ q
 have sz3 : h3.objs.size = s2.heap.objs.size + 1 := by rw [<- hH3, Heap.size_push]
 have I3 : Inv X pins σ H2 { s2 with heap := h3 } := I2.kept (t' := s2.toks) up3
 have hDC : s2.heap.objs.size ≠ h3.objs.size := by rw [sz3]; exact Nat.ne_of_lt (Nat.lt_succ_self _)
 have hfpx : ∀ b ∈ s2.heap.objs.size :: fp, b < h3.objs.size /\ b ∉ frs X.stack /\ (∀ x c, X.env.cells.lookup x = some c -> c ≠ b) /\ X.base.get? b = none := fun b hb => by
  rcases List.mem_cons.mp hb with rfl | hb
  . refine ⟨by rw [sz3]; exact Nat.lt_succ_self _, fun z => ?_, fun x c q z => ?_, ?_⟩
    . rcases List.mem_cons.mp (I2.Tg _ z) with y | y
      . exact absurd (Nat.lt_of_lt_of_eq I2.lt y) (Nat.lt_irrefl _)
      . exact I2.nofs (Nat.le_refl _) y
    . obtain ⟨v, r⟩ := I2.cell x c q
      exact absurd (Nat.lt_of_lt_of_eq r.lt z.symm) (Nat.lt_irrefl _)
    . cases q : X.base.get? s2.heap.objs.size with
      | none => rfl
      | some o => exact absurd (Heap.lt_size (I2.bk _ o q)) (Nat.lt_irrefl _)
  . obtain ⟨f0, f1, f3, f4, f5, f6⟩ := f2 b hb
    obtain ⟨o, ho, _⟩ := T.obj _ _ st2 b hb
    refine ⟨Nat.lt_trans (Heap.lt_size ho) (by rw [sz3]; exact Nat.lt_succ_self _), fun z => ?_, f5, ?_⟩
    . rcases List.mem_cons.mp (I2.Tg _ z) with y | y
      . exact f1 y
      . exact f3 y
    . cases q : X.base.get? b with
      | none => rfl
      | some o' =>
       rcases f4 with z | z
       . exact absurd z (I2.ok.noex b o' q)
       . exact absurd (Nat.lt_of_lt_of_le (Heap.lt_size (I2.ok.bs b o' q).1) z) (Nat.lt_irrefl _)
 have hclL : ∀ x c, cl.lookup x = some c -> X.env.cells.lookup x = some c := fun x c q => hcl (x, c) (PySem.mem_of_lookup q)
 have hinj : ∀ x y c, (cs h3.objs.size).lookup x = some c -> (cs h3.objs.size).lookup y = some c -> x = y := by
  rw [<- hcs]
  exact qg _ _ _ (fun x y c e1 e2 => I2.ok.inj x y c (hclL x c e1) (hclL y c e2)) fun x c e => by
   obtain ⟨v, r⟩ := I3.cell x c (hclL x c e)
   exact Nat.lt_succ_of_lt r.lt
 have hcl3 : ∀ x c, (cs h3.objs.size).lookup x = some c -> X.env.cells.lookup x = some c \/ h3.objs.size <= c := fun x c e => (hnew x c e).imp (hclL x c) fun z => Nat.le_of_succ_le z.2
 have hclx : ∀ b ∈ s2.heap.objs.size :: fp, ∀ x c, (cs h3.objs.size).lookup x = some c -> c ≠ b := fun b hb x c e => by
  rcases hcl3 x c e with z | z
  . exact (hfpx b hb).2.2.1 x c z
  . exact fun e => absurd (Nat.lt_of_lt_of_le (hfpx b hb).1 (e ▸ z)) (Nat.lt_irrefl _)
 have ok : (cxIn X scope (cs h3.objs.size) h3.objs.size (cN ++ tN) { s2 with heap := h3 } H2 (s2.heap.objs.size :: fp)).Ok := Rp I3 rfl hkind hinj hcl3 (fun x c h q => Nat.le_of_succ_le (Ul scope.names (h3.objs.size + 1) cl (Nat.le_refl _) (.inr h) c (by rw [hcs]; exact q))) (hhas _) hfpx
 have hg' := hg h3.objs.size { s2 with heap := h3 } H2 (s2.heap.objs.size :: fp)
 have ht' := ht h3.objs.size { s2 with heap := h3 } H2 (s2.heap.objs.size :: fp)
 have he' := he h3.objs.size { s2 with heap := h3 } H2 (s2.heap.objs.size :: fp)
 generalize hY : cxIn X scope (cs h3.objs.size) h3.objs.size (cN ++ tN) { s2 with heap := h3 } H2 (s2.heap.objs.size :: fp) = Y at ok hg' ht' he'
 have yP : Y.prog = X.prog := by rw [<- hY]; rfl
 have yw : Y.w = X.w := by rw [<- hY]; rfl
 have yK : Y.K = X.K := by rw [<- hY]; rfl
 have yA : Y.A = X.A := by rw [<- hY]; rfl
 have yc : Y.calm = true := by rw [<- hY]; exact hc
 have yx : Y.xe = fun _ _ => False := by rw [<- hY]; rfl
 have yl : Y.env.locals = h3.objs.size := by rw [<- hY]; rfl
 have ye : Y.env = compEnvC scope (cs h3.objs.size) h3.objs.size X.env := by rw [<- hY]; rfl
 have yfs : Y.fs = frs X.stack := by rw [<- hY]; rfl
 have yex : Y.ex = s2.heap.objs.size :: fp := by rw [<- hY]; rfl
 have ycl : Y.env.cells = cs h3.objs.size := by rw [<- hY]; rfl
 have ys0 : Y.s₀ = { s2 with heap := h3 } := by rw [<- hY]; rfl
 have yH0 : Y.H₀ = H2 := by rw [<- hY]; rfl
 have ypn : Y.pn = [] := by rw [<- hY]; rfl
 have yN : Y.N = cN ++ tN := by rw [<- hY]; rfl
 have hH2D : H2 s2.heap.objs.size = none := I2.hok.fresh (Nat.le_refl _)
 have pinD : ∀ {H' : Hp} {h : Heap} {ys : List Value} {n : Nat}, h.get? s2.heap.objs.size = some { cls := .type "list", data := .seq ys.toArray n } -> H' s2.heap.objs.size = none ->
  ∀ p ∈ ([(s2.heap.objs.size, ({ cls := .type "list", data := .seq ys.toArray n } : Obj))] : List (Addr × Obj)), h.get? p.1 = some p.2 /\ H' p.1 = none /\ p.1 ≠ Y.env.locals /\ p.1 ∉ Y.fs /\ ∀ v, p.2.data ≠ .cell v := fun {H' h ys n} q1 q2 p hp => by
  rw [List.mem_singleton.mp hp]
  exact ⟨q1, q2, by rw [yl]; exact hDC, by rw [yfs]; exact (hfpx _ List.mem_cons_self).2.1, fun v z => nomatch z⟩
 have I4 : Inv Y [] (cap σ js tN.length) H2 { s2 with heap := h4 } := by
  refine ⟨ok, by rw [ys0], I2.bare, ?_, ⟨_, by rw [yl]; exact hns4, fun i x v e1 e2 e3 => ?_⟩, fun x c q => ?_, ?_, fun x c q => ?_, fun p hp => ?_, ?_, ?_⟩
  . rw [ys0, yH0]; exact Un.kept up4
  . rw [yN] at e1
    obtain ⟨j, hj, hv⟩ := Zp e2
    have hi' : i < cN.length := by
     rw [(hcap h3.objs.size).len]
     exact (List.getElem?_eq_some_iff.mp hj).1
    rw [List.getElem?_append_left hi'] at e1
    obtain ⟨j', hj', n1, n2, n3, n4, n5⟩ := (hcap h3.objs.size).get e1
    rw [hj] at hj'; cases hj'
    obtain ⟨m, hn, hl⟩ := I2.loc
    obtain ⟨u, ru, lk⟩ := hl j x v n1 hv n2
    refine ⟨u, ru, ?_⟩
    rcases lk with ⟨k1, _⟩ | ⟨k1, c, k2, k3⟩
    . exact absurd k1 n3
    . refine .inr ⟨by rw [ye]; exact n4, c, by rw [ye, n5]; exact k2, ?_⟩
      obtain ⟨o, ho, hd⟩ := k3
      exact ⟨o, up4 _ _ (up3 _ _ ho), hd⟩
  . rw [ycl] at q
    rcases hnew x c q with q | q
    . obtain ⟨v, o, ho, hd⟩ := I2.cell x c (hclL x c q)
      exact ⟨v, o, up4 _ _ (up3 _ _ ho), hd⟩
    . exact ⟨none, q.1⟩
  . rw [yl]; exact I3.hok.fresh (Nat.le_refl _)
  . rw [ycl] at q
    rcases hcl3 x c q with q | q
    . exact I2.freeC x c q
    . exact I3.hok.fresh q
  . rw [ypn] at hp
    exact absurd hp (by simp)
  . rw [yP, yw]
    exact I3.hok.kept up4
  . rw [Yp, yN, List.length_append, (hcap h3.objs.size).len]
 have fpY : ∀ {H' : Hp} {ps : List (Addr × Obj)}, (∀ b ∈ fp, H' b = none) -> (∀ p ∈ ps, p.1 = s2.heap.objs.size) -> ∀ b ∈ fp, FpOk Y ps H' b := fun {H' ps} hn hps b hb => by
  obtain ⟨a1, a2, a3, a4⟩ := hfpx b (List.mem_cons_of_mem _ hb)
  obtain ⟨o, ho, _⟩ := T.obj _ _ st2 b hb
  refine ⟨hn b hb, by rw [yl]; exact Nat.ne_of_lt a1, by rw [yfs]; exact a2, .inl (by rw [yex]; exact List.mem_cons_of_mem _ hb), fun x c q => by rw [ycl] at q; exact hclx b (List.mem_cons_of_mem _ hb) x c q, fun p hp => ?_⟩
  rw [ypn] at hp
  rw [hps p hp]
  exact (Nat.ne_of_lt (Heap.lt_size ho)).symm
 have st4 : tn 0 h4 := T.keep _ _ _ st2 fun b hb o q => up4 _ _ (up3 _ _ q)
 have loop : codeAny (model X.prog X.w) X.A (.compLoop (.ListComp elt [⟨tg, iter, ifs, 0⟩] scope pos) 0 (.ref it) (.ref s2.heap.objs.size) (compEnvC scope (cs h3.objs.size) h3.objs.size X.env))
  (compPost (model X.prog X.w) X.A X.xe none (EP X pins σ Q) (.ref s2.heap.objs.size) h3.objs.size) { s2 with heap := h4 } := by
  refine Ib (fun n s' => ∃ (i : Nat) (σ' : St) (H' : Hp) (ys : List V) (us : List Value) (k : Nat), Inv Y [] σ' H' s' /\ tn i s'.heap /\ (∀ b ∈ fp, H' b = none) /\ H' s2.heap.objs.size = none /\ Vals ys us /\
   s'.heap.get? s2.heap.objs.size = some { cls := .type "list", data := .seq us.toArray k } /\ W i n ys σ' H') ?_ m0
   ⟨0, _, H2, [], [], 0, I4, st4, fun b hb => (f2 b hb).1, hH2D, .nil, up4 _ _ hD, w0⟩
  rintro n s5 ⟨i, σ5, H5, ys, us, k, I5, st5, fr5, hD5, rv5, ho5, w5⟩
  obtain ⟨hsz, step⟩ := turn i n ys σ5 H5 w5
  have I5p := I5.uc (pins' := [(s2.heap.objs.size, ({ cls := .type "list", data := .seq us.toArray k } : Obj))]) (pinD ho5 hD5)
  have onlyD : ∀ p ∈ ([(s2.heap.objs.size, ({ cls := .type "list", data := .seq us.toArray k } : Obj))] : List (Addr × Obj)), p.1 = s2.heap.objs.size := fun p hp => by rw [List.mem_singleton.mp hp]
  rcases step with ⟨stop, fin⟩ | ⟨go, N, hN, step⟩
  ·
   have dn := T.done Y yP yw yK yc i _ s5 σ5 H5 (notedBy (model X.prog X.w) X.A (compEnvC scope (cs h3.objs.size) h3.objs.size X.env) fun e s' => compPost (model X.prog X.w) X.A X.xe none (EP X pins σ Q) (.ref s2.heap.objs.size) h3.objs.size (.error e) s') I5p (fpY fr5 onlyD) st5 stop
   rw [yA] at dn
   refine thn dn fun r s6 ⟨hr, I6⟩ => ?_
   subst hr
   obtain ⟨m6, hn6, _⟩ := I6.loc
   rw [yl] at hn6
   refine ⟨m6, hn6, fun h7 hs7 => ?_⟩
   have u6 : Un (frs X.stack) (s2.heap.objs.size :: fp) H2 H5 h3 s6.heap := by
    have := I6.base
    rw [yfs, yex, yH0, ys0] at this
    exact this
   have D6 := (I6.pin _ (List.mem_append_right _ (List.mem_singleton.mpr rfl))).1
   have C6 : H5 h3.objs.size = none := by have := I6.free; rw [yl] at this; exact this
   have k7 : ∀ b o, b ≠ h3.objs.size -> s6.heap.get? b = some o -> h7.get? b = some o := fun b o hb q => hs7.extBut b o hb q
   have neC : ∀ b o, s2.heap.get? b = some o -> b ≠ h3.objs.size := fun b o q => Nat.ne_of_lt (Heap.lt_size (up3 b o q))
   have neD : ∀ b o, s2.heap.get? b = some o -> b ≠ s2.heap.objs.size := fun b o q => Nat.ne_of_lt (Heap.lt_size q)
   have exn : ∀ b o, s2.heap.get? b = some o -> b ∉ fp -> b ∉ s2.heap.objs.size :: fp := fun b o q hb z => by
    rcases List.mem_cons.mp z with z | z
    . exact neD b o q z
    . exact hb z
   have un7 : Un (frs X.stack) fp H2 (upd H5 s2.heap.objs.size (.lst ys)) s2.heap h7 := by
    refine ⟨fun b o q nb hb hx => k7 b o (neC b o q) (u6.keep b o (up3 _ _ q) nb hb (exn b o q hx)), fun b o q nb hb hx => ?_, fun b o q nb hx => ?_, fun b o q hx => ?_, fun b xs q => ?_, fun b o xs q => ?_, fun b ps q => ?_⟩
    . obtain ⟨sl, z⟩ := u6.slot b o (up3 _ _ q) nb hb (exn b o q hx)
      exact ⟨sl, k7 b _ (neC b o q) z⟩
    . rw [Aa (neD b o q)]
      exact u6.free b o (up3 _ _ q) nb (exn b o q hx)
    . obtain ⟨o', z⟩ := u6.there b o (up3 _ _ q) (exn b o q hx)
      exact ⟨o', k7 b o' (neC b o q) z⟩
    . have z := u6.tups b xs q
      rw [Aa (da z hD5)]; exact z
    . have z := u6.frzs b o xs q
      rw [Aa (da z hD5)]; exact z
    . obtain ⟨more, z⟩ := u6.tbls b ps q
      exact ⟨more, by rw [Aa (da z hD5)]; exact z⟩
   have hok7 : HOk X.prog X.w (upd H5 s2.heap.objs.size (.lst ys)) h7 := by
    have z := I6.hok
    rw [yP, yw] at z
    refine (z.other C6 k7).Yl hD5 ?_
    exact ⟨Nat.le_of_lt hsz, us, k, rv5, k7 _ _ hDC D6⟩
   obtain ⟨hh6, gg6, dd6, tt6, os6⟩ := s6
   have eos : os6 = s2.os := by have := I6.os; rw [ys0] at this; exact this
   subst eos
   have I7 : Inv X pins σ (upd H5 s2.heap.objs.size (.lst ys)) { s2 with heap := h7, gens := gg6, drawn := dd6, toks := tt6 } :=
    I2.call un7 hok7 I6.bare fun b hb => ⟨(f2 b hb).2.2.2.1, (f2 b hb).2.1, (f2 b hb).2.2.2.2.1, (f2 b hb).2.2.2.2.2⟩
   exact ⟨.ref s2.heap.objs.size, _, I7, rfl, fin _ hD5⟩
  ·
   have im := T.item Y yP yw yK yc i _ s5 σ5 H5 (notedBy (model X.prog X.w) X.A (compEnvC scope (cs h3.objs.size) h3.objs.size X.env) fun e s' => compPost (model X.prog X.w) X.A X.xe none (EP X pins σ Q) (.ref s2.heap.objs.size) h3.objs.size (.error e) s') I5p (fpY fr5 onlyD) st5 go
   rw [yA] at im
   refine thn im fun r s6 ⟨u, hr, h6⟩ => ?_
   subst hr
   refine thn h6 fun _ s7 ⟨x, H7, I7, r7, y7, st7, fr7⟩ => ?_
   have I7' := I7.pinned (fpY fr7 onlyD) (T.obj _ _ st7)
   have tog := hg' _ s7 σ5 H7 x u _ I7' r7 (step x H7 y7)
   rw [yP, yw, yA, yx, ye] at tog
   refine wpAny_mono tog (fun _ s8 ⟨σ8, H8, I8, q8⟩ => ?_) fun _ _ z => z.elim
   have tot := ht' _ s8 σ8 H8 _ I8 q8
   rw [yP, yw, yA, yx, ye] at tot
   refine wpAny_mono tot (fun okb s9 ⟨H9, I9, q9⟩ => ?_) fun _ _ z => z.elim
   have back : ∀ {H' : Hp} {s' : Shared}, Inv Y ([(s2.heap.objs.size, ({ cls := .type "list", data := .seq us.toArray k } : Obj))] ++ fh fp s7.heap) σ8 H' s' -> tn (i + 1) s'.heap /\ (∀ b ∈ fp, H' b = none) /\ H' s2.heap.objs.size = none /\ s'.heap.get? s2.heap.objs.size = some { cls := .type "list", data := .seq us.toArray k } := fun {H' s'} I' => by
    refine ⟨T.keep _ _ _ st7 fun b hb o e => (I'.pin (b, o) (List.mem_append_right _ (List.mem_append_right _ (Qb hb e)))).1, fun b hb => ?_, ?_, ?_⟩
    . obtain ⟨o, e, d⟩ := T.obj _ _ st7 b hb
      exact (I'.pin (b, o) (List.mem_append_right _ (List.mem_append_right _ (Qb hb e)))).2.1
    . exact (I'.pin _ (List.mem_append_right _ (List.mem_append_left _ (List.mem_singleton.mpr rfl)))).2.1
    . exact (I'.pin _ (List.mem_append_right _ (List.mem_append_left _ (List.mem_singleton.mpr rfl)))).1
   cases okb with
   | false =>
    rw [if_neg Bool.false_ne_true] at q9 ⊢
    obtain ⟨m', hm', w9⟩ := hN _ _ _ q9
    obtain ⟨b1, b2, b3, b4⟩ := back I9
    exact ⟨m', hm', i + 1, σ8, H9, ys, us, k, I9.uc (fun p hp => absurd hp (by simp)), b1, b2, b3, rv5, b4, w9⟩
   | true =>
    rw [if_pos rfl] at q9 ⊢
    have toe := he' _ s9 σ8 H9 _ I9 q9
    rw [yP, yw, yA, yx, ye] at toe
    refine wpAny_mono toe (fun yv s10 ⟨yy, H10, I10, r10, q10⟩ => ?_) fun _ _ z => z.elim
    obtain ⟨m', hm', w10⟩ := hN _ _ _ q10
    obtain ⟨b1, b2, b3, b4⟩ := back I10
    have hus : us.length = ys.length := rv5.length.symm
    refine append_at b4 (fun h11 hs11 ho11 => ?_) (by rw [List.size_toArray, hus]; exact Nat.le_of_lt hsz)
    have I10' : Inv Y [] σ8 H10 s10 := I10.uc (fun p hp => absurd hp (by simp))
    have I11 : Inv Y [] σ8 H10 { s10 with heap := h11 } := I10'.turned (t' := s10.toks) (it := s2.heap.objs.size) (fun b o hb q => hs11.extBut b o hb q) b3 (by rw [yl]; exact hDC) (.inl (by rw [yex]; exact List.mem_cons_self))
     (fun x c q => by rw [ycl] at q; exact hclx _ List.mem_cons_self x c q) (fun p hp => by rw [ypn] at hp; exact absurd hp (by simp))
    refine ⟨m', hm', i + 1, σ8, H10, ys ++ [yy], us ++ [yv], k + 1, I11, T.keep _ _ _ b1 fun b hb o q => hs11.extBut b o (fun z => ?_) q, b2, b3, Vals.append rv5 (.cons r10 .nil), ?_, w10⟩
    . have z' : b = s2.heap.objs.size := z
      obtain ⟨o', ho', _⟩ := T.obj _ _ st2 b hb
      exact absurd (z' ▸ Heap.lt_size ho') (Nat.lt_irrefl _)
    . rw [ho11, List.push_toArray]
 exact codeAny_compStart_list loop (T.self _ 0 _ _ _ st4 loop)
def Cs (J : It) (js : List Nat) (nt : Nat) (g : TG) (tt : TT) (te : TE) (σ : St) (H : Hp) (Q : VK) : Prop := ∃ W : Nat -> Nat -> List V -> St -> Hp -> Prop, (∃ m, W 0 m [] (cap σ js nt) H) /\
 ∀ i m ys σ' H', W i m ys σ' H' -> ys.length < sizeLine /\ ((J.stop i H' /\ ∀ D, H' D = none -> Q (.ref D) (upd H' D (.lst ys))) \/
  (J.go i H' /\ ∃ N : List V -> St -> Hp -> Prop, (∀ ys σ' H', N ys σ' H' -> ∃ m', m' < m /\ W (i + 1) m' ys σ' H') /\ ∀ x H2, J.yld i H' x H2 -> g x σ' H2 fun σ3 H3 => tt σ3 H3 fun ok H4 => if ok = true then te σ3 H4 fun y H5 => N (ys ++ [y]) σ3 H5 else N ys σ3 H4))
theorem Hu {K : PySem.W.Frag} {tl : TE} {js : List Nat} {nt : Nat} {g : TG} {tt : TT} {te : TE} {σ : St} {H : Hp} {Q : VK} (h : tl σ H fun x H1 => ∃ a, x = .ref a /\ (∃ xs, SqL K H1 a xs) /\ Cs (Itl K a) js nt g tt te σ H1 Q) : Oi js nt (Lr K tl) g tt te σ H Q := h
theorem r_yes {σ : St} {H : Hp} {QB : Bool -> Hp -> Prop} (h : QB true H) : tYes σ H QB := h
theorem compL {K : PySem.W.Frag} {a : Addr} {xs : List V} {js : List Nat} {g : TG} {tt : TT} {te : TE} {σ : St} {H : Hp} {Q : VK} (caps : St) (Pv : Nat -> List V -> Hp -> Prop) (hcaps : cap σ js 1 = caps ++ [none]) (hsz : xs.length < sizeLine) (h0 : Pv 0 [] H)
 (hl : ∀ i ys H, i <= xs.length -> Pv i ys H -> SqL K H a xs) (hlen : ∀ i ys H, Pv i ys H -> ys.length <= i)
 (hs : ∀ (i : Nat) x ys z H, xs[i]? = some x -> Pv i ys H -> g x (caps ++ [z]) H fun σ3 H3 => tt σ3 H3 fun ok H4 => if ok = true then te σ3 H4 fun y H5 => Pv (i + 1) (ys ++ [y]) H5 /\ ∃ z, σ3 = caps ++ [z] else Pv (i + 1) ys H4 /\ ∃ z, σ3 = caps ++ [z])
 (hd : ∀ ys H, Pv xs.length ys H -> ∀ D, H D = none -> Q (.ref D) (upd H D (.lst ys))) : ∃ a', V.ref a = .ref a' /\ (∃ xs, SqL K H a' xs) /\ Cs (Itl K a') js 1 g tt te σ H Q := by
 refine ⟨a, rfl, ⟨xs, hl 0 [] H (Nat.zero_le _) h0⟩, fun i m ys σ' H' => m = xs.length - i /\ i <= xs.length /\ Pv i ys H' /\ ∃ z, σ' = caps ++ [z], ⟨xs.length, by simp, Nat.zero_le _, h0, none, hcaps⟩, ?_⟩
 rintro i m ys σ' H' ⟨rfl, hi, p, z, rfl⟩
 refine ⟨by have := hlen i ys H' p; omega, ?_⟩
 have q := hl i ys H' hi p
 by_cases hlt : i < xs.length
 . refine .inr ⟨⟨xs, xs[i], q, by simp [hlt]⟩, fun ys σ' H' => Pv (i + 1) ys H' /\ ∃ z, σ' = caps ++ [z], fun ys σ' H' ⟨p', q'⟩ => ⟨xs.length - (i + 1), by omega, rfl, hlt, p', q'⟩, fun x H2 y => ?_⟩
   obtain ⟨e, y⟩ := y
   subst e
   exact hs i x ys z _ (y xs q) p
 . have e : i = xs.length := by omega
   subst e
   exact .inl ⟨⟨xs, q, Nat.le_refl _⟩, hd ys H' p⟩
end L2
namespace L2
open PySem PySem.Spec PyProof.Rows
def rAll (K : PySem.W.Frag) : List V -> Hp -> VK -> Prop := fun xs H Q => ∃ (p : Addr) (bs : List Bool), xs = [.ref p] /\ SqL K H p (bs.map V.bl) /\ Q (.bl (bs.all id)) H
def rSum (K : PySem.W.Frag) : List V -> Hp -> VK -> Prop := fun xs H Q => ∃ (p : Addr) (ns : List Int), xs = [.ref p] /\ SqL K H p (ns.map V.int) /\ Q (.int ns.sum) H
theorem Rg : ∀ {bs : List Bool} {us : List Value}, Vals (bs.map V.bl) us -> us = bs.map Value.bool
 | [], us, r => by rw [List.map_nil] at r; cases r; rfl
 | b :: bs, us, r => by
  rw [List.map_cons] at r
  cases r with
  | cons r1 r2 => rw [Rg r2, show _ = Value.bool b from r1]; rfl
theorem range_all : ∀ (bs : List Bool), (List.range bs.length).all (fun i => bs.getD i false) = bs.all id
 | [] => rfl
 | b :: bs => by
  rw [List.length_cons, List.range_succ_eq_map, List.all_cons, List.all_map, List.all_cons, <- range_all bs]
  rfl
section
variable {X : Cx}
theorem ks {bs : List Bool} {i : Nat} {v : Value} (h : (bs.map Value.bool).toArray[i]? = some v) : v = .bool (bs.getD i false) := by
 rw [List.getElem?_toArray, List.getElem?_map] at h
 cases q : bs[i]? with
 | none => rw [q] at h; cases h
 | some b => rw [q] at h; rw [List.getD_eq_getElem?_getD, q]; exact (Option.some.inj h).symm
theorem cl_all (hc : X.calm = true) : Xb X (.builtin "all") (rAll X.K) := by
 intro pins s σ H xs us Q I r h
 obtain ⟨p, bs, rfl, hq, q⟩ := h
 obtain ⟨u, rfl, rx⟩ := vals1 r
 cases rx
 obtain ⟨its, r', pl, hz⟩ := I.list hq
 have e := Rg r'
 subst e
 have hl := pl.isList
 have hlt : p < s.heap.objs.size := by obtain ⟨_, e, _⟩ := hl; exact Heap.lt_size e
 refine PySem.call_all_walk (wpAny_pyIter_list hl ?_)
 refine ⟨_, _, _, _, _, _, fun i => bs.getD i false, rfl, Walks.list (A := X.A.in1) (I.ok.hd hc) s.heap.objs.size p (Nat.ne_of_lt hlt) _, ⟨⟨_, Heap.get?_push_size _ rfl, rfl, rfl⟩, hl.push _⟩, ?_, fun h' tk hk => ?_⟩
 . intro i v s' Q' E' hP hQ'
   rw [ks hP]
   exact wpAny_truthy_bool hQ'
 . refine ⟨.bl (bs.all id), H, ?_, ?_, q⟩
   . exact I.kept (t' := tk) fun b o e => hk b o (fun z => absurd (Heap.lt_size e) (by rw [List.mem_singleton.mp z]; exact Nat.lt_irrefl _)) (Heap.get?_push_of_some _ e)
   . show Value.bool _ = Value.bool _
     rw [show (bs.map Value.bool).toArray.size = bs.length by simp, range_all]
theorem Qg : ∀ {ns : List Int} {us : List Value}, Vals (ns.map V.int) us -> ∃ xs : List (Int × Tok), us = xs.map (fun p => Value.int p.1 p.2) /\ xs.map (·.1) = ns
 | [], us, r => by rw [List.map_nil] at r; cases r; exact ⟨[], rfl, rfl⟩
 | n :: ns, us, r => by
  rw [List.map_cons] at r
  cases r with
  | cons r1 r2 =>
   obtain ⟨xs, e1, e2⟩ := Qg r2
   obtain ⟨t, e⟩ := r1
   exact ⟨(n, t) :: xs, by rw [e, e1]; rfl, by rw [List.map_cons, e2]⟩
theorem cl_sum (hc : X.calm = true) : Xb X (.builtin "sum") (rSum X.K) := by
 intro pins s σ H xs us Q I r h
 obtain ⟨p, ns, rfl, hq, q⟩ := h
 obtain ⟨u, rfl, rx⟩ := vals1 r
 cases rx
 obtain ⟨its, r', pl, hz⟩ := I.list hq
 obtain ⟨ps, e1, e2⟩ := Qg r'
 have hl := pl.isList
 have e3 : its.toArray = PySem.intItems ps.toArray := by rw [e1]; simp [PySem.intItems]
 rw [e3] at hl
 refine PySem.sum_intListG (I.ok.hd hc) hl fun h' tk t' hk => ⟨.int ns.sum, H, I.kept (t' := tk) hk, ⟨t', ?_⟩, q⟩
 rw [PySem.preSum_eq, List.take_of_length_le (by simp)]
 simp only [e2]
end
section
variable {K : PySem.W.Frag} {H : Hp} {Q : VK}
theorem r_all {p : Addr} {bs : List Bool} (h1 : H p = some (.lst (bs.map V.bl))) (h : Q (.bl (bs.all id)) H) : rAll K [.ref p] H Q := ⟨p, bs, rfl, SqL.of h1, h⟩
theorem r_sum {p : Addr} {ns : List Int} (h1 : H p = some (.lst (ns.map V.int))) (h : Q (.int ns.sum) H) : rSum K [.ref p] H Q := ⟨p, ns, rfl, SqL.of h1, h⟩
end
def CellsOk (X : Cx) : List (Str × Addr) -> Prop
 | [] => True
 | p :: r => X.env.cells.lookup p.1 = some p.2 /\ CellsOk X r
theorem CellsOk.all {X : Cx} : ∀ {cl : List (Str × Addr)}, CellsOk X cl -> ∀ p ∈ cl, X.env.cells.lookup p.1 = some p.2
 | [], _, p, h => by cases h
 | q :: r, ⟨h1, h2⟩, p, h => by
  rcases List.mem_cons.mp h with rfl | h
  . exact h1
  . exact CellsOk.all h2 p h
theorem cap1 {X : Cx} {e : Env} {x : Str} {j : Nat} (h1 : X.N[j]? = some x) (h2 : X.env.scope.names.lookup x = some .cell) (h3 : e.scope.names.lookup x = some .cell) (h4 : e.cells.lookup x = X.env.cells.lookup x) :
 X.N[j]? = some x /\ Vis X.env.scope x /\ X.env.kindOf x ≠ some .local /\ (e.kindOf x = some .cell \/ e.kindOf x = some .free) /\ e.cells.lookup x = X.env.cells.lookup x :=
 ⟨h1, .inr (.inl h2), (fun h => by have h' : X.env.scope.names.lookup x = some .local := h; rw [h2] at h'; cases h'), .inl h3, h4⟩
theorem Vb {env : Env} : ∀ {names : List (Str × NameKind)} {x : Str} {k' : NameKind},
 (names.map fun (n, k) => if (k == NameKind.free && env.scope.kind == .function && env.kindOf n == some .cell) then (n, NameKind.cell) else (n, k)).lookup x = some k' -> ∃ k, (x, k) ∈ names /\ (k' = k \/ k = .free)
 | [], _, _, h => by simp at h
 | (n, k) :: r, x, k', h => by
  rw [List.map_cons] at h
  dsimp only at h
  by_cases hx : x = n
  . subst hx
    refine ⟨k, List.mem_cons_self, ?_⟩
    by_cases c : (k == NameKind.free && env.scope.kind == .function && env.kindOf x == some .cell) = true
    . right
      simp only [Bool.and_eq_true, beq_iff_eq] at c
      exact c.1.1
    . rw [if_neg c] at h
      simp only [List.lookup_cons_self, Option.some.injEq] at h
      exact .inl h.symm
  . have hx' : (x == n) = false := by simpa using hx
    have h2 : (r.map fun (n, k) => if (k == NameKind.free && env.scope.kind == .function && env.kindOf n == some .cell) then (n, NameKind.cell) else (n, k)).lookup x = some k' := by
     by_cases c : (k == NameKind.free && env.scope.kind == .function && env.kindOf n == some .cell) = true
     . rw [if_pos c, List.lookup_cons, hx'] at h; exact h
     . rw [if_neg c, List.lookup_cons, hx'] at h; exact h
    obtain ⟨k0, m, e⟩ := Vb h2
    exact ⟨k0, List.mem_cons_of_mem _ m, e⟩
theorem Gp {X : Cx} {scope : Scope} {cl : List (Str × Addr)} (hcell : ∀ y ∈ scope.names, y.2 ≠ .cell) (h : (scope.names.all fun y => y.2 != .free || (cl.lookup y.1).isSome) = true) :
 ∀ C x, ((compEnvC scope cl C X.env).kindOf x = some .cell \/ (compEnvC scope cl C X.env).kindOf x = some .free) -> ∃ c, cl.lookup x = some c := by
 intro C x hx
 obtain ⟨k', hk, e⟩ : ∃ k', (relabel scope X.env).names.lookup x = some k' /\ (k' = .cell \/ k' = .free) := by
  rcases hx with hx | hx
  . exact ⟨_, hx, .inl rfl⟩
  . exact ⟨_, hx, .inr rfl⟩
 obtain ⟨k, m, e2⟩ := Vb hk
 have hf : k = .free := by
  rcases e2 with e2 | e2
  . subst e2
    rcases e with e | e
    . exact absurd e (hcell _ m)
    . exact e
  . exact e2
 have z := List.all_eq_true.mp h _ m
 rw [hf] at z
 have z' : (cl.lookup x).isSome = true := by simpa using z
 exact Option.isSome_iff_exists.mp z'
theorem Pu {X : Cx} {elt tg iter : Expr} {ifs : List Expr} {scope : Scope} {pos : Pos} {cl : List (Str × Addr)} {wi : TI} {g : TG} {tt : TT} {te : TE} (cN tN : List Str) (js : List Nat)
 (hclos : closureFor scope X.env = pure cl) (hc : X.calm = true) (hx0 : X.xe = fun _ _ => False) (hi : PI X tg iter wi)
 (hcell : ∀ y ∈ scope.names, y.2 ≠ .cell) (hkind : scope.kind = .function) (hnames : ∀ y ∈ scope.names, y.2 = .local -> scope.names.lookup y.1 = some .local)
 (hcl : CellsOk X cl) (hall : (scope.names.all fun y => y.2 != .free || (cl.lookup y.1).isSome) = true) (hcap : ∀ C, pf X (compEnvC scope cl C X.env) cN js)
 (hg : ∀ C s₀ H₀ ex, PG (cxIn X scope cl C (cN ++ tN) s₀ H₀ ex) tg g) (ht : ∀ C s₀ H₀ ex, PTs (cxIn X scope cl C (cN ++ tN) s₀ H₀ ex) ifs tt) (he : ∀ C s₀ H₀ ex, PE (cxIn X scope cl C (cN ++ tN) s₀ H₀ ex) elt te)
 (hs : ∀ x, foldedSetIterable iter X.env x = pure x := by intro _; first | rfl | with_unfolding_all rfl) :
 PE X (.ListComp elt [⟨tg, iter, ifs, 0⟩] scope pos) (Oi js tN.length wi g tt te) :=
 Fl hc hi hclos (fun _ => xc hcell) hkind hnames hcl.all (Gp hcell hall) hcap hg ht he hs
end L2
namespace HT
open PySem PyProof.Rows
section
variable {prog : Program} {w : World} {A : Around} {E : Value -> Shared -> Prop} {s : Shared}
theorem Yr {t b : Addr} {ws : List Value} {Q : Value -> Shared -> Prop} (ht : IsTup s.heap t ([] : List Value).toArray) (hb : IsTup s.heap b ws.toArray) (h : Q (.ref b) s) : wpAny (model prog w) A (binaryOp .Add (.ref t) (.ref b)) Q E s := by
 obtain ⟨⟨cls, dd, data, sl⟩, ho, hc, n, hd⟩ := id ht
 obtain ⟨⟨cls2, dd2, data2, sl2⟩, ho2, hc2, n2, hd2⟩ := id hb
 simp only at hc hd hc2 hd2
 subst hc hd hc2 hd2
 exact concat_meets ⟨_, ho, rfl⟩ ⟨_, ho2, rfl⟩ noFill_tuple_add seq_tuple_add PySem.F.slot_tuple_add PySem.F.entry_tuple_add (PySem.F.args_tuple_add_2 _ _)
  (tuple_addW0 t b _ ws.toArray n n2 dd dd2 sl sl2 rfl) ⟨ho, ho2, h⟩
end
end HT
namespace L2
open PySem PySem.Spec PyProof.Rows
section
variable {X : Cx}
def wt : R2 := fun x y H Q => ∃ a b xs ys, x = .ref a /\ y = .ref b /\ H a = some (.tup xs) /\ H b = some (.tup ys) /\ xs.length + ys.length <= sizeLine /\ ∀ p H', Same H H' -> H' p = some (.tup (xs ++ ys)) -> Q (.ref p) H'
theorem qr : OpR X (binaryOp .Add) wt := by
 intro pins s σ H x y v u Q I rx ry h
 obtain ⟨a, b, xs, ys, rfl, rfl, ha, hb, hz, q⟩ := h
 by_cases hx : xs = []
 . subst hx
   cases rx
   cases ry
   obtain ⟨its, r1, p1, _⟩ := I.tuple (SqT.of ha)
   obtain ⟨its2, r2, p2, _⟩ := I.tuple (SqT.of hb)
   cases r1
   exact HT.Yr p1 p2 ⟨.ref b, H, I, rfl, q b H (Same.refl H) hb⟩
 . refine So pins s σ H _ _ v u Q I rx ry ⟨a, b, xs, ys, rfl, rfl, SqT.of ha, SqT.of hb, hx, hz, fun e => ?_, fun e p hp => q p _ ((Same.refl H).new hp) ka⟩
   subst e
   exact q a H (Same.refl H) (by rw [List.append_nil]; exact ha)
def er (K : PySem.W.Frag) : R2 := fun x y H Q => gr K x y H Q \/ wt x y H Q
theorem Su : OpR X (binaryOp .Add) (er X.K) := Tu.or qr
end
section
variable {K : PySem.W.Frag} {H : Hp} {Q : VK} {σ : St}
theorem Ju {p q : Int} (h : Q (.int (p + q)) H) : er K (.int p) (.int q) H Q := .inl (r_addI h)
theorem Sf {a b : Addr} {xs ys : List V} (h1 : H a = some (.lst xs)) (h2 : H b = some (.lst ys)) (h3 : xs.length + ys.length <= sizeLine) (h : ∀ p, H p = none -> Q (.ref p) (upd H p (.lst (xs ++ ys)))) : er K (.ref a) (.ref b) H Q := .inl (r_addL h1 h2 h3 h)
end
end L2
namespace L2
open PySem PySem.Spec PyProof.Rows
section
variable {X : Cx} {K : PySem.W.Frag}
theorem ixK (h : X.K = K) : IxR X (rIx2 K) := by subst h; exact ix_2
theorem addK (h : X.K = K) : OpR X (binaryOp .Add) (er K) := by subst h; exact Su
theorem eqK (h : X.K = K) (hu : X.A.units + 64 < cLine) : OpR X (compareOp .Eq) (rEqA K) := by subst h; exact op_eqA hu
theorem neK (h : X.K = K) (hu : X.A.units + 64 < cLine) : OpR X (compareOp .NotEq) (rNeA K) := by subst h; exact op_neA hu
theorem ltK (h : X.K = K) (hu : X.A.units + 64 < cLine) : OpR X (compareOp .Lt) (rLtA K) := by subst h; exact op_ltA hu
theorem leK (h : X.K = K) (hu : X.A.units + 64 < cLine) : OpR X (compareOp .LtE) (rLeA K) := by subst h; exact op_leA hu
theorem isiK (h : X.K = K) : Xb X (.builtin "isinstance") (rIsi K) := by subst h; exact cl_isi
theorem lenK (h : X.K = K) : Xb X (.builtin "len") (rLen K) := by subst h; exact cl_len
theorem listK (h : X.K = K) : Xb X (.type "list") (Yj K) := by subst h; exact Gv
theorem allK (h : X.K = K) (hc : X.calm = true) : Xb X (.builtin "all") (rAll K) := by subst h; exact cl_all hc
theorem sumK (h : X.K = K) (hc : X.calm = true) : Xb X (.builtin "sum") (rSum K) := by subst h; exact cl_sum hc
theorem truK {a : Expr} {ta : TE} (h : X.K = K) (ha : PE X a ta) (he : ∀ whole, isTrue a X.env whole = (do let v <- whole; standAt a.pos; holding [v] (truthy v)) := by intro _; first | rfl | with_unfolding_all rfl) : PT X a (tTru K ta) := by subst h; exact pt_tru ha he
theorem piLK {tg l : Expr} {tl : TE} (h : X.K = K) (hl : PE X l tl) : PI X tg l (Lr K tl) := by subst h; exact Nu hl
theorem Og {es : List Expr} {k : Nat} {t : TGs} {n : Nat} {pos : Pos} (hk : X.K = K) (hc : X.calm = true) (h : PGs X es t)
 (hn : (assignEach es X.env).length = n := by first | rfl | with_unfolding_all rfl) (hst : (assignEach es X.env).findIdx? (·.1) = none := by first | rfl | with_unfolding_all rfl) : PG X (.Tuple es k pos) (gTup K n t) := by subst hk; exact pg_tup hc h hn hst
end
end L2
namespace MB
def ch : Nat -> Nat -> Nat
 | _, 0 => 1
 | 0, _ + 1 => 0
 | n + 1, k + 1 => ch n k + ch n (k + 1)
theorem ib (n : Nat) : ch n 0 = 1 := by cases n <;> rfl
theorem Vp (k : Nat) : ch 0 (k + 1) = 0 := rfl
theorem de (n k : Nat) : ch (n + 1) (k + 1) = ch n k + ch n (k + 1) := rfl
theorem ze : ∀ {n k : Nat}, n < k -> ch n k = 0
 | 0, k + 1, _ => rfl
 | n + 1, k + 1, h => by rw [de, ze (by omega), ze (by omega)]
theorem Ck : ∀ n : Nat, ch n n = 1
 | 0 => rfl
 | n + 1 => by rw [de, Ck n, ze (by omega)]
theorem Sl : ∀ {n k : Nat}, k <= n -> 0 < ch n k
 | n, 0, _ => by rw [ib]; decide
 | n + 1, k + 1, h => by rw [de]; have := Sl (n := n) (k := k) (by omega); omega
theorem Ae : ∀ n k : Nat, (k + 1) * ch (n + 1) (k + 1) = (n + 1) * ch n k
 | 0, 0 => rfl
 | 0, k + 1 => by rw [de, Vp, Vp]; omega
 | n + 1, 0 => by
  have h := Ae n 0
  rw [ib] at h
  rw [de (n + 1) 0, ib]
  omega
 | n + 1, k + 1 => by
  have h1 := Ae n k
  have h2 := Ae n (k + 1)
  have e1 : ch (n + 1) (k + 1) = ch n k + ch n (k + 1) := de n k
  rw [de (n + 1) (k + 1)]
  have e2 : (k + 1 + 1) * (ch (n + 1) (k + 1) + ch (n + 1) (k + 1 + 1)) = (k + 1) * ch (n + 1) (k + 1) + ch (n + 1) (k + 1) + (k + 1 + 1) * ch (n + 1) (k + 1 + 1) := by
   rw [Nat.mul_add, Nat.add_mul (k + 1) 1, Nat.one_mul]
  rw [e2, h1, h2, e1]
  have e3 : (n + 1 + 1) * (ch n k + ch n (k + 1)) = (n + 1) * ch n k + (n + 1) * ch n (k + 1) + (ch n k + ch n (k + 1)) := by
   rw [Nat.add_mul (n + 1) 1, Nat.one_mul, Nat.mul_add]
  rw [e3]
  omega
theorem Hv (n k : Nat) : (k + 1) * ch n (k + 1) = (n - k) * ch n k := by
 by_cases h : k <= n
 . have h1 := Ae n k
   rw [de, Nat.mul_add] at h1
   have e : (n + 1) * ch n k = (n - k) * ch n k + (k + 1) * ch n k := by
    rw [<- Nat.add_mul]; congr 1; omega
   omega
 . rw [ze (by omega), ze (by omega), Nat.mul_zero, Nat.mul_zero]
theorem Bk : ∀ {n k : Nat}, k <= n -> ch n (n - k) = ch n k
 | 0, 0, _ => rfl
 | n + 1, 0, _ => by rw [ib, Nat.sub_zero, Ck]
 | n + 1, k + 1, h => by
  by_cases e : k = n
  . subst e; rw [Nat.sub_self, ib, Ck]
  . have h1 := Bk (n := n) (k := k) (by omega)
    have h2 := Bk (n := n) (k := k + 1) (by omega)
    have e1 : n + 1 - (k + 1) = (n - (k + 1)) + 1 := by omega
    rw [e1, de, de, h2]
    have e2 : n - (k + 1) + 1 = n - k := by omega
    rw [e2, h1]; omega
theorem fb : ∀ n k : Nat, ch n k <= 2 ^ n
 | 0, 0 => by decide
 | 0, k + 1 => by rw [Vp]; decide
 | n + 1, 0 => by rw [ib]; exact Nat.one_le_two_pow
 | n + 1, k + 1 => by
  have h1 := fb n k
  have h2 := fb n (k + 1)
  rw [de, Nat.pow_succ]; omega
theorem Rt (n i : Nat) (h : i <= n) : ((ch n i : Int) * ((n : Int) - (i : Int))) / ((i : Int) + 1) = (ch n (i + 1) : Int) := by
 have e := Hv n i
 have e1 : ((ch n i : Int) * ((n : Int) - (i : Int))) = (ch n (i + 1) : Int) * ((i : Int) + 1) := by
  have e2 : ((n : Int) - (i : Int)) = ((n - i : Nat) : Int) := by omega
  have e3 : ((i : Int) + 1) = ((i + 1 : Nat) : Int) := by omega
  rw [e2, e3, <- Int.natCast_mul, <- Int.natCast_mul, Nat.mul_comm, <- e, Nat.mul_comm]
 rw [e1, Int.mul_ediv_cancel _ (by omega)]
def W (many few : Int) : Int := if few < 0 \/ few > many then 0 else (ch many.toNat few.toNat : Int)
theorem mq {many few : Int} (h : few < 0 \/ few > many) : W many few = 0 := by unfold W; rw [if_pos h]
theorem W_in {many few : Int} (h : ¬ (few < 0 \/ few > many)) : W many few = (ch many.toNat few.toNat : Int) := by unfold W; rw [if_neg h]
theorem Uv (n k : Nat) : W (n : Int) (k : Int) = (ch n k : Int) := by
 by_cases h : k <= n
 . rw [W_in (by omega)]; rfl
 . rw [mq (by omega), ze (by omega)]; rfl
theorem W_symm {m k : Int} (h : 0 <= m) : W m (m - k) = W m k := by
 by_cases hk : k < 0 \/ k > m
 . rw [mq hk, mq (by omega)]
 . rw [W_in hk, W_in (by omega)]
   have e : (m - k).toNat = m.toNat - k.toNat := by omega
   rw [e, Bk (by omega)]
theorem ch_min {m k j : Int} (h0 : 0 <= k) (h1 : k <= m) (hj : j = k \/ j = m - k) : (ch m.toNat j.toNat : Int) = W m k := by
 rcases hj with rfl | rfl
 . rw [W_in (by omega)]
 . rw [<- W_symm (by omega), W_in (by omega)]
end MB
namespace BL
open PySem PySem.Spec PyProof.Rows L2
def DrL (H : Hp) (d l : Addr) : Prop := ∃ (ns : List Int) (i c r : Int), H d = some (.lst [.ref l, .int i, .int c, .int r]) /\ H l = some (.lst (ns.map V.int)) /\ l ≠ d /\ 0 <= i
def Dr (H : Hp) (d : Addr) : Prop := ∃ l, DrL H d l
theorem DrL.some {H : Hp} {d l : Addr} (D : DrL H d l) : (∃ xs, H d = some (.lst xs)) /\ ∃ xs, H l = some (.lst xs) := by
 obtain ⟨ns, i, c, r, h, h2, _⟩ := D; exact ⟨⟨_, h⟩, ⟨_, h2⟩⟩
theorem DrL.new {H : Hp} {d l p : Addr} {o : HO} (D : DrL H d l) (e : H p = none) : DrL (upd H p o) d l := by
 obtain ⟨ns, i, c, r, h, h2, n, z⟩ := D
 exact ⟨ns, i, c, r, by rw [Aa (da h e)]; exact h, by rw [Aa (da h2 e)]; exact h2, n, z⟩
theorem DrL.upd {H : Hp} {d l p : Addr} {o : HO} (D : DrL H d l) (e1 : p ≠ d) (e2 : p ≠ l) : DrL (L2.upd H p o) d l := by
 obtain ⟨ns, i, c, r, h, h2, n, z⟩ := D
 exact ⟨ns, i, c, r, by rw [Aa e1.symm]; exact h, by rw [Aa e2.symm]; exact h2, n, z⟩
theorem DrL.same {H H' : Hp} {d l : Addr} (D : DrL H d l) (e : Same H H') : DrL H' d l := by
 obtain ⟨ns, i, c, r, h, h2, n, z⟩ := D
 exact ⟨ns, i, c, r, e _ _ h, e _ _ h2, n, z⟩
theorem DrL.ne {H : Hp} {d l p : Addr} (D : DrL H d l) (e : H p = none) : p ≠ d /\ p ≠ l := by
 obtain ⟨⟨_, h1⟩, _, h2⟩ := D.some
 exact ⟨(da h1 e).symm, (da h2 e).symm⟩
theorem Dr.new {H : Hp} {d p : Addr} {o : HO} (D : Dr H d) (e : H p = none) : Dr (upd H p o) d := let ⟨l, D⟩ := D; ⟨l, D.new e⟩
theorem Dr.ne {H : Hp} {d p : Addr} (D : Dr H d) (e : H p = none) : p ≠ d := let ⟨_, D⟩ := D; (D.ne e).1
def Tn (K : PySem.W.Frag) : Sp := fun vs H Q _ => ∃ (a : Addr) (ns : List Int), vs = [.ref a] /\ SqL K H a (ns.map V.int) /\ ∀ (d l : Addr) (H' : Hp), H d = none -> H l = none -> DrL H' d l -> Same H H' -> Q (.ref d) H'
theorem Sn {K : PySem.W.Frag} {a : Addr} {ns : List Int} {H : Hp} {Q : VK} {E : XK} (hS : SqL K H a (ns.map V.int)) (k : ∀ (d l : Addr) (H' : Hp), H d = none -> H l = none -> DrL H' d l -> Same H H' -> Q (.ref d) H') : Tn K [.ref a] H Q E := ⟨a, ns, rfl, hS, k⟩
def Ms : Sp := fun vs H Q _ => ∃ (d l : Addr) (m : Int), vs = [.ref d, .int m] /\ DrL H d l /\ 0 < m /\ (∃ n : Nat, m.natAbs < 2 ^ n /\ n <= 9000) /\ ∀ (g : Int) (H' : Hp), 0 <= g -> g < m -> DrL H' d l -> Fr1 d H H' -> Q (.int g) H'
def spInt : Sp := fun vs H Q _ => ∃ n : Int, vs = [.int n] /\ Q (.bl true) H
def Ks : Sp := fun vs H Q _ => ∃ m k : Int, vs = [.int m, .int k] /\ m < 512 /\ Q (.int (MB.W m k)) H
theorem Wa {d l : Addr} {m : Int} {H : Hp} {Q : VK} {E : XK} (D : DrL H d l) (h1 : 0 < m) (h2 : m < 4294967296) (k : ∀ (g : Int) (H' : Hp), 0 <= g -> g < m -> DrL H' d l -> Fr1 d H H' -> Q (.int g) H') : Ms [.ref d, .int m] H Q E :=
 ⟨d, l, m, rfl, D, h1, ⟨32, by omega, by decide⟩, k⟩
theorem yh {m k : Int} {H : Hp} {Q : VK} {E : XK} (h : m < 512) (q : Q (.int (MB.W m k)) H) : Ks [.int m, .int k] H Q E := ⟨m, k, rfl, h, q⟩
theorem au {n : Int} {H : Hp} {Q : VK} {E : XK} (q : Q (.bl true) H) : spInt [.int n] H Q E := ⟨n, rfl, q⟩
def gI (a b : Int) : Int := (Nat.gcd a.natAbs b.natAbs : Int)
def spGcd : Sp := fun vs H Q _ => ∃ a b : Int, vs = [.int a, .int b] /\ 0 <= a /\ 0 <= b /\ Q (.int (gI a b)) H
theorem bu {a b : Int} {H : Hp} {Q : VK} {E : XK} (h1 : 0 <= a) (h2 : 0 <= b) (q : Q (.int (gI a b)) H) : spGcd [.int a, .int b] H Q E := ⟨a, b, rfl, h1, h2, q⟩
def loT (t b : Int) : Int := t / gI t b
def loB (t b : Int) : Int := b / gI t b
def spLow : Sp := fun vs H Q _ => ∃ t b : Int, vs = [.int t, .int b] /\ 0 < b /\ (∃ n : Nat, b.natAbs < 2 ^ n /\ n <= 9000) /\ ∀ p : Addr, H p = none -> Q (.ref p) (upd H p (.tup [.int (loT t b), .int (loB t b)]))
theorem En {t b : Int} {H : Hp} {Q : VK} {E : XK} (n : Nat) (h1 : 0 < b) (h2 : b.natAbs < 2 ^ n) (h3 : n <= 9000) (q : ∀ p : Addr, H p = none -> Q (.ref p) (upd H p (.tup [.int (loT t b), .int (loB t b)]))) : spLow [.int t, .int b] H Q E := ⟨t, b, rfl, h1, ⟨n, h2, h3⟩, q⟩
theorem Av (a : Int) : gI a 0 = (a.natAbs : Int) := by unfold gI; rw [Int.natAbs_zero, Nat.gcd_zero_right]
theorem gI_rec {a b : Int} (ha : 0 <= a) (hb : 0 < b) : gI b (a % b) = gI a b := by
 unfold gI
 have e : (a % b).natAbs = a.natAbs % b.natAbs := by
  rw [Int.natAbs_emod_of_nonneg ha]
 rw [e, Nat.gcd_comm b.natAbs, <- Nat.gcd_rec, Nat.gcd_comm]
theorem Ll {a b : Int} (hb : 0 < b) : 0 < gI a b := by
 unfold gI
 have := Nat.gcd_pos_of_pos_right a.natAbs (show 0 < b.natAbs by omega)
 omega
theorem gI_le {a b : Int} (hb : 0 < b) : (gI a b).natAbs <= b.natAbs := by
 unfold gI
 have := Nat.gcd_le_right a.natAbs (show 0 < b.natAbs by omega)
 rw [Int.natAbs_natCast]
 exact this
theorem gI_abs (a b : Int) : gI (if a < 0 then -a else a) b = gI a b := by
 unfold gI
 have e : (if a < 0 then -a else a).natAbs = a.natAbs := by split <;> omega
 rw [e]
theorem Ml (a b : Int) : gI a b ∣ a := by
 unfold gI
 have := Nat.gcd_dvd_left a.natAbs b.natAbs
 exact Int.ofNat_dvd_left.mpr this
theorem Ai (a b : Int) : gI a b ∣ b := by
 unfold gI
 have := Nat.gcd_dvd_right a.natAbs b.natAbs
 exact Int.ofNat_dvd_left.mpr this
theorem se {t b : Int} (hb : 0 < b) : loT t b * b = t * loB t b := by
 have hg := Ll (a := t) hb
 obtain ⟨x, hx⟩ := Ml t b
 obtain ⟨y, hy⟩ := Ai t b
 unfold loT loB
 generalize gI t b = g at *
 subst hx hy
 rw [Int.mul_ediv_cancel_left _ (by omega), Int.mul_ediv_cancel_left _ (by omega), Int.mul_comm g x, Int.mul_assoc]
theorem pk {t b : Int} (hb : 0 < b) : 0 < loB t b := Int.ediv_pos_of_pos_of_dvd hb (by have := Ll (a := t) hb; omega) (Ai t b)
theorem nv (t b : Int) : (loT t b).natAbs <= t.natAbs := Int.natAbs_ediv_le_natAbs _ _
theorem qv (t b : Int) : (loB t b).natAbs <= b.natAbs := Int.natAbs_ediv_le_natAbs _ _
end BL
namespace MB
def hv : Nat -> Nat -> Nat
 | n + 1, k + 1 => ch n k
 | _, _ => 0
def nm : Nat -> Nat -> List Nat -> Nat
 | 0, _, _ => 0
 | n + 1, p, l => match l with
  | [] => 0
  | x :: r => if x = p then nm n (p + 1) r else hv (n + 1) (r.length + 1) + nm n (p + 1) (x :: r)
def Ris : Nat -> Nat -> List Nat -> Prop
 | _, _, [] => True
 | p, e, x :: r => p <= x /\ x < e /\ Ris (x + 1) e r
theorem Ris.len : ∀ {l : List Nat} {p e : Nat}, Ris p e l -> l.length <= e - p
 | [], _, _, _ => Nat.zero_le _
 | x :: r, p, e, ⟨h1, h2, h3⟩ => by
  have := Ris.len h3
  simp only [List.length_cons]; omega
def run (x : Nat) : Nat -> List Nat
 | 0 => []
 | k + 1 => x :: run (x + 1) k
end MB
namespace BL
open PySem PySem.Spec PyProof.Rows L2
def zs (l : List Nat) : List Int := l.map (fun x : Nat => (x : Int))
def lstN (l : List Nat) : HO := .lst ((zs l).map V.int)
theorem zs_len (l : List Nat) : (zs l).length = l.length := List.length_map _
theorem lst_snoc (l : List Nat) (x : Nat) : ((zs l).map V.int ++ [V.int (x : Int)]) = (zs (l ++ [x])).map V.int := by
 unfold zs; simp
theorem Ja (l : List Nat) : ((zs l).map V.int).length = l.length := by rw [List.length_map, zs_len]
theorem Be {l : List Nat} {i : Nat} {x : Nat} (h : l[i]? = some x) : atI ((zs l).map V.int) (i : Int) = some (.int (x : Int)) := by
 refine Oc ?_
 unfold zs
 rw [List.getElem?_map, List.getElem?_map, h]; rfl
end BL
namespace BL
theorem kh {t b : Int} (hb : 0 < b) : Nat.gcd (loT t b).natAbs (loB t b).natAbs = 1 := by
 have hg := Ll (a := t) hb
 obtain ⟨x, hx⟩ := Ml t b
 obtain ⟨y, hy⟩ := Ai t b
 have e1 : loT t b = x := by unfold loT; rw [show t / gI t b = (gI t b * x) / gI t b from by rw [<- hx], Int.mul_ediv_cancel_left _ (by omega)]
 have e2 : loB t b = y := by unfold loB; rw [show b / gI t b = (gI t b * y) / gI t b from by rw [<- hy], Int.mul_ediv_cancel_left _ (by omega)]
 rw [e1, e2]
 have e3 : t.natAbs = (gI t b).natAbs * x.natAbs := by rw [<- Int.natAbs_mul, <- hx]
 have e4 : b.natAbs = (gI t b).natAbs * y.natAbs := by rw [<- Int.natAbs_mul, <- hy]
 have e5 : (gI t b).natAbs = Nat.gcd t.natAbs b.natAbs := by unfold gI; rw [Int.natAbs_natCast]
 have e6 : Nat.gcd t.natAbs b.natAbs = (gI t b).natAbs * Nat.gcd x.natAbs y.natAbs := by
  rw [<- Nat.gcd_mul_left, <- e3, <- e4]
 rw [<- e5] at e6
 have hp : 0 < (gI t b).natAbs := by omega
 have : (gI t b).natAbs * 1 = (gI t b).natAbs * Nat.gcd x.natAbs y.natAbs := by rw [Nat.mul_one]; exact e6
 exact (Nat.eq_of_mul_eq_mul_left hp this).symm
theorem mj {t b u c : Int} (hb : 0 < b) (hc : 0 < c) (h : t * c = u * b) : loT t b = loT u c /\ loB t b = loB u c := by
 have x1 := se (t := t) hb
 have x2 := se (t := u) hc
 have p1 := pk (t := t) hb
 have p2 := pk (t := u) hc
 have c1 := kh (t := t) hb
 have c2 := kh (t := u) hc
 generalize loT t b = t1 at *
 generalize loB t b = b1 at *
 generalize loT u c = u1 at *
 generalize loB u c = c1' at *
 have key : t1 * c1' = u1 * b1 := by
  have hbc : b * c ≠ 0 := Int.mul_ne_zero (by omega) (by omega)
  have e : (t1 * c1') * (b * c) = (u1 * b1) * (b * c) := by
   calc (t1 * c1') * (b * c) = (t1 * b) * (c1' * c) := by rw [Int.mul_assoc, Int.mul_assoc, Int.mul_left_comm c1' b c]
    _ = (t * b1) * (c1' * c) := by rw [x1]
    _ = (t * c) * (b1 * c1') := by rw [Int.mul_assoc, Int.mul_assoc, Int.mul_left_comm b1 c1' c, Int.mul_comm b1 c, Int.mul_left_comm c1' c b1, Int.mul_comm c1' b1]
    _ = (u * b) * (b1 * c1') := by rw [h]
    _ = (u * c1') * (b1 * b) := by rw [Int.mul_assoc, Int.mul_assoc, Int.mul_left_comm b b1 c1', Int.mul_comm b c1', Int.mul_left_comm b1 c1' b]
    _ = (u1 * c) * (b1 * b) := by rw [x2]
    _ = (u1 * b1) * (b * c) := by rw [Int.mul_assoc, Int.mul_assoc, Int.mul_left_comm c b1 b, Int.mul_comm c b]
  exact Int.eq_of_mul_eq_mul_right hbc e
 have n1 : t1.natAbs * c1'.natAbs = u1.natAbs * b1.natAbs := by rw [<- Int.natAbs_mul, <- Int.natAbs_mul, key]
 have d1 : b1.natAbs ∣ c1'.natAbs := by
  have : b1.natAbs ∣ t1.natAbs * c1'.natAbs := ⟨u1.natAbs, by rw [n1, Nat.mul_comm]⟩
  exact Nat.Coprime.dvd_of_dvd_mul_left (by rw [Nat.coprime_comm]; exact c1) this
 have d2 : c1'.natAbs ∣ b1.natAbs := by
  have : c1'.natAbs ∣ u1.natAbs * b1.natAbs := ⟨t1.natAbs, by rw [<- n1, Nat.mul_comm]⟩
  exact Nat.Coprime.dvd_of_dvd_mul_left (by rw [Nat.coprime_comm]; exact c2) this
 have e : b1.natAbs = c1'.natAbs := Nat.dvd_antisymm d1 d2
 have e' : b1 = c1' := by omega
 subst e'
 refine ⟨?_, rfl⟩
 exact Int.eq_of_mul_eq_mul_right (by omega) key
end BL
namespace BL
open PySem PySem.Spec PyProof.Rows L2
def tupF (q : Int × Int) : HO := .tup [.int q.1, .int q.2]
def Big (q : Int × Int) : Prop := q.1.natAbs < 2 ^ 4000 /\ q.2.natAbs < 2 ^ 4000
def ltF (p q : Int × Int) : Bool := decide (p.1 * q.2 < q.1 * p.2)
structure FrAt (H : Hp) (f : Addr) (ps : List Addr) (qs : List (Int × Int)) : Prop where
 ls : H f = some (.lst (ps.map V.ref))
 it : ∀ i : Nat, ∀ p, ps[i]? = some p -> ∃ q, qs[i]? = some q /\ H p = some (tupF q)
 ln : ps.length = qs.length
theorem FrAt.same {H H' : Hp} {f : Addr} {ps : List Addr} {qs : List (Int × Int)} (F : FrAt H f ps qs) (s : Same H H') : FrAt H' f ps qs :=
 ⟨s _ _ F.ls, fun i p h => by obtain ⟨q, a, b⟩ := F.it i p h; exact ⟨q, a, s _ _ b⟩, F.ln⟩
theorem rb {α : Type} {l : List α} {i : Nat} {x : α} (h : l[i]? = some x) : l.take (i + 1) = l.take i ++ [x] := by
 rw [List.take_add_one, h]; rfl
theorem FrAt.push {H : Hp} {f p : Addr} {ps : List Addr} {qs : List (Int × Int)} {q : Int × Int} (F : FrAt H f ps qs) (hp : H p = none) : FrAt (upd (upd H p (tupF q)) f (.lst (ps.map V.ref ++ [.ref p]))) f (ps ++ [p]) (qs ++ [q]) := by
 have hfp : f ≠ p := da F.ls hp
 refine ⟨by rw [ka]; simp, fun i p' h => ?_, by rw [List.length_append, List.length_append, F.ln]; rfl⟩
 by_cases hi : i < ps.length
 . rw [List.getElem?_append_left hi] at h
   obtain ⟨q', a, b⟩ := F.it i p' h
   refine ⟨q', by rw [List.getElem?_append_left (by rw [<- F.ln]; exact hi)]; exact a, ?_⟩
   rw [Aa (ag b F.ls Ef), Aa (da b hp)]
   exact b
 . rw [List.getElem?_append_right (by omega)] at h
   have e : i - ps.length = 0 := by
    cases z : i - ps.length with
    | zero => rfl
    | succ k => rw [z] at h; simp at h
   rw [e] at h
   simp at h
   subst h
   refine ⟨q, by rw [List.getElem?_append_right (by rw [<- F.ln]; omega), <- F.ln, e]; rfl, ?_⟩
   rw [Aa hfp.symm, ka]
theorem FrAt.new {H : Hp} {f p : Addr} {ps : List Addr} {qs : List (Int × Int)} {o : HO} (F : FrAt H f ps qs) (h : H p = none) : FrAt (upd H p o) f ps qs := F.same ((Same.refl H).new h)
end BL
namespace MB
end MB
namespace BL
open PySem PySem.Spec PyProof.Rows L2
end BL
namespace L2
open PySem PySem.Spec PyProof.Rows
section
variable {X : Cx} {pins : List (Addr × Obj)} {σ : St} {H : Hp} {s : Shared} {h' : Heap}
theorem Inv.Cj {t' : Nat} {ch : List Addr} (I : Inv X pins σ H s) (k : ∀ b o, b ∉ ch -> s.heap.get? b = some o -> h'.get? b = some o) (hf : ∀ b ∈ ch, FpOk X pins H b) : Inv X pins σ H { s with heap := h', toks := t' } := by
 have nit : ∀ b u, H b = some u -> b ∉ ch := fun b u e z => by rw [(hf b z).1] at e; cases e
 refine I.step (g' := s.gens) (d' := s.drawn) (ch := ch) (fun b hb => ?_) (fun b o _ _ hc e _ => k b o hc e) (fun b o _ _ hc e _ => ⟨o.slots, k b o hc e⟩) (fun _ _ _ _ n => n)
  (fun b o hc e => ⟨o, k b o hc e⟩) (fun _ _ e => e) (fun _ _ _ e => e) (fun b ps e => ⟨#[], by rw [e]; simp⟩) (fun m hm => ?_) (fun b u e => ?_) I.bare
 . obtain ⟨f0, f1, f2, f3, f4, f5⟩ := hf b hb
   exact ⟨f3, f1, f4, f5⟩
 . obtain ⟨o, es, ep, ho, r⟩ := hm
   exact ⟨o, es, ep, k _ o (fun z => (hf _ z).2.1 rfl) ho, r⟩
 . refine (I.hok b u e).stay (fun c v hc q => k c v ?_ q) (fun _ q => q) fun _ _ q => q
   rcases hc with z | z
   . rw [z]; exact nit b u e
   . exact nit c _ z
theorem Inv.Li {t' : Nat} {ch : List Addr} {a : Addr} {o : HO} (I : Inv X pins σ H s) (k : ∀ b u, b ∉ ch -> s.heap.get? b = some u -> h'.get? b = some u) (hf : ∀ b ∈ ch, FpOk X pins H b) (hp : s.heap.objs.size <= a)
 (new : Ob X.prog X.w (upd H a o) h' a o) : Inv X pins σ (upd H a o) { s with heap := h', toks := t' } := by
 have hn : H a = none := I.hok.fresh hp
 have I1 := I.Cj (t' := t') k hf
 have nea : ∀ b u, s.heap.get? b = some u -> b ≠ a := fun b u e => Nat.ne_of_lt (Nat.lt_of_lt_of_le (Heap.lt_size e) hp)
 refine I.step (g' := s.gens) (d' := s.drawn) (ch := ch) (fun b hb => ?_) (fun b o _ _ hc e _ => k b o hc e) (fun b o _ _ hc e _ => ⟨o.slots, k b o hc e⟩) (fun b u _ e n => by rw [Aa (nea b u e)]; exact n)
  (fun b o hc e => ⟨o, k b o hc e⟩) (fun b xs e => by rw [Aa (da e hn)]; exact e) (fun b o u e => by rw [Aa (da e hn)]; exact e) (fun b ps e => ⟨#[], by rw [Aa (da e hn), e]; simp⟩) (fun m hm => ?_) (I1.hok.Yl hn new) I.bare
 . obtain ⟨f0, f1, f2, f3, f4, f5⟩ := hf b hb
   exact ⟨f3, f1, f4, f5⟩
 . obtain ⟨o, es, ep, ho, r⟩ := hm
   exact ⟨o, es, ep, k _ o (fun z => (hf _ z).2.1 rfl) ho, r⟩
end
def Ite (a : Addr) : It :=
 ⟨fun i H => ∃ xs x, H a = some (.lst xs) /\ xs[i]? = some x, fun i H v H' => ∃ T xs x, v = .ref T /\ H T = none /\ H a = some (.lst xs) /\ xs[i]? = some x /\ H' = upd H T (.tup [.int (i : Int), x]), fun i H => ∃ xs, H a = some (.lst xs) /\ xs.length <= i⟩
theorem Sm {P : Program} {w : World} {K : PySem.W.Frag} {elts : List Expr} {k : Nat} {pos : Pos} (a e it : Addr) (hei : e ≠ it) (hae : a ≠ e) (hai : a ≠ it) :
 Turn P w K (.Tuple elts k pos) (Ite a) [e, it] e (fun i h => (∃ old, IsEnum h e it i old) /\ h.IsListIter it a i) where
 mem := by simp
 obj := fun i h st b hb => by
  obtain ⟨⟨old, he⟩, o, ho, c, d⟩ := st
  rcases List.mem_cons.mp hb with rfl | hb
  . exact ⟨_, he, fun v z => by cases z⟩
  . have e' : b = it := by simpa using hb
    subst e'
    exact ⟨o, ho, fun v z => by rw [d] at z; cases z⟩
 keep := fun i h h' st k => by
  obtain ⟨⟨old, he⟩, hi⟩ := st
  exact ⟨⟨old, k e (by simp) _ he⟩, hi.at fun o q => k it (by simp) o q⟩
 item := by
  intro X hP hw hK hc i pins s σ H E I hf st hg
  subst hP hw hK
  obtain ⟨xs, x, hq, hx⟩ := hg
  obtain ⟨its, rv, p, hz⟩ := I.list (SqL.of (K := X.K) hq)
  obtain ⟨u, hu, ru⟩ := rv.get hx
  have W := WalksT.enumerate (prog := X.prog) (w := X.w) (I.ok.hd hc) e it a hei hae hai its.toArray
  have hlt : i < its.toArray.size := by
   have := (List.getElem?_eq_some_iff.mp hu).1
   simpa using this
  refine W.item i s _ _ hlt ⟨st.1, st.2, p.isList⟩ fun T vals h1 tk hPt hT hTup hMid hk => ?_
  have hTw := W.apart _ _ _ hMid
  refine ⟨_, rfl, W.go elts k pos i T _ _ _ hMid fun h2 hSt hk2 => ?_⟩
  obtain ⟨t, x', hx', hv⟩ := hPt
  have ex : x' = u := by
   rw [List.getElem?_toArray, hu] at hx'
   exact (Option.some.inj hx').symm
  subst ex
  subst hv
  have hTn : H T = none := I.hok.fresh hT
  refine ⟨.ref T, upd H T (.tup [.int (i : Int), x]), ?_, rfl, ⟨T, xs, x, rfl, hTn, hq, hx, rfl⟩, ⟨hSt.1, hSt.2.1⟩, fun b hb => ?_⟩
  . refine I.Li (t' := tk) (ch := [e, it]) (fun b o hb q => hk2 b o hb (hk b o hb q)) hf hT ?_
    refine ⟨by simp only [List.length_cons, List.length_nil]; rw [sizeLine_eq]; decide, [.int (i : Int) t, x'], .cons ⟨_, rfl⟩ (.cons ru .nil), ?_⟩
    obtain ⟨o, ho, c, n, d⟩ := hTup
    exact ⟨o, hk2 T o hTw ho, c, n, d⟩
  . rw [Aa (fun z => by subst z; exact hTw hb)]
    exact (hf b hb).1
 done := by
  intro X hP hw hK hc i pins s σ H E I hf st hg
  subst hP hw hK
  obtain ⟨xs, hq, hx⟩ := hg
  obtain ⟨its, rv, p, hz⟩ := I.list (SqL.of (K := X.K) hq)
  obtain ⟨⟨old, he⟩, hit⟩ := st
  have hl := rv.length
  refine wpAny_pyNext_enum_end (I.ok.hd hc) he hit p.isList (by rw [List.getElem?_toArray]; exact List.getElem?_eq_none (by omega)) fun h' hx' => ⟨rfl, ?_⟩
  exact I.Cj (t' := s.toks) (ch := [e, it]) (fun b o hb q => hx' b o (fun z => hb (by simp [z])) q) hf
 self := fun A i s Q E st h => by
  obtain ⟨⟨old, he⟩, _⟩ := st
  exact wpAny_pyIter_enum he h
def Itz (a b : Addr) : It :=
 ⟨fun i H => ∃ xs ys x y, H a = some (.lst xs) /\ H b = some (.lst ys) /\ xs[i]? = some x /\ ys[i]? = some y,
  fun i H v H' => ∃ T xs ys x y, v = .ref T /\ H T = none /\ H a = some (.lst xs) /\ H b = some (.lst ys) /\ xs[i]? = some x /\ ys[i]? = some y /\ H' = upd H T (.tup [x, y]),
  fun i H => ∃ xs ys, H a = some (.lst xs) /\ H b = some (.lst ys) /\ (xs.length <= i \/ ys.length <= i)⟩
theorem wq {P : Program} {w : World} {K : PySem.W.Frag} {elts : List Expr} {k : Nat} {pos : Pos} (a b z TI TO i1 i2 : Addr) (D : ZipApart z TI TO i1 i2 a b) :
 Turn P w K (.Tuple elts k pos) (Itz a b) [z, TI, TO, i1, i2] z (fun i h => IsZip h z TI TO .none /\ IsPair h TI (.ref i1) (.ref i2) /\ (∃ x y, IsPair h TO x y) /\ h.IsListIter i1 a i /\ h.IsListIter i2 b i) where
 mem := by simp
 obj := fun i h st c hc => by
  obtain ⟨hz, hTI, ⟨x, y, hTO⟩, ⟨o1, h1, c1, d1⟩, ⟨o2, h2, c2, d2⟩⟩ := st
  simp only [List.mem_cons, List.not_mem_nil, or_false] at hc
  rcases hc with rfl | rfl | rfl | rfl | rfl
  . exact ⟨_, hz, fun v q => by cases q⟩
  . exact ⟨_, hTI, fun v q => by cases q⟩
  . exact ⟨_, hTO, fun v q => by cases q⟩
  . exact ⟨o1, h1, fun v q => by rw [d1] at q; cases q⟩
  . exact ⟨o2, h2, fun v q => by rw [d2] at q; cases q⟩
 keep := fun i h h' st k => by
  obtain ⟨hz, hTI, ⟨x, y, hTO⟩, h1, h2⟩ := st
  exact ⟨k z (by simp) _ hz, k TI (by simp) _ hTI, ⟨x, y, k TO (by simp) _ hTO⟩, h1.at fun o q => k i1 (by simp) o q, h2.at fun o q => k i2 (by simp) o q⟩
 item := by
  intro X hP hw hK hc i pins s σ H E I hf st hg
  subst hP hw hK
  obtain ⟨xs, ys, x, y, hq1, hq2, hx, hy⟩ := hg
  obtain ⟨its1, rv1, p1, _⟩ := I.list (SqL.of (K := X.K) hq1)
  obtain ⟨its2, rv2, p2, _⟩ := I.list (SqL.of (K := X.K) hq2)
  obtain ⟨u, hu, ru⟩ := rv1.get hx
  obtain ⟨v, hv, rv⟩ := rv2.get hy
  have W := WalksT.zip2 (prog := X.prog) (w := X.w) (I.ok.hd hc) z TI TO i1 i2 a b D its1.toArray its2.toArray
  have hlt : i < min its1.toArray.size its2.toArray.size := by
   have e1 := (List.getElem?_eq_some_iff.mp hu).1
   have e2 := (List.getElem?_eq_some_iff.mp hv).1
   simp only [List.size_toArray]
   omega
  obtain ⟨hz, hTI, hTO, h1, h2⟩ := st
  refine W.item i s _ _ hlt ⟨hz, hTI, hTO, h1, h2, p1.isList, p2.isList⟩ fun T vals hh tk hPt hT hTup hMid hk => ?_
  have hTw := W.apart _ _ _ hMid
  refine ⟨_, rfl, W.go elts k pos i T _ _ _ hMid fun h3 hSt hk2 => ?_⟩
  obtain ⟨x', y', hx', hy', hvs⟩ := hPt
  have ex : x' = u := by rw [List.getElem?_toArray, hu] at hx'; exact (Option.some.inj hx').symm
  have ey : y' = v := by rw [List.getElem?_toArray, hv] at hy'; exact (Option.some.inj hy').symm
  subst ex ey hvs
  have hTn : H T = none := I.hok.fresh hT
  have hTI' : T ≠ TI := fun q => by subst q; exact absurd (Nat.lt_of_lt_of_le (Heap.lt_size hTI) hT) (Nat.lt_irrefl _)
  refine ⟨.ref T, upd H T (.tup [x, y]), ?_, rfl, ⟨T, xs, ys, x, y, rfl, hTn, hq1, hq2, hx, hy, rfl⟩, ⟨hSt.1, hSt.2.1, hSt.2.2.1, hSt.2.2.2.1, hSt.2.2.2.2.1⟩, fun c hc' => ?_⟩
  . refine I.Li (t' := tk) (ch := [z, TO, i1, i2]) (fun c o hc' q => hk2 c o hc' (hk c o hc' q)) (fun c hc' => hf c (W.sub c hc' |> fun q => by simp at hc' ⊢; rcases hc' with rfl | rfl | rfl | rfl <;> simp)) hT ?_
    refine ⟨by simp only [List.length_cons, List.length_nil]; rw [sizeLine_eq]; decide, [x', y'], .cons ru (.cons rv .nil), ?_⟩
    obtain ⟨o, ho, c, n, d⟩ := hTup
    exact ⟨o, hk2 T o hTw ho, c, n, d⟩
  . rw [Aa (fun q => by
     subst q
     simp only [List.mem_cons, List.not_mem_nil, or_false] at hc' hTw
     rcases hc' with q | q | q | q | q
     . exact hTw (.inl q)
     . exact hTI' q
     . exact hTw (.inr (.inl q))
     . exact hTw (.inr (.inr (.inl q)))
     . exact hTw (.inr (.inr (.inr q))))]
    exact (hf c hc').1
 done := by
  intro X hP hw hK hc i pins s σ H E I hf st hg
  subst hP hw hK
  obtain ⟨xs, ys, hq1, hq2, hx⟩ := hg
  obtain ⟨its1, rv1, p1, _⟩ := I.list (SqL.of (K := X.K) hq1)
  obtain ⟨its2, rv2, p2, _⟩ := I.list (SqL.of (K := X.K) hq2)
  obtain ⟨hz, hTI, ⟨x, y, hTO⟩, h1, h2⟩ := st
  have l1 := rv1.length
  have l2 := rv2.length
  refine wpAny_pyNext_zip_end (I.ok.hd hc) D hz hTI hTO h1 h2 p1.isList p2.isList ?_ fun h' hk => ⟨rfl, ?_⟩
  . rcases hx with hx | hx
    . exact .inl (by rw [List.getElem?_toArray]; exact List.getElem?_eq_none (by omega))
    . exact .inr (by rw [List.getElem?_toArray]; exact List.getElem?_eq_none (by omega))
  . exact I.Cj (t' := s.toks) (ch := [z, TI, TO, i1, i2]) (fun c o hc' q => hk c o (fun q => hc' (by simp [q])) (fun q => hc' (by simp [q])) (fun q => hc' (by simp [q])) (fun q => hc' (by simp [q])) q) hf
 self := fun A i s Q E st h => wpAny_pyIter_zip st.1 h
def vv (tA : TA) : TI := fun σ H R => tA σ H fun vs H1 => ∃ a xs, vs = [.ref a] /\ H1 a = some (.lst xs) /\ R (Ite a) H1
def iZip (tA : TA) : TI := fun σ H R => tA σ H fun vs H1 => ∃ a b xs ys, vs = [.ref a, .ref b] /\ H1 a = some (.lst xs) /\ H1 b = some (.lst ys) /\ R (Itz a b) H1
theorem wj : bootBuiltins "enumerate" = some (.type "enumerate") := by decide +kernel
theorem bt_zip : bootBuiltins "zip" = some (.type "zip") := by decide +kernel
section
variable {X : Cx}
theorem Yh {elts : List Expr} {k : Nat} {tp : Pos} {a : Expr} {ta : TA} {p pos : Pos} (hg : Gl X "enumerate") (hm : X.mg "enumerate" = none) (ha : PA X [a] ta) (hs : starEach [a] X.env = [(false, eval a X.env)] := by first | rfl | with_unfolding_all rfl) :
 PI X (.Tuple elts k tp) (.Call (.Name "enumerate" p) [a] [] pos) (vv ta) := by
 intro pins s σ H R I h
 refine Call_ (dg I hg hm wj (PyProof.Rows.callWith_type1 (thn (ha pos pins s σ H _ I h) fun us s1 ⟨vs, H1, I1, r1, q1⟩ => ?_) hs rfl))
 obtain ⟨l, xs, e, hl, q⟩ := q1
 subst e
 cases r1 with
 | cons r rr =>
  cases rr
  cases r
  obtain ⟨_, its, n, _, _, hget⟩ := I1.lstM hl
  have hll : l < s1.heap.objs.size := Heap.lt_size hget
  refine call_enumerate_1 hget fun h' he hi hsz hk => wpAny_pyIter_enum he ?_
  have I2 : Inv X pins σ H1 { s1 with heap := h' } := I1.kept (t' := s1.toks) hk
  refine ⟨s1.heap.objs.size + 1, [s1.heap.objs.size + 1, s1.heap.objs.size], _, _, H1, rfl, I2, Sm l _ _ (Nat.ne_of_gt (Nat.lt_succ_self _)) (Nat.ne_of_lt (Nat.lt_succ_of_lt hll)) (Nat.ne_of_lt hll), ⟨⟨_, he⟩, hi⟩, fun b hb => ?_, q⟩
  have hle : s1.heap.objs.size <= b := by
   simp only [List.mem_cons, List.not_mem_nil, or_false] at hb
   rcases hb with hb | hb
   . rw [hb]; exact Nat.le_succ _
   . rw [hb]; exact Nat.le_refl _
  exact I1.fpOk hle (I1.hok.fresh hle)
theorem El {elts : List Expr} {k : Nat} {tp : Pos} {a b : Expr} {ta : TA} {p pos : Pos} (hg : Gl X "zip") (hm : X.mg "zip" = none) (ha : PA X [a, b] ta) (hs : starEach [a, b] X.env = [(false, eval a X.env), (false, eval b X.env)] := by first | rfl | with_unfolding_all rfl) (hs2 : starEach [b] X.env = [(false, eval b X.env)] := by first | rfl | with_unfolding_all rfl) :
 PI X (.Tuple elts k tp) (.Call (.Name "zip" p) [a, b] [] pos) (iZip ta) := by
 intro pins s σ H R I h
 refine Call_ (dg I hg hm bt_zip (PyProof.Rows.callWith_type1 (thn (ha pos pins s σ H _ I h) fun us s1 ⟨vs, H1, I1, r1, q1⟩ => ?_) (by rw [hs, hs2]) (by rw [hs2]; rfl)))
 obtain ⟨l1, l2, xs, ys, e, hl1, hl2, q⟩ := q1
 subst e
 cases r1 with
 | cons r rr =>
  cases rr with
  | cons r' rr =>
   cases rr
   cases r
   cases r'
   obtain ⟨its1, _, p1, _⟩ := I1.list (SqL.of (K := X.K) hl1)
   obtain ⟨its2, _, p2, _⟩ := I1.list (SqL.of (K := X.K) hl2)
   have a1 : l1 < s1.heap.objs.size := I1.hok.lt hl1
   have a2 : l2 < s1.heap.objs.size := I1.hok.lt hl2
   refine call_zip_2 p1.isList p2.isList fun h' hz hTI hTO h1 h2 hsz hk => wpAny_pyIter_zip hz ?_
   have I2 : Inv X pins σ H1 { s1 with heap := h' } := I1.kept (t' := s1.toks) hk
   refine ⟨s1.heap.objs.size + 4, [s1.heap.objs.size + 4, s1.heap.objs.size + 2, s1.heap.objs.size + 3, s1.heap.objs.size, s1.heap.objs.size + 1], _, _, H1, rfl, I2, wq l1 l2 _ _ _ _ _ (zipApart_new a1 a2), ⟨hz, hTI, ⟨_, _, hTO⟩, h1, h2⟩, fun b hb => ?_, q⟩
   have hle : s1.heap.objs.size <= b := by
    simp only [List.mem_cons, List.not_mem_nil, or_false] at hb
    rcases hb with hb | hb | hb | hb | hb <;> rw [hb]
    . exact Nat.le_add_right _ _
    . exact Nat.le_add_right _ _
    . exact Nat.le_add_right _ _
    . exact Nat.le_refl _
    . exact Nat.le_add_right _ _
   exact I1.fpOk hle (I1.hok.fresh hle)
end
end L2
namespace L2
open PySem PySem.Spec PyProof.Rows
def ForJ (J : It) (g : TG) (tb : TS) (D : Ends) (σ : St) (H : Hp) : Prop := ∃ W : Nat -> Nat -> St -> Hp -> Prop, (∃ m, W 0 m σ H) /\ ∀ i m σ H, W i m σ H ->
 (J.stop i H /\ D.nx σ H) \/ (J.go i H /\ ∃ N : St -> Hp -> Prop, (∀ σ' H', N σ' H' -> ∃ m', m' < m /\ W (i + 1) m' σ' H') /\ ∀ x H', J.yld i H x H' -> g x σ H' fun σ2 H2 => tb { D with nx := N, ct := N, bk := D.nx } σ2 H2)
def ForE (vs : List V) (g : TG) (tb : TS) (D : Ends) (σ : St) (H : Hp) : Prop := ∃ a xs, vs = [.ref a] /\ H a = some (.lst xs) /\ ForJ (Ite a) g tb D σ H
section
variable {tA : TA} {g : TG} {tb : TS} {D : Ends} {σ : St} {H : Hp} {n b c : St -> Hp -> Prop} {r : VK}
theorem r_forE (h : tA σ H fun vs H1 => ForE vs g tb D σ H1) : tFor (vv tA) g tb D σ H := h
theorem forE {a : Addr} {xs : List V} (Pv : Nat -> St -> Hp -> Prop) (h0 : Pv 0 σ H) (hl : ∀ i σ H, i <= xs.length -> Pv i σ H -> H a = some (.lst xs))
 (hs : ∀ (i : Nat) x σ H T, xs[i]? = some x -> Pv i σ H -> H T = none -> g (.ref T) σ (upd H T (.tup [.int (i : Int), x])) fun σ2 H2 => tb ⟨Pv (i + 1), r, n, Pv (i + 1)⟩ σ2 H2) (hd : ∀ σ H, Pv xs.length σ H -> n σ H) : ForE [.ref a] g tb ⟨n, r, b, c⟩ σ H := by
 refine ⟨a, xs, rfl, hl 0 σ H (Nat.zero_le _) h0, fun i m σ' H' => m = xs.length - i /\ i <= xs.length /\ Pv i σ' H', ⟨xs.length, by simp, Nat.zero_le _, h0⟩, ?_⟩
 rintro i m σ' H' ⟨rfl, hi, p⟩
 have q := hl i σ' H' hi p
 by_cases hlt : i < xs.length
 . refine .inr ⟨⟨xs, xs[i], q, by simp [hlt]⟩, Pv (i + 1), fun σ' H' p' => ⟨xs.length - (i + 1), by omega, rfl, hlt, p'⟩, fun v H2 y => ?_⟩
   obtain ⟨T, xs', x, rfl, hT, hq, hx, rfl⟩ := y
   rw [q] at hq
   cases hq
   exact hs i x σ' H' T hx p hT
 . have e : i = xs.length := by omega
   subst e
   exact .inl ⟨⟨xs, q, Nat.le_refl _⟩, hd σ' H' p⟩
end
section
variable {tA : TA} {js : List Nat} {g : TG} {tt : TT} {te : TE} {σ : St} {H : Hp} {Q : VK} {nt : Nat}
def CompE (vs : List V) (js : List Nat) (nt : Nat) (g : TG) (tt : TT) (te : TE) (σ : St) (H : Hp) (Q : VK) : Prop := ∃ a xs, vs = [.ref a] /\ H a = some (.lst xs) /\ Cs (Ite a) js nt g tt te σ H Q
def CompZ (vs : List V) (js : List Nat) (nt : Nat) (g : TG) (tt : TT) (te : TE) (σ : St) (H : Hp) (Q : VK) : Prop := ∃ a b xs ys, vs = [.ref a, .ref b] /\ H a = some (.lst xs) /\ H b = some (.lst ys) /\ Cs (Itz a b) js nt g tt te σ H Q
theorem Iu (h : tA σ H fun vs H1 => CompE vs js nt g tt te σ H1 Q) : Oi js nt (vv tA) g tt te σ H Q := h
theorem Gu (h : tA σ H fun vs H1 => CompZ vs js nt g tt te σ H1 Q) : Oi js nt (iZip tA) g tt te σ H Q := h
theorem compE {a : Addr} {xs : List V} (caps : St) (Pv : Nat -> List V -> Hp -> Prop) (hcaps : cap σ js 2 = caps ++ [none, none]) (hsz : xs.length < sizeLine) (h0 : Pv 0 [] H)
 (hl : ∀ i ys H, i <= xs.length -> Pv i ys H -> H a = some (.lst xs)) (hlen : ∀ i ys H, Pv i ys H -> ys.length <= i)
 (hs : ∀ (i : Nat) x ys z1 z2 H T, xs[i]? = some x -> Pv i ys H -> H T = none -> g (.ref T) (caps ++ [z1, z2]) (upd H T (.tup [.int (i : Int), x])) fun σ3 H3 => tt σ3 H3 fun ok H4 => if ok = true then te σ3 H4 fun y H5 => Pv (i + 1) (ys ++ [y]) H5 /\ ∃ z1 z2, σ3 = caps ++ [z1, z2] else Pv (i + 1) ys H4 /\ ∃ z1 z2, σ3 = caps ++ [z1, z2])
 (hd : ∀ ys H, Pv xs.length ys H -> ∀ D, H D = none -> Q (.ref D) (upd H D (.lst ys))) : CompE [.ref a] js 2 g tt te σ H Q := by
 refine ⟨a, xs, rfl, hl 0 [] H (Nat.zero_le _) h0, fun i m ys σ' H' => m = xs.length - i /\ i <= xs.length /\ Pv i ys H' /\ ∃ z1 z2, σ' = caps ++ [z1, z2], ⟨xs.length, by simp, Nat.zero_le _, h0, none, none, hcaps⟩, ?_⟩
 rintro i m ys σ' H' ⟨rfl, hi, p, z1, z2, rfl⟩
 refine ⟨by have := hlen i ys H' p; omega, ?_⟩
 have q := hl i ys H' hi p
 by_cases hlt : i < xs.length
 . refine .inr ⟨⟨xs, xs[i], q, by simp [hlt]⟩, fun ys σ' H' => Pv (i + 1) ys H' /\ ∃ z1 z2, σ' = caps ++ [z1, z2], fun ys σ' H' ⟨p', q'⟩ => ⟨xs.length - (i + 1), by omega, rfl, hlt, p', q'⟩, fun v H2 y => ?_⟩
   obtain ⟨T, xs', x, rfl, hT, hq, hx, rfl⟩ := y
   rw [q] at hq
   cases hq
   exact hs i x ys z1 z2 H' T hx p hT
 . have e : i = xs.length := by omega
   subst e
   exact .inl ⟨⟨xs, q, Nat.le_refl _⟩, hd ys H' p⟩
theorem Xr {a1 a2 : Addr} {xs ws : List V} (caps : St) (Pv : Nat -> List V -> Hp -> Prop) (hcaps : cap σ js 2 = caps ++ [none, none]) (hsz : xs.length < sizeLine) (h0 : Pv 0 [] H)
 (hl : ∀ i ys H, i <= xs.length -> i <= ws.length -> Pv i ys H -> H a1 = some (.lst xs) /\ H a2 = some (.lst ws)) (hlen : ∀ i ys H, Pv i ys H -> ys.length <= i)
 (hs : ∀ (i : Nat) x w ys z1 z2 H T, xs[i]? = some x -> ws[i]? = some w -> Pv i ys H -> H T = none -> g (.ref T) (caps ++ [z1, z2]) (upd H T (.tup [x, w])) fun σ3 H3 => tt σ3 H3 fun ok H4 => if ok = true then te σ3 H4 fun y H5 => Pv (i + 1) (ys ++ [y]) H5 /\ ∃ z1 z2, σ3 = caps ++ [z1, z2] else Pv (i + 1) ys H4 /\ ∃ z1 z2, σ3 = caps ++ [z1, z2])
 (hd : ∀ ys H, Pv (min xs.length ws.length) ys H -> ∀ D, H D = none -> Q (.ref D) (upd H D (.lst ys))) : CompZ [.ref a1, .ref a2] js 2 g tt te σ H Q := by
 obtain ⟨q1, q2⟩ := hl 0 [] H (Nat.zero_le _) (Nat.zero_le _) h0
 refine ⟨a1, a2, xs, ws, rfl, q1, q2, fun i m ys σ' H' => m = min xs.length ws.length - i /\ i <= min xs.length ws.length /\ Pv i ys H' /\ ∃ z1 z2, σ' = caps ++ [z1, z2], ⟨min xs.length ws.length, by simp, Nat.zero_le _, h0, none, none, hcaps⟩, ?_⟩
 rintro i m ys σ' H' ⟨rfl, hi, p, z1, z2, rfl⟩
 refine ⟨by have := hlen i ys H' p; omega, ?_⟩
 obtain ⟨q1, q2⟩ := hl i ys H' (by omega) (by omega) p
 by_cases hlt : i < min xs.length ws.length
 . have l1 : i < xs.length := by omega
   have l2 : i < ws.length := by omega
   refine .inr ⟨⟨xs, ws, xs[i], ws[i], q1, q2, by simp [l1], by simp [l2]⟩, fun ys σ' H' => Pv (i + 1) ys H' /\ ∃ z1 z2, σ' = caps ++ [z1, z2], fun ys σ' H' ⟨p', q'⟩ => ⟨min xs.length ws.length - (i + 1), by omega, rfl, hlt, p', q'⟩, fun v H2 y => ?_⟩
   obtain ⟨T, xs', ys', x, y, rfl, hT, e1, e2, hx, hy, rfl⟩ := y
   rw [q1] at e1
   rw [q2] at e2
   cases e1
   cases e2
   exact hs i x y ys z1 z2 H' T hx hy p hT
 . have e : i = min xs.length ws.length := by omega
   exact .inl ⟨⟨xs, ws, q1, q2, by omega⟩, hd ys H' (e ▸ p)⟩
end
def Itd (hi : Int) (n : Nat) : It := ⟨fun i _ => i < n, fun i H x H' => H' = H /\ x = .int (hi - i), fun i _ => n <= i⟩
theorem Um {P : Program} {w : World} {K : PySem.W.Frag} {tg : Expr} (it : Addr) (hi : Int) (n : Nat) : Turn P w K tg (Itd hi n) [it] it (fun i h => IsRangeIter h it (hi + (i : Nat) * (-1)) ((n : Int) - (i : Nat)) (-1)) where
 mem := by simp
 obj := fun i h st b hb => by
  have e : b = it := by simpa using hb
  subst e
  exact ⟨_, st, fun v z => by
   have z' : Data.fields _ = Data.cell v := z
   cases z'⟩
 keep := fun i h h' st k => k it (by simp) _ st
 item := by
  intro X hP hw hK hc i pins s σ H E I hf st hg
  subst hP hw hK
  obtain ⟨f0, f1, f2, f3, f4, f5⟩ := hf it (by simp)
  have W := Walks.range (prog := X.prog) (w := X.w) (I.ok.hd hc) it hi (-1) n
  refine W.item i s _ _ hg st fun v h' tk hv st' kk => ?_
  obtain ⟨t, rfl⟩ := hv
  have I1 : Inv X pins σ H { s with heap := h', toks := tk } := I.turned (fun b o hb e => kk b o (by simpa using hb) e) f0 f1 f3 f4 f5
  refine ⟨_, rfl, xv (s := { s with heap := h', toks := tk }) (n := "range_iterator") st' rfl rfl (by decide) ⟨.int (hi - i), H, I1, ⟨t, ?_⟩, ⟨rfl, rfl⟩, st', fun b hb => (hf b hb).1⟩⟩
  rw [Int.mul_neg, Int.mul_one]
  rfl
 done := by
  intro X hP hw hK hc i pins s σ H E I hf st hg
  subst hP hw hK
  obtain ⟨f0, f1, f2, f3, f4, f5⟩ := hf it (by simp)
  exact wpAny_pyNext_range_end (I.ok.hd hc) st (by have : n <= i := hg; omega) fun h' eb => ⟨rfl, I.turned (t' := s.toks) (fun b o hb e => eb b o hb e) f0 f1 f3 f4 f5⟩
 self := fun _ _ _ _ _ st h => wpAny_pyIter_rangeiter st h
theorem rangeSize_down (a b : Int) : Builtin.Range.rangeSize a b (-1) = ((a - b).toNat : Int) := by
 unfold Builtin.Range.rangeSize
 rw [if_neg (by decide), show (- -1 : Int) = 1 by decide, Int.ediv_one]
 split <;> omega
theorem small_down {a b : Int} (ha : -(2 ^ 62) <= a) (ha' : a < 2 ^ 62) (hb : -(2 ^ 62) <= b) (hb' : b < 2 ^ 62) : Builtin.Range.small a b (-1) = true := by
 unfold Builtin.Range.small
 rw [rangeSize_down]
 simp only [Builtin.Range.rangeFitsLong, Bool.and_eq_true, Bool.or_eq_true, decide_eq_true_eq, beq_iff_eq, show ¬ ((-1 : Int) > 0) by decide, if_false]
 omega
def iRngD (ta : TA) : TI := fun σ H R => ta σ H fun vs H1 => ∃ i j : Int, vs = [.int i, .int j, .int (-1)] /\ (-(2 ^ 61) <= i /\ i < 2 ^ 61 /\ -(2 ^ 61) <= j /\ j < 2 ^ 61) /\ R (Itd i (i - j).toNat) H1
section
variable {X : Cx} {tg : Expr}
theorem Mo {a b c : Expr} {ta : TA} {p pos : Pos} (hg : Gl X "range") (hm : X.mg "range" = none) (ha : PA X [a, b, c] ta) (hs : starEach [a, b, c] X.env = [(false, eval a X.env), (false, eval b X.env), (false, eval c X.env)] := by first | rfl | with_unfolding_all rfl)
 (hs2 : starEach [b, c] X.env = [(false, eval b X.env), (false, eval c X.env)] := by first | rfl | with_unfolding_all rfl) :
 PI X tg (.Call (.Name "range" p) [a, b, c] [] pos) (iRngD ta) := by
 intro pins s σ H R I h
 refine Call_ (dg I hg hm boot_range (PyProof.Rows.callWith_type1 (thn (ha pos pins s σ H _ I h) fun us s1 ⟨vs, H1, I1, r1, q1⟩ => ?_) (by rw [hs, hs2]) (by rw [hs2]; rfl)))
 obtain ⟨i, j, e, ⟨q1, q2, q3, q4⟩, q⟩ := q1
 subst e
 cases r1 with
 | cons r rr =>
  cases rr with
  | cons r' rr =>
   cases rr with
   | cons r'' rr =>
    cases rr
    obtain ⟨t, rfl⟩ := r
    obtain ⟨t', rfl⟩ := r'
    obtain ⟨t'', rfl⟩ := r''
    refine call_range_3 (by decide) ?_ (Or.inl (PyProof.noPylong_small (by decide)))
    have I1' : Inv X pins σ H1 { s1 with heap := s1.heap.push { cls := .type "range", data := .fields #[.int i t, .int j t', .int (-1) t''] }, toks := s1.toks } := I1.kept fun b o e => Heap.get?_push_of_some _ e
    refine wpAny_pyIter_range (IsRange.new ..) (small_down (by omega) (by omega) (by omega) (by omega)) ?_
    refine ⟨(s1.heap.push { cls := .type "range", data := .fields #[.int i t, .int j t', .int (-1) t''] }).objs.size, [(s1.heap.push { cls := .type "range", data := .fields #[.int i t, .int j t', .int (-1) t''] }).objs.size], _, _, H1, rfl,
     I1'.kept (t' := s1.toks) fun b o e => Heap.get?_push_of_some _ e, Um _ i (i - j).toNat, ?_, fun b hb => ?_, q⟩
    . show IsRangeIter _ _ (i + ((0 : Nat) : Int) * (-1)) ((((i - j).toNat : Nat) : Int) - ((0 : Nat) : Int)) (-1)
      rw [show i + ((0 : Nat) : Int) * (-1) = i by simp, show (((i - j).toNat : Nat) : Int) - ((0 : Nat) : Int) = Builtin.Range.rangeSize i j (-1) by rw [rangeSize_down]; simp]
      exact Heap.get?_push_size _ rfl
    . have e : b = (s1.heap.push { cls := .type "range", data := .fields #[.int i t, .int j t', .int (-1) t''] }).objs.size := by simpa using hb
      subst e
      exact I1'.fpOk (Nat.le_refl _) (I1'.hok.fresh (Nat.le_refl _))
end
def ForD (vs : List V) (g : TG) (tb : TS) (D : Ends) (σ : St) (H : Hp) : Prop := ∃ i j : Int, vs = [.int i, .int j, .int (-1)] /\ (-(2 ^ 61) <= i /\ i < 2 ^ 61 /\ -(2 ^ 61) <= j /\ j < 2 ^ 61) /\ ForJ (Itd i (i - j).toNat) g tb D σ H
section
variable {tA : TA} {g : TG} {tb : TS} {D : Ends} {σ : St} {H : Hp} {n b c : St -> Hp -> Prop} {r : VK}
theorem r_forD (h : tA σ H fun vs H1 => ForD vs g tb D σ H1) : tFor (iRngD tA) g tb D σ H := h
theorem forD {hi lo : Int} (Pv : Nat -> St -> Hp -> Prop) (h1 : -1000000 <= hi) (h2 : hi < 1000000) (h3 : -1000000 <= lo) (h4 : lo < 1000000) (h0 : Pv 0 σ H)
 (hs : ∀ (i : Nat) σ H, (i : Int) < hi - lo -> Pv i σ H -> g (.int (hi - i)) σ H fun σ2 H2 => tb ⟨Pv (i + 1), r, n, Pv (i + 1)⟩ σ2 H2) (hd : ∀ σ H, Pv (hi - lo).toNat σ H -> n σ H) : ForD [.int hi, .int lo, .int (-1)] g tb ⟨n, r, b, c⟩ σ H := by
 refine ⟨hi, lo, rfl, ⟨by omega, by omega, by omega, by omega⟩, fun i m σ' H' => m = (hi - lo).toNat - i /\ i <= (hi - lo).toNat /\ Pv i σ' H', ⟨(hi - lo).toNat, by simp, Nat.zero_le _, h0⟩, ?_⟩
 rintro i m σ' H' ⟨rfl, hi', p⟩
 by_cases hlt : i < (hi - lo).toNat
 . refine .inr ⟨hlt, Pv (i + 1), fun σ' H' p' => ⟨(hi - lo).toNat - (i + 1), by omega, rfl, hlt, p'⟩, fun v H2 y => ?_⟩
   obtain ⟨rfl, rfl⟩ := y
   exact hs i σ' _ (by omega) p
 . have e : i = (hi - lo).toNat := by omega
   subst e
   exact .inl ⟨Nat.le_refl _, hd σ' H' p⟩
end
def rRev (K : PySem.W.Frag) (x y : V) (H : Hp) (Q : VK) : Prop := ∃ a xs, x = .ref a /\ y = .int (-1) /\ SqL K H a xs /\ ∀ p, H p = none -> Q (.ref p) (upd H p (.lst xs.reverse))
section
variable {X : Cx} {K : PySem.W.Frag}
theorem Zh {e k : Expr} {te tk : TE} {pos p2 : Pos} (hK : X.K = K) (he : PE X e te) (hk : PE X k tk) : PE X (.Subscript e (.Slice none none (some k) p2) pos) (tOp (rRev K) te tk) := by
 subst hK
 intro pins s σ H Q I h
 refine Subscript_ (thn (he pins s σ H _ I h) fun v s1 ⟨x, H1, I1, r1, q1⟩ => ?_)
 refine wpAny_Slice ?_
 rw [evalPart_none]
 refine wpAny_pure ?_
 refine wpAny_pure ?_
 rw [evalPart_some]
 refine thn (hk pins s1 σ H1 _ I1 q1) fun vk s3 ⟨y, H3, I3, r3, q3⟩ => ?_
 obtain ⟨a, xs, rfl, rfl, hx, q⟩ := q3
 cases r1
 obtain ⟨t, rfl⟩ := r3
 have I4 : Inv X pins σ H3 { s3 with heap := s3.heap.push { cls := .type "slice", data := .fields #[.none, .none, .int (-1) t] } } := I3.kept (t' := s3.toks) fun b ob q => Heap.get?_push_of_some _ q
 obtain ⟨its, r, ht, hz⟩ := I4.list hx
 have hlen := r.length
 show wpAny (model X.prog X.w) X.A (subscriptTail e (.Slice none none (some k) p2) (.ref a) (.ref s3.heap.objs.size)) (EP X pins σ Q) X.xe { s3 with heap := s3.heap.push { cls := .type "slice", data := .fields #[.none, .none, .int (-1) t] } }
 refine tail_any (ops := [.ref a, .ref s3.heap.objs.size]) (T := "list") ht.isList.typeIs slot_list_getitem.lookup ?_ (by with_unfolding_all rfl)
 refine wpAny_getItem_list_slice ht.isList (Heap.IsSliceOf.new ..) .none .none (.int (-1) t) (by decide) ?_ (by rw [List.size_toArray] <;> omega)
 rw [PySem.W.krv_pick]
 refine ⟨.ref _, _, I4.laid (t' := s3.toks) (o := .lst xs.reverse) (fun b ob q => Heap.get?_push_of_some _ q) (Nat.le_refl _) ?_, rfl, q _ (I4.hok.fresh (Nat.le_refl _))⟩
 exact ⟨by rw [List.length_reverse]; exact hz, _, 0, r.reverse, Heap.get?_push_size _ rfl⟩
end
theorem Bl {K : PySem.W.Frag} {H : Hp} {Q : VK} {a : Addr} {xs : List V} (h1 : H a = some (.lst xs)) (h : ∀ p, H p = none -> Q (.ref p) (upd H p (.lst xs.reverse))) : rRev K (.ref a) (.int (-1)) H Q := ⟨a, xs, rfl, rfl, SqL.of h1, h⟩
theorem Hl {X : Cx} {x : Str} {i : Int} {pos : Pos} (hg : Gl X x) (hm : ∃ t, X.mg x = some (.int i t)) (hd : (x == ("__debug__" : Str)) = false := by decide) : PE X (.Name x pos) (tC (.int i)) := by
 obtain ⟨t, hm⟩ := hm
 exact Oo hg hm ⟨t, rfl⟩ hd
section
variable {X : Cx}
def ipC (C : Int -> Int -> Prop) (f : Int -> Int -> Int) : TIp := fun x y H Q => ∃ i j, x = .int i /\ y = .int j /\ C i j /\ Q (.int (f i j)) H
theorem Ct : PIp X .Mult (ipC qf fun i j => i * j) := by
 intro pins s σ H x y v u Q I r1 r2 h
 obtain ⟨i, j, e1, e2, hc, q⟩ := h
 subst e1; subst e2
 obtain ⟨t, rfl⟩ := r1
 obtain ⟨t', rfl⟩ := r2
 have ok : IntMulOk i j := by
  rcases hc with hc | ⟨m, n, h1, h2, h3⟩
  . exact hc.ok
  . exact PySem.IntMulOk.of_le (PySem.intBits_le_iff.mpr h1) (PySem.intBits_le_iff.mpr h2) h3
 exact imul_int ⟨.int _, H, I.tok _, ⟨_, rfl⟩, q⟩ ok
end
theorem r_ipC {C : Int -> Int -> Prop} {f : Int -> Int -> Int} {p q : Int} {H : Hp} {Q : VK} (hc : C p q) (h : Q (.int (f p q)) H) : ipC C f (.int p) (.int q) H Q := ⟨p, q, rfl, rfl, hc, h⟩
section
variable {X : Cx} {K : PySem.W.Frag}
theorem getLK (hK : X.K = K) : PGet X (rIxL K) := by
 subst hK
 intro pins s σ H x y v u Q I rx ry h
 obtain ⟨p, xs, i, z, rfl, rfl, hq, he, q⟩ := h
 cases rx
 obtain ⟨t, rfl⟩ := ry
 obtain ⟨its, r, pl, hz⟩ := I.list hq
 obtain ⟨j, h1, h2, h3, h4, h5⟩ := Hk he
 obtain ⟨w, ew, rw'⟩ := r.get h2
 have hl := r.length
 have hn := lh
 have fin : EP X pins σ Q w s := ⟨z, H, I, rw', q⟩
 by_cases h0 : 0 <= i
 . have hj : i.toNat = j := by
    rw [seqIndex_of h0 h5] at h1
    exact Option.some.inj h1
   exact wpAny_getItem_list pl.isList h0 (by omega) (by rw [hj]; simpa using ew) fin
 . have hj : (i + (its.toArray.size : Int)).toNat = j := by
    rw [seqIndex_neg (by omega) h4] at h1
    rw [List.size_toArray, <- hl]
    exact Option.some.inj h1
   exact wpAny_getItem_list_neg pl.isList (by omega) (by rw [List.size_toArray] <;> omega) (by omega) (by rw [hj]; simpa using ew) fin
end
section
variable {K : PySem.W.Frag} {to ti te : TE} {tget : V -> V -> Hp -> VK -> Prop} {tip : TIp} {tset : TSet} {n b c : St -> Hp -> Prop} {r : VK} {σ : St} {H : Hp}
theorem r_augS (h : to σ H fun o H1 => ti σ H1 fun i H2 => tget o i H2 fun x H3 => te σ H3 fun y H4 => tip x y H4 fun z H5 => tset o i z H5 fun H6 => n σ H6) : tAugS to ti te tget tip tset ⟨n, r, b, c⟩ σ H := h
theorem r_ixLL {K : PySem.W.Frag} {p : Addr} {xs : List V} {k : Int} {v : V} {Q : VK} (h1 : H p = some (.lst xs)) (h2 : atI xs k = some v) (h : Q v H) : rIxL K (.ref p) (.int k) H Q := ⟨p, xs, k, v, rfl, rfl, SqL.of h1, h2, h⟩
end
section
variable {X : Cx} {K : PySem.W.Frag}
theorem inK (h : X.K = K) : OpR X (compareOp .In) (rIn K false) := by subst h; exact Ro
end
section
variable {K : PySem.W.Frag} {H : Hp} {Q : VK}
theorem Bo {a : Addr} {n k : Int} (h1 : H a = some (.lst [.int n])) (h0 : 0 <= k) (h2 : k < 65536) (h : ∀ p, H p = none -> Q (.ref p) (upd H p (.lst ((List.replicate k.toNat n).map V.int)))) : Ku (.ref a) (.int k) H Q := by
 refine .inr ⟨a, k, [.int n], rfl, rfl, h1, by omega, by omega, ?_, fun p hp => ?_⟩
 . rw [sizeLine_eq]
   simp only [List.length_cons, List.length_nil]
   omega
 . have e : (List.replicate k.toNat [V.int n]).flatten = (List.replicate k.toNat n).map V.int := by
    generalize k.toNat = m
    induction m with
    | zero => rfl
    | succ m ih => rw [List.replicate_succ, List.flatten_cons, ih, List.replicate_succ]; rfl
   rw [e]; exact h p hp
end
end L2
namespace BR
open MB
inductive Wd where
 | council | bench | stay
 deriving DecidableEq
inductive Rn where
 | lot (n : Nat) | vote (n q : Nat) (w : Wd)
def Rn.n : Rn -> Nat
 | .lot n => n
 | .vote n _ _ => n
def Fit (c s : Nat) : Rn -> Prop
 | .lot n => 1 <= n /\ n <= 60 /\ n <= s
 | .vote n q w => 1 <= n /\ n <= 60 /\ n <= c /\ s < 2 * q /\ q <= s /\ (w = .bench -> n <= s) /\ (w = .stay -> n = s)
def FitR (c : Nat) : Nat -> List Rn -> Prop
 | _, [] => True
 | s, r :: rs => Fit c s r /\ FitR c r.n rs
def Pa : Nat -> List Rn -> Nat
 | s, [] => s
 | _, r :: rs => Pa r.n rs
theorem Fit.pos {c s : Nat} : ∀ {r : Rn}, Fit c s r -> 1 <= r.n /\ r.n <= 60
 | .lot _, h => ⟨h.1, h.2.1⟩
 | .vote _ _ _, h => ⟨h.1, h.2.1⟩
theorem Fit.le {c s : Nat} (hs : s <= c) : ∀ {r : Rn}, Fit c s r -> r.n <= c
 | .lot _, h => Nat.le_trans h.2.2 hs
 | .vote _ _ _, h => h.2.2.1
theorem bc : ∀ (a : List Rn) (s : Nat) (b : List Rn), Pa s (a ++ b) = Pa (Pa s a) b
 | [], _, _ => rfl
 | r :: a, _, b => bc a r.n b
theorem Md (a : List Rn) (s : Nat) (r : Rn) : Pa s (a ++ [r]) = r.n := bc a s [r]
theorem FitR.app {c : Nat} : ∀ {a : List Rn} {s : Nat} {b : List Rn}, FitR c s (a ++ b) ↔ FitR c s a /\ FitR c (Pa s a) b
 | [], s, b => ⟨fun h => ⟨trivial, h⟩, fun h => h.2⟩
 | r :: a, s, b => by
  show (Fit c s r /\ FitR c r.n (a ++ b)) ↔ (Fit c s r /\ FitR c r.n a) /\ FitR c (Pa r.n a) b
  rw [FitR.app (a := a)]
  exact ⟨fun ⟨x, y, z⟩ => ⟨⟨x, y⟩, z⟩, fun ⟨⟨x, y⟩, z⟩ => ⟨x, y, z⟩⟩
theorem FitR.take {c s : Nat} {a : List Rn} (h : FitR c s a) (k : Nat) : FitR c s (a.take k) := by
 rw [<- List.take_append_drop k a] at h
 exact (FitR.app.mp h).1
theorem FitR.at {c s : Nat} {a : List Rn} {i : Nat} {r : Rn} (h : FitR c s a) (e : a[i]? = some r) : Fit c (Pa s (a.take i)) r := by
 have hlt := (List.getElem?_eq_some_iff.mp e).1
 have e2 : a = a.take i ++ (r :: a.drop (i + 1)) := by
  have := (List.getElem?_eq_some_iff.mp e).2
  rw [<- this, <- List.drop_eq_getElem_cons hlt, List.take_append_drop]
 rw [e2] at h
 have := (FitR.app.mp h).2.1
 exact this
theorem Nd {c : Nat} : ∀ {a : List Rn} {s : Nat}, FitR c s a -> 1 <= s -> s <= c -> 1 <= Pa s a /\ Pa s a <= c
 | [], s, _, h1, h2 => ⟨h1, h2⟩
 | r :: a, s, h, h1, h2 => Nd (a := a) h.2 h.1.pos.1 (h.1.le h2)
theorem rb {α : Type} {l : List α} {i : Nat} {x : α} (h : l[i]? = some x) : l.take (i + 1) = l.take i ++ [x] := by
 rw [List.take_add_one, h]; rfl
def szs (rs : List Rn) : List Nat := rs.map Rn.n
theorem vg : ∀ {rs : List Rn} {s i : Nat}, i <= rs.length -> (s :: szs rs)[i]? = some (Pa s (rs.take i))
 | _, s, 0, _ => rfl
 | [], s, i + 1, h => by simp at h
 | r :: rs, s, i + 1, h => by
  show (r.n :: szs rs)[i]? = some (Pa r.n (rs.take i))
  exact vg (by simpa using h)
def dr (c s : Nat) : Rn -> Nat
 | .lot n => ch s n
 | .vote n _ .bench => ch s n
 | .vote n _ .council => ch c n
 | .vote _ _ .stay => 1
def drs (c : Nat) : Nat -> List Rn -> List Nat
 | _, [] => []
 | s, r :: rs => dr c s r :: drs c r.n rs
theorem Rl (c : Nat) : ∀ (a : List Rn) (s : Nat) (r : Rn), drs c s (a ++ [r]) = drs c s a ++ [dr c (Pa s a) r]
 | [], _, _ => rfl
 | x :: a, s, r => by
  show dr c s x :: drs c x.n (a ++ [r]) = (dr c s x :: drs c x.n a) ++ [dr c (Pa x.n a) r]
  rw [Rl c a x.n r]; rfl
theorem wc (c : Nat) : ∀ (a : List Rn) (s : Nat), (drs c s a).length = a.length
 | [], _ => rfl
 | x :: a, s => by
  show (drs c x.n a).length + 1 = a.length + 1
  rw [wc c a]
def Kb : List Nat -> Nat
 | [] => 1
 | x :: l => x * Kb l
theorem eh : ∀ (l : List Nat) (x : Nat), Kb (l ++ [x]) = Kb l * x
 | [], x => by simp [Kb]
 | y :: l, x => by
  show y * Kb (l ++ [x]) = y * Kb l * x
  rw [eh l x, Nat.mul_assoc]
theorem dr_pos {c s : Nat} (hc : s <= c) : ∀ {r : Rn}, Fit c s r -> 0 < dr c s r
 | .lot n, h => Sl h.2.2
 | .vote n q .bench, h => Sl (h.2.2.2.2.2.1 rfl)
 | .vote n q .council, h => Sl h.2.2.1
 | .vote n q .stay, h => by show 0 < 1; decide
theorem dr_lt {c s : Nat} (h1 : c < 512) (h2 : s < 512) : ∀ (r : Rn), dr c s r < 2 ^ 512
 | .lot n => Nat.lt_of_le_of_lt (fb s n) (Nat.pow_lt_pow_right (by decide) h2)
 | .vote n q .bench => Nat.lt_of_le_of_lt (fb s n) (Nat.pow_lt_pow_right (by decide) h2)
 | .vote n q .council => Nat.lt_of_le_of_lt (fb c n) (Nat.pow_lt_pow_right (by decide) h1)
 | .vote n q .stay => Nat.one_lt_two_pow (by decide)
theorem Jd {b : Nat} : ∀ (l : List Nat), (∀ x ∈ l, x < 2 ^ b) -> Kb l < 2 ^ (b * l.length + 1)
 | [], _ => by show 1 < 2 ^ 1; decide
 | x :: l, h => by
  have h1 := Jd l fun y hy => h y (List.mem_cons_of_mem _ hy)
  have h2 := h x List.mem_cons_self
  show x * Kb l < _
  rw [List.length_cons, Nat.mul_add, Nat.mul_one, show b * l.length + b + 1 = b + (b * l.length + 1) by omega, Nat.pow_add]
  exact Nat.mul_lt_mul'' h2 h1
theorem cj : ∀ (l : List Nat), (∀ x ∈ l, 0 < x) -> 0 < Kb l
 | [], _ => by decide
 | x :: l, h => Nat.mul_pos (h x List.mem_cons_self) (cj l fun y hy => h y (List.mem_cons_of_mem _ hy))
theorem zk {c : Nat} (P : Nat -> Prop) : ∀ {a : List Rn} {s : Nat}, FitR c s a -> s <= c -> (∀ s r, s <= c -> Fit c s r -> P (dr c s r)) -> ∀ x ∈ drs c s a, P x
 | [], _, _, _, _, x, hx => by cases hx
 | r :: a, s, h, hs, f, x, hx => by
  rcases List.mem_cons.mp hx with rfl | hx
  . exact f s r hs h.1
  . exact zk P (a := a) h.2 (h.1.le hs) f x hx
theorem Fv {c s : Nat} {a : List Rn} (h : FitR c s a) (hs : s <= c) : ∀ x ∈ drs c s a, 0 < x := zk (fun x => 0 < x) h hs fun _ _ h1 h2 => dr_pos h1 h2
theorem sj {c s : Nat} {a : List Rn} (h : FitR c s a) (hs : s <= c) (hc : c < 512) : ∀ x ∈ drs c s a, x < 2 ^ 512 := zk (fun x => x < 2 ^ 512) h hs fun s r h1 _ => dr_lt hc (by omega) r
def allD (c : Nat) (rs : List Rn) : Nat := Kb (drs c c rs)
theorem Od {c : Nat} {rs : List Rn} (h : FitR c c rs) : 0 < allD c rs := cj _ (Fv h (Nat.le_refl _))
theorem Tv {c : Nat} {rs : List Rn} (h : FitR c c rs) (hc : c < 512) : allD c rs < 2 ^ (512 * rs.length + 1) := by
 have := Jd (b := 512) (drs c c rs) (sj h (Nat.le_refl _) hc)
 rw [wc] at this
 exact this
end BR
namespace L2
open PySem
theorem Same.tr {H H1 H2 : Hp} (a : Same H H1) (b : Same H1 H2) : Same H H2 := fun c o h => b c o (a c o h)
end L2
namespace BL
open PySem PySem.Spec PyProof.Rows L2 BR
structure TsAt {α : Type} (ob : α -> HO) (H : Hp) (f : Addr) (ps : List Addr) (qs : List α) : Prop where
 ls : H f = some (.lst (ps.map V.ref))
 it : ∀ i : Nat, ∀ p, ps[i]? = some p -> ∃ q, qs[i]? = some q /\ H p = some (ob q)
 ln : ps.length = qs.length
section
variable {α : Type} {ob : α -> HO} {H H' : Hp} {f g p : Addr} {ps : List Addr} {qs : List α}
theorem TsAt.get (F : TsAt ob H f ps qs) {i : Nat} {v : V} (h : (ps.map V.ref)[i]? = some v) : ∃ p q, v = .ref p /\ ps[i]? = some p /\ qs[i]? = some q /\ H p = some (ob q) := by
 rw [List.getElem?_map] at h
 cases e : ps[i]? with
 | none => rw [e] at h; cases h
 | some p =>
  rw [e] at h
  obtain ⟨q, hq, hp⟩ := F.it i p e
  exact ⟨p, q, (Option.some.inj h).symm, rfl, hq, hp⟩
theorem TsAt.ix (F : TsAt ob H f ps qs) {i : Nat} (h : i < qs.length) : ∃ p q, atI (ps.map V.ref) (i : Int) = some (.ref p) /\ qs[i]? = some q /\ H p = some (ob q) := by
 have hi : i < ps.length := by rw [F.ln]; exact h
 obtain ⟨p, q, e, _, h2, h3⟩ := F.get (i := i) (v := .ref ps[i]) (by rw [List.getElem?_map]; simp [hi])
 exact ⟨p, q, by rw [Oc (v := .ref ps[i]) (by rw [List.getElem?_map]; simp [hi]), e], h2, h3⟩
theorem TsAt.same (F : TsAt ob H f ps qs) (s : Same H H') : TsAt ob H' f ps qs := ⟨s _ _ F.ls, fun i p h => by obtain ⟨q, a, b⟩ := F.it i p h; exact ⟨q, a, s _ _ b⟩, F.ln⟩
theorem TsAt.new (F : TsAt ob H f ps qs) {o : HO} (h : H p = none) : TsAt ob (upd H p o) f ps qs := F.same ((Same.refl H).new h)
theorem TsAt.fr1 (F : TsAt ob H f ps qs) {d l : Addr} (hob : ∀ q, ∃ xs, ob q = .tup xs) (D : DrL H d l) (hf : f ≠ d) (s : Fr1 d H H') : TsAt ob H' f ps qs :=
 ⟨s.get F.ls hf, fun i p h => by
  obtain ⟨q, a, b⟩ := F.it i p h
  obtain ⟨⟨xs, hd⟩, _⟩ := D.some
  obtain ⟨ys, e⟩ := hob q
  exact ⟨q, a, s.get b (by rw [e] at b; exact ag b hd Ef)⟩, F.ln⟩
theorem TsAt.push (F : TsAt ob H f ps qs) {q : α} (hob : ∀ q, ∃ xs, ob q = .tup xs) (hp : H p = some (ob q)) : TsAt ob (upd H f (.lst (ps.map V.ref ++ [.ref p]))) f (ps ++ [p]) (qs ++ [q]) := by
 have nf : ∀ (r : Addr) (x : α), H r = some (ob x) -> r ≠ f := fun r x e => by
  obtain ⟨ys, z⟩ := hob x
  rw [z] at e
  exact ag e F.ls Ef
 refine ⟨by rw [ka]; simp, fun i p' h => ?_, by rw [List.length_append, List.length_append, F.ln]; rfl⟩
 by_cases hi : i < ps.length
 . rw [List.getElem?_append_left hi] at h
   obtain ⟨q', a, b⟩ := F.it i p' h
   exact ⟨q', by rw [List.getElem?_append_left (by rw [<- F.ln]; exact hi)]; exact a, by rw [Aa (nf _ _ b)]; exact b⟩
 . rw [List.getElem?_append_right (by omega)] at h
   have e : i - ps.length = 0 := by
    cases z : i - ps.length with
    | zero => rfl
    | succ k => rw [z] at h; simp at h
   rw [e] at h
   simp at h
   subst h
   exact ⟨q, by rw [List.getElem?_append_right (by rw [<- F.ln]; omega), <- F.ln, e]; rfl, by rw [Aa (nf _ _ hp)]; exact hp⟩
theorem TsAt.cat {ps' : List Addr} {qs' : List α} (F : TsAt ob H f ps qs) (G : TsAt ob H g ps' qs') (h : H p = none) : TsAt ob (upd H p (.lst (ps.map V.ref ++ ps'.map V.ref))) p (ps ++ ps') (qs ++ qs') := by
 refine ⟨by rw [ka, List.map_append], fun i p' h' => ?_, by rw [List.length_append, List.length_append, F.ln, G.ln]⟩
 by_cases hi : i < ps.length
 . rw [List.getElem?_append_left hi] at h'
   obtain ⟨q, a, b⟩ := F.it i p' h'
   exact ⟨q, by rw [List.getElem?_append_left (by rw [<- F.ln]; exact hi)]; exact a, by rw [Aa (da b h)]; exact b⟩
 . rw [List.getElem?_append_right (by omega)] at h'
   obtain ⟨q, a, b⟩ := G.it _ p' h'
   exact ⟨q, by rw [List.getElem?_append_right (by rw [<- F.ln]; omega), <- F.ln]; exact a, by rw [Aa (da b h)]; exact b⟩
end
def wdS : Wd -> Str
 | .council => "council"
 | .bench => "bench"
 | .stay => "stay"
def rnO : Rn -> HO
 | .lot n => .tup [.str "lot", .int n]
 | .vote n q w => .tup [.str "vote", .int n, .int q, .str (wdS w)]
theorem rn_n : ∀ r : Rn, ∃ xs, rnO r = .tup xs /\ atI xs 1 = some (.int (r.n : Nat))
 | .lot _ => ⟨_, rfl, rfl⟩
 | .vote _ _ _ => ⟨_, rfl, rfl⟩
abbrev RwAt (H : Hp) (a : Addr) (ps : List Addr) (rs : List Rn) : Prop := TsAt rnO H a ps rs
structure CR (H : Hp) (a : Addr) (ps : List Addr) (c : Nat) (rs : List Rn) : Prop where
 rw : RwAt H a ps rs
 c1 : 1 <= c
 c2 : c <= 500
 ft : FitR c c rs
 ln : rs.length <= 100
theorem CR.same {H H' : Hp} {a : Addr} {ps : List Addr} {c : Nat} {rs : List Rn} (R : CR H a ps c rs) (s : Same H H') : CR H' a ps c rs := ⟨R.rw.same s, R.c1, R.c2, R.ft, R.ln⟩
def bf : Sp := fun vs H Q _ => ∃ (c s : Nat) (p : Addr) (r : Rn), vs = [.int c, .int s, .ref p] /\ H p = some (rnO r) /\ c < 512 /\ s < 512 /\ Q (.int (dr c s r : Nat)) H
theorem jc {c s : Nat} {p : Addr} {r : Rn} {H : Hp} {Q : VK} {E : XK} (h1 : H p = some (rnO r)) (h2 : c < 512) (h3 : s < 512) (q : Q (.int (dr c s r : Nat)) H) : bf [.int c, .int s, .ref p] H Q E := ⟨c, s, p, r, rfl, h1, h2, h3, q⟩
def Xg : Sp := fun vs H Q _ => ∃ (c : Nat) (a : Addr) (ps : List Addr) (rs : List Rn), vs = [.int c, .ref a] /\ CR H a ps c rs /\ ∀ (p : Addr) (H' : Hp), H p = none -> Same H H' -> H' p = some (lstN (drs c c rs)) -> Q (.ref p) H'
theorem cf {c : Nat} {a : Addr} {ps : List Addr} {rs : List Rn} {H : Hp} {Q : VK} {E : XK} (R : CR H a ps c rs) (q : ∀ (p : Addr) (H' : Hp), H p = none -> Same H H' -> H' p = some (lstN (drs c c rs)) -> Q (.ref p) H') : Xg [.int c, .ref a] H Q E := ⟨c, a, ps, rs, rfl, R, q⟩
def Pn : Sp := fun vs H Q _ => ∃ (c : Nat) (a : Addr) (ps : List Addr) (rs : List Rn), vs = [.int c, .ref a] /\ CR H a ps c rs /\ ∀ (H' : Hp), Same H H' -> Q (.int (allD c rs : Nat)) H'
theorem Hf {c : Nat} {a : Addr} {ps : List Addr} {rs : List Rn} {H : Hp} {Q : VK} {E : XK} (R : CR H a ps c rs) (q : ∀ (H' : Hp), Same H H' -> Q (.int (allD c rs : Nat)) H') : Pn [.int c, .ref a] H Q E := ⟨c, a, ps, rs, rfl, R, q⟩
end BL
namespace BR
open MB
def mr (n : Nat) (f : Nat -> Nat) : List Nat := (List.range (n + 1)).map f
theorem ub (n : Nat) (f : Nat -> Nat) : (mr n f).length = n + 1 := by unfold mr; simp
theorem zb {n i : Nat} (f : Nat -> Nat) (h : i <= n) : (mr n f)[i]? = some (f i) := by
 unfold mr
 rw [List.getElem?_map, List.getElem?_range (by omega)]; rfl
theorem qd (n : Nat) (f : Nat -> Nat) : mr (n + 1) f = mr n f ++ [f (n + 1)] := by
 unfold mr
 rw [List.range_succ, List.map_append]; rfl
theorem yp (n : Nat) (f : Nat -> Nat) : mr (n + 1) f = f 0 :: mr n (fun k => f (k + 1)) := by
 unfold mr
 rw [List.range_succ_eq_map, List.map_cons, List.map_map]; rfl
theorem Lb {n : Nat} {f g : Nat -> Nat} (h : ∀ k, k <= n -> f k = g k) : mr n f = mr n g := by
 unfold mr
 refine List.map_congr_left fun k hk => h k ?_
 have := List.mem_range.mp hk
 omega
theorem cg {n i : Nat} (f : Nat -> Nat) (h : n < i) : (mr n f)[i]? = none := List.getElem?_eq_none (by rw [ub]; omega)
theorem kj (n : Nat) (f : Nat -> Nat) : (mr n f).reverse = mr n fun j => f (n - j) := by
 apply List.ext_getElem?
 intro i
 by_cases h : i <= n
 . rw [List.getElem?_reverse (by rw [ub]; omega), ub, zb _ (by omega), zb _ h]
   congr 2
 . rw [cg _ (by omega), List.getElem?_eq_none (by rw [List.length_reverse, ub]; omega)]
theorem sum_add (f g : Nat -> Nat) : ∀ n : Nat, (mr n fun k => f k + g k).sum = (mr n f).sum + (mr n g).sum
 | 0 => by simp [mr]
 | n + 1 => by
  rw [qd, qd, qd, List.sum_append, List.sum_append, List.sum_append, sum_add f g n]
  simp only [List.sum_cons, List.sum_nil]
  omega
theorem xh {f : Nat -> Nat} : ∀ {n : Nat}, (∀ k, k <= n -> f k = 0) -> (mr n f).sum = 0
 | 0, h => by simp [mr, h 0 (Nat.le_refl _)]
 | n + 1, h => by
  rw [qd, List.sum_append, xh fun k hk => h k (by omega)]
  simp [h (n + 1) (Nat.le_refl _)]
def one (n k v : Nat) : List Nat := mr n fun j => if j = k then v else 0
theorem Td {k v : Nat} : ∀ {n : Nat}, k <= n -> (one n k v).sum = v
 | 0, h => by
  have : k = 0 := by omega
  subst this
  simp [one, mr]
 | n + 1, h => by
  unfold one
  rw [qd, List.sum_append]
  by_cases e : k = n + 1
  . rw [xh fun j hj => by rw [if_neg (by omega)]]
    simp [e]
  . have := Td (k := k) (v := v) (n := n) (by omega)
    unfold one at this
    rw [this]
    simp only [List.sum_cons, List.sum_nil]
    rw [if_neg (by omega)]; omega
theorem To {n k v : Nat} (h : k <= n) : (List.replicate (n + 1) 0).set k v = one n k v := by
 apply List.ext_getElem?
 intro i
 by_cases hi : i <= n
 . unfold one
   rw [zb _ hi, List.getElem?_set, List.length_replicate, List.getElem?_replicate]
   by_cases e : k = i
   . rw [if_pos e, if_pos (by omega), if_pos e.symm]
   . rw [if_neg e, if_pos (by omega), if_neg (fun z => e z.symm)]
 . unfold one
   rw [cg _ (by omega), List.getElem?_eq_none (by rw [List.length_set, List.length_replicate]; omega)]
theorem di {n k v : Nat} (h : k <= n) : (one n k v).reverse = one n (n - k) v := by
 unfold one
 rw [kj]
 refine Lb fun j hj => ?_
 by_cases e : j = n - k
 . rw [if_pos e, if_pos (by omega)]
 . rw [if_neg e, if_neg (by omega)]
def lotN (b on n : Nat) : List Nat := mr n fun k => ch on k * ch (b - on) (n - k)
theorem Qm : ∀ (a m n : Nat), (mr n fun k => ch a k * ch m (n - k)).sum = ch (a + m) n
 | 0, m, 0 => by simp [mr, ib]
 | 0, m, n + 1 => by
  rw [yp, List.sum_cons, xh fun k _ => by rw [Vp, Nat.zero_mul]]
  rw [ib, Nat.one_mul, Nat.zero_add]; rfl
 | a + 1, m, 0 => by simp [mr, ib]
 | a + 1, m, n + 1 => by
  have h1 := Qm a m n
  have h2 := Qm a m (n + 1)
  rw [yp, List.sum_cons] at h2 ⊢
  rw [show a + 1 + m = (a + m) + 1 by omega, de, <- h1, <- h2]
  have e1 : (mr n fun k => ch (a + 1) (k + 1) * ch m (n + 1 - (k + 1))) = mr n fun k => ch a k * ch m (n - k) + ch a (k + 1) * ch m (n + 1 - (k + 1)) := Lb fun k hk => by
   rw [de, Nat.add_mul, show n + 1 - (k + 1) = n - k by omega]
  rw [e1, sum_add, ib, ib]
  omega
theorem qi {b on n : Nat} (h : on <= b) : (lotN b on n).sum = ch b n := by
 unfold lotN
 rw [Qm, show on + (b - on) = b by omega]
theorem si {b on n : Nat} (h : on <= b) : lotN b (b - on) n = (lotN b on n).reverse := by
 unfold lotN
 rw [kj]
 refine Lb fun k hk => ?_
 rw [show b - (b - on) = on by omega, show n - (n - k) = k by omega, Nat.mul_comm]
def left (c f b on n q : Nat) : Nat := if q <= on then min f n else if q <= b - on then n - min (c - f) n else on
def bh (c f b on : Nat) : Rn -> List Nat
 | .lot n => lotN b on n
 | .vote n q w => if q <= on then one n (min f n) (dr c b (.vote n q w)) else if q <= b - on then one n (n - min (c - f) n) (dr c b (.vote n q w)) else
  match w with
  | .council => lotN c f n
  | .bench => lotN b on n
  | .stay => one n on 1
theorem Wb (c f b on n q : Nat) (w : Wd) : bh c f b on (.vote n q w) = if q <= on then one n (min f n) (dr c b (.vote n q w)) else if q <= b - on then one n (n - min (c - f) n) (dr c b (.vote n q w)) else
 match w with
 | .council => lotN c f n
 | .bench => lotN b on n
 | .stay => one n on 1 := rfl
theorem ug (c f b on : Nat) : ∀ r : Rn, (bh c f b on r).length = r.n + 1
 | .lot n => ub _ _
 | .vote n q w => by
  rw [Wb]
  split
  . exact ub _ _
  . split
    . exact ub _ _
    . cases w <;> exact ub _ _
theorem Bj {c f b on : Nat} (hf : f <= c) (ho : on <= b) : ∀ {r : Rn}, Fit c b r -> (bh c f b on r).sum = dr c b r
 | .lot n, _ => qi ho
 | .vote n q w, h => by
  rw [Wb]
  split
  . exact Td (by omega)
  . split
    . exact Td (by omega)
    . cases w with
      | council => exact qi hf
      | bench => exact qi ho
      | stay => exact Td (by have := h.2.2.2.2.2.2 rfl; omega)
theorem bh_rev {c f b on : Nat} (hf : f <= c) (ho : on <= b) : ∀ {r : Rn}, Fit c b r -> bh c (c - f) b (b - on) r = (bh c f b on r).reverse
 | .lot n, _ => si ho
 | .vote n q w, h => by
  obtain ⟨h1, h2, h3, h4, h5, h6, h7⟩ := h
  rw [Wb, Wb]
  by_cases a : q <= on
  . rw [if_neg (by omega), if_pos (by omega), if_pos a, di (by omega), show c - (c - f) = f by omega]
  . by_cases a2 : q <= b - on
    . rw [if_pos a2, if_neg a, if_pos a2, di (by omega)]
      congr 1
      omega
    . rw [if_neg a2, if_neg (by omega), if_neg a, if_neg a2]
      cases w with
      | council => exact si hf
      | bench => exact si ho
      | stay =>
       have := h7 rfl
       show one n (b - on) 1 = (one n on 1).reverse
       rw [di (by omega), this]
theorem Iv (n i : Nat) : ((ch n i : Int) * ((n : Int) - (i : Int))) / ((i : Int) + 1) = (ch n (i + 1) : Int) := by
 by_cases h : i <= n
 . exact Rt n i h
 . rw [ze (show n < i by omega), ze (show n < i + 1 by omega)]
   simp
theorem bh_le {c f b on : Nat} (hf : f <= c) (ho : on <= b) (hc : c < 512) (hb : b < 512) {r : Rn} (h : Fit c b r) : ∀ x ∈ bh c f b on r, x < 2 ^ 512 := by
 intro x hx
 have h1 : x <= (bh c f b on r).sum := by
  generalize bh c f b on r = l at hx ⊢
  induction l with
  | nil => cases hx
  | cons y l ih =>
   rw [List.sum_cons]
   rcases List.mem_cons.mp hx with rfl | hx
   . omega
   . have := ih hx; omega
 rw [Bj hf ho h] at h1
 exact Nat.lt_of_le_of_lt h1 (dr_lt hc hb r)
end BR
namespace BL
open PySem PySem.Spec PyProof.Rows L2 BR
theorem qk {n k : Nat} (h : k < n) : ixN n (k : Int) = some k := by
 unfold ixN
 rw [if_pos (by omega), if_pos (by omega)]; rfl
theorem Om (l : List Nat) (k x : Nat) : ((zs l).map V.int).set k (.int (x : Int)) = (zs (l.set k x)).map V.int := by
 unfold zs
 rw [List.map_set, List.map_set]
theorem Pm (n : Nat) : (List.replicate n (0 : Int)).map V.int = (zs (List.replicate n 0)).map V.int := by
 unfold zs
 rw [List.map_replicate, List.map_replicate, List.map_replicate]; rfl
theorem zs_rev (l : List Nat) : ((zs l).map V.int).reverse = (zs l.reverse).map V.int := by
 unfold zs
 rw [List.map_reverse, List.map_reverse]
theorem Ds : ∀ l : List Nat, (zs l).sum = ((l.sum : Nat) : Int)
 | [] => rfl
 | x :: l => by
  show (x : Int) + (zs l).sum = _
  rw [Ds l, List.sum_cons, Int.natCast_add]
theorem Mb {l : List Nat} {i : Nat} {v : V} (h : ((zs l).map V.int)[i]? = some v) : ∃ x : Nat, l[i]? = some x /\ v = .int (x : Int) := by
 unfold zs at h
 rw [List.getElem?_map, List.getElem?_map] at h
 cases w : l[i]? with
 | none => rw [w] at h; cases h
 | some x => rw [w] at h; exact ⟨x, rfl, (Option.some.inj h).symm⟩
def NewL (H : Hp) (Q : VK) (l : List Nat) : Prop := ∀ (p : Addr) (H' : Hp), H p = none -> Same H H' -> H' p = some (lstN l) -> Q (.ref p) H'
def Ls : Sp := fun vs H Q _ => ∃ m k : Nat, vs = [.int m, .int k] /\ m < 512 /\ k <= 500 /\ NewL H Q (mr k (MB.ch m))
theorem Uk {m k : Nat} {H : Hp} {Q : VK} {E : XK} (h1 : m < 512) (h2 : k <= 500) (q : NewL H Q (mr k (MB.ch m))) : Ls [.int m, .int k] H Q E := ⟨m, k, rfl, h1, h2, q⟩
def spLot : Sp := fun vs H Q _ => ∃ b on k : Nat, vs = [.int b, .int on, .int k] /\ b < 512 /\ on <= b /\ k <= 500 /\ NewL H Q (lotN b on k)
theorem Fj {b on k : Nat} {H : Hp} {Q : VK} {E : XK} (h1 : b < 512) (h3 : on <= b) (h2 : k <= 500) (q : NewL H Q (lotN b on k)) : spLot [.int b, .int on, .int k] H Q E := ⟨b, on, k, rfl, h1, h3, h2, q⟩
def Vi (b on q : Nat) : Str := if q <= on then "friends" else if q <= b - on then "foes" else "hung"
def Ss : Sp := fun vs H Q _ => ∃ b on q : Nat, vs = [.int b, .int on, .int q] /\ on <= b /\ Q (.str (Vi b on q)) H
theorem Fq {b on q : Nat} {H : Hp} {Q : VK} {E : XK} (h : on <= b) (k : Q (.str (Vi b on q)) H) : Ss [.int b, .int on, .int q] H Q E := ⟨b, on, q, rfl, h, k⟩
def Wk : Sp := fun vs H Q _ => ∃ (c f n : Nat) (w : Bool), vs = [.int c, .int f, .int n, .str (if w then "friends" else "foes")] /\ f <= c /\ Q (.int ((if w then min f n else n - min (c - f) n : Nat) : Int)) H
theorem Wg {c f n : Nat} {w : Bool} {H : Hp} {Q : VK} {E : XK} (h : f <= c) (k : Q (.int ((if w then min f n else n - min (c - f) n : Nat) : Int)) H) : Wk [.int c, .int f, .int n, .str (if w then "friends" else "foes")] H Q E := ⟨c, f, n, w, rfl, h, k⟩
def Vs : Sp := fun vs H Q _ => ∃ n k v : Nat, vs = [.int n, .int k, .int v] /\ k <= n /\ n <= 500 /\ NewL H Q (one n k v)
theorem zh {n k v : Nat} {H : Hp} {Q : VK} {E : XK} (h1 : k <= n) (h2 : n <= 500) (q : NewL H Q (one n k v)) : Vs [.int n, .int k, .int v] H Q E := ⟨n, k, v, rfl, h1, h2, q⟩
def il : Sp := fun vs H Q _ => ∃ (c f b on : Nat) (p : Addr) (r : Rn), vs = [.int c, .int f, .int b, .int on, .ref p] /\ H p = some (rnO r) /\ f <= c /\ on <= b /\ c < 512 /\ b < 512 /\ Fit c b r /\ NewL H Q (bh c f b on r)
theorem Yg {c f b on : Nat} {p : Addr} {r : Rn} {H : Hp} {Q : VK} {E : XK} (hp : H p = some (rnO r)) (h1 : f <= c) (h2 : on <= b) (h3 : c < 512) (h4 : b < 512) (h5 : Fit c b r) (q : NewL H Q (bh c f b on r)) : il [.int c, .int f, .int b, .int on, .ref p] H Q E := ⟨c, f, b, on, p, r, rfl, hp, h1, h2, h3, h4, h5, q⟩
end BL
namespace BR
open MB
def sm : Nat -> (Nat -> Nat) -> Nat
 | 0, _ => 0
 | k + 1, g => sm k g + g k
theorem Cb {f g : Nat -> Nat} : ∀ {k : Nat}, (∀ i, i < k -> f i = g i) -> sm k f = sm k g
 | 0, _ => rfl
 | k + 1, h => by
  show sm k f + f k = sm k g + g k
  rw [Cb fun i hi => h i (by omega), h k (by omega)]
theorem jj (f : Nat -> Nat) : ∀ n : Nat, (mr n f).sum = sm (n + 1) f
 | 0 => by simp [mr, sm]
 | n + 1 => by
  rw [qd, List.sum_append, jj f n]
  simp [sm]
theorem ll (f g : Nat -> Nat) : ∀ k : Nat, (sm k fun i => f i + g i) = sm k f + sm k g
 | 0 => rfl
 | k + 1 => by
  show (sm k fun i => f i + g i) + (f k + g k) = (sm k f + f k) + (sm k g + g k)
  rw [ll f g k]; omega
theorem Kf (a : Nat) (f : Nat -> Nat) : ∀ k : Nat, (sm k fun i => a * f i) = a * sm k f
 | 0 => by simp [sm]
 | k + 1 => by
  show (sm k fun i => a * f i) + a * f k = a * (sm k f + f k)
  rw [Kf a f k, Nat.mul_add]
theorem Ij : ∀ k : Nat, (sm k fun _ => 0) = 0
 | 0 => rfl
 | k + 1 => by show (sm k fun _ => 0) + 0 = 0; rw [Ij k]
theorem Jj (g : Nat -> Nat -> Nat) (m : Nat) : ∀ k : Nat, (sm k fun i => sm m fun j => g i j) = sm m fun j => sm k fun i => g i j
 | 0 => by
  show 0 = sm m fun j => 0
  rw [Ij]
 | k + 1 => by
  show (sm k fun i => sm m fun j => g i j) + (sm m fun j => g k j) = sm m fun j => (sm k fun i => g i j) + g k j
  rw [Jj g m k, ll]
theorem Ld : ∀ (l : List Nat), l.sum = sm l.length fun i => l.getD i 0 := by
 intro l
 have key : ∀ k, k <= l.length -> (l.take k).sum = sm k fun i => l.getD i 0 := by
  intro k
  induction k with
  | zero => intro _; simp [sm]
  | succ k ih =>
   intro h
   have hk : l[k]? = some l[k] := by simp
   rw [rb hk, List.sum_append, ih (by omega)]
   show _ = _ + l.getD k 0
   rw [List.getD_eq_getElem?_getD, hk]; simp
 have := key l.length (Nat.le_refl _)
 rw [List.take_length] at this
 exact this
theorem mr_set {n j v : Nat} {g : Nat -> Nat} (h : j <= n) : (mr n g).set j v = mr n fun t => if t = j then v else g t := by
 apply List.ext_getElem?
 intro i
 by_cases hi : i <= n
 . rw [zb _ hi, List.getElem?_set, ub, zb _ hi]
   by_cases e : j = i
   . rw [if_pos e, if_pos (by omega), if_pos e.symm]
   . rw [if_neg e, if_neg (fun z => e z.symm)]
 . rw [cg _ (by omega), List.getElem?_eq_none (by rw [List.length_set, ub]; omega)]
theorem getD_some {l : List Nat} {i x : Nat} (h : l[i]? = some x) : l.getD i 0 = x := by rw [List.getD_eq_getElem?_getD, h]; rfl
theorem jh : ∀ {l : List Nat} {x : Nat}, x ∈ l -> x <= l.sum
 | y :: l, x, h => by
  rw [List.sum_cons]
  rcases List.mem_cons.mp h with rfl | h
  . omega
  . have := jh h; omega
def rT (c f b : Nat) (h : List Nat) (r : Rn) (i t : Nat) : Nat := sm i fun on => h.getD on 0 * (bh c f b on r).getD t 0
def ron (c f b : Nat) (h : List Nat) (r : Rn) : List Nat := mr r.n fun t => rT c f b h r (b + 1) t
theorem Rh (c f b : Nat) (h : List Nat) (r : Rn) : (ron c f b h r).length = r.n + 1 := ub _ _
theorem qu {c f b : Nat} {h : List Nat} {r : Rn} (hf : f <= c) (hl : h.length = b + 1) (ft : Fit c b r) : (ron c f b h r).sum = h.sum * dr c b r := by
 unfold ron
 rw [jj]
 unfold rT
 rw [<- Jj (fun on t => h.getD on 0 * (bh c f b on r).getD t 0) (r.n + 1) (b + 1)]
 have e : ∀ on, on < b + 1 -> (sm (r.n + 1) fun t => h.getD on 0 * (bh c f b on r).getD t 0) = dr c b r * h.getD on 0 := fun on ho => by
  rw [Kf, <- ug c f b on r, <- Ld, Bj hf (by omega) ft, Nat.mul_comm]
 rw [Cb e, Kf, <- hl, <- Ld, Nat.mul_comm]
def rds (c f : Nat) : Nat -> List Nat -> List Rn -> List (List Nat)
 | _, _, [] => []
 | b, h, r :: rs => ron c f b h r :: rds c f r.n (ron c f b h r) rs
def rdl (c f : Nat) : Nat -> List Nat -> List Rn -> List Nat
 | _, h, [] => h
 | b, h, r :: rs => rdl c f r.n (ron c f b h r) rs
theorem Sh (c f : Nat) : ∀ (a : List Rn) (b : Nat) (h : List Nat) (r : Rn), rds c f b h (a ++ [r]) = rds c f b h a ++ [ron c f (Pa b a) (rdl c f b h a) r]
 | [], _, _, _ => rfl
 | x :: a, b, h, r => by
  show ron c f b h x :: rds c f x.n (ron c f b h x) (a ++ [r]) = (ron c f b h x :: rds c f x.n (ron c f b h x) a) ++ _
  rw [Sh c f a x.n _ r]; rfl
theorem Th (c f : Nat) : ∀ (a : List Rn) (b : Nat) (h : List Nat) (r : Rn), rdl c f b h (a ++ [r]) = ron c f (Pa b a) (rdl c f b h a) r
 | [], _, _, _ => rfl
 | x :: a, b, h, r => by
  show rdl c f x.n (ron c f b h x) (a ++ [r]) = _
  rw [Th c f a x.n _ r]; rfl
theorem Me (c f : Nat) : ∀ (a : List Rn) (b : Nat) (h : List Nat), (rds c f b h a).length = a.length
 | [], _, _ => rfl
 | x :: a, b, h => by
  show (rds c f x.n _ a).length + 1 = a.length + 1
  rw [Me c f a]
theorem Oe (c f : Nat) : ∀ (a : List Rn) {b : Nat} {h : List Nat}, h.length = b + 1 -> (rdl c f b h a).length = Pa b a + 1
 | [], b, h, e => e
 | x :: a, b, h, e => Oe c f a (Rh _ _ _ _ _)
theorem Wj {c f : Nat} (hf : f <= c) : ∀ (a : List Rn) {b : Nat} {h : List Nat}, h.length = b + 1 -> FitR c b a -> (rdl c f b h a).sum = h.sum * Kb (drs c b a)
 | [], b, h, e, _ => by show h.sum = h.sum * 1; omega
 | x :: a, b, h, e, ft => by
  show (rdl c f x.n (ron c f b h x) a).sum = h.sum * (dr c b x * Kb (drs c x.n a))
  rw [Wj hf a (Rh _ _ _ _ _) ft.2, qu hf e ft.1, Nat.mul_assoc]
theorem Vj {c f : Nat} : ∀ {a : List Rn} {b : Nat} {h : List Nat} {i : Nat} {l : List Nat}, (rds c f b h a)[i]? = some l -> l = rdl c f b h (a.take (i + 1))
 | [], _, _, i, l, e => by simp [rds] at e
 | x :: a, b, h, 0, l, e => by
  have : ron c f b h x = l := by simpa [rds] using e
  rw [<- this]; rfl
 | x :: a, b, h, i + 1, l, e => by
  show l = rdl c f x.n (ron c f b h x) (a.take (i + 1))
  exact Vj (by simpa [rds] using e)
def road (c f : Nat) (rs : List Rn) : List (List Nat) := rds c f c (one c f 1) rs
theorem Tb (n k v : Nat) : (one n k v).length = n + 1 := ub _ _
def frM (c f : Nat) (rs : List Rn) : Nat := (rdl c f c (one c f 1) rs).getD 1 0
end BR
namespace L2
open PySem
end L2
namespace BR
end BR
namespace BL
open PySem PySem.Spec PyProof.Rows L2 BR
theorem Jf {α : Type} : ∀ {l : List α}, l ≠ [] -> ∃ l' y, l = l' ++ [y]
 | [], h => absurd rfl h
 | [x], _ => ⟨[], x, rfl⟩
 | x :: y :: l, _ => by
  obtain ⟨l', z, e⟩ := Jf (l := y :: l) (fun h => by cases h)
  exact ⟨x :: l', z, by rw [e]; rfl⟩
def Bn : Sp := fun vs H Q _ => ∃ (c : Nat) (a : Addr) (ps : List Addr) (rs : List Rn), vs = [.int c, .ref a] /\ CR H a ps c rs /\ Pa c rs = 1 /\ ∀ H', Same H H' -> Q .non H'
theorem pe {c : Nat} {a : Addr} {ps : List Addr} {rs : List Rn} {H : Hp} {Q : VK} {E : XK} (R : CR H a ps c rs) (h : Pa c rs = 1) (q : ∀ H', Same H H' -> Q .non H') : Bn [.int c, .ref a] H Q E := ⟨c, a, ps, rs, rfl, R, h, q⟩
def Cn : Sp := fun vs H Q _ => ∃ (c f : Nat) (a : Addr) (ps : List Addr) (rs : List Rn), vs = [.int c, .int f, .ref a] /\ CR H a ps c rs /\ Pa c rs = 1 /\ f <= c /\ ∀ H', Same H H' -> Q .non H'
theorem Ti {c f : Nat} {a : Addr} {ps : List Addr} {rs : List Rn} {H : Hp} {Q : VK} {E : XK} (R : CR H a ps c rs) (h : Pa c rs = 1) (hf : f <= c) (q : ∀ H', Same H H' -> Q .non H') : Cn [.int c, .int f, .ref a] H Q E := ⟨c, f, a, ps, rs, rfl, R, h, hf, q⟩
def Si : Sp := fun vs H Q _ => ∃ (c f b : Nat) (ha p : Addr) (h : List Nat) (r : Rn), vs = [.int c, .int f, .ref ha, .ref p] /\ H ha = some (lstN h) /\ H p = some (rnO r) /\ h.length = b + 1 /\ f <= c /\ c < 512 /\ b < 512 /\ Fit c b r /\ h.sum < 2 ^ 60000 /\ NewL H Q (ron c f b h r)
theorem Ej {c f b : Nat} {ha p : Addr} {h : List Nat} {r : Rn} {H : Hp} {Q : VK} {E : XK} (h1 : H ha = some (lstN h)) (h2 : H p = some (rnO r)) (h3 : h.length = b + 1) (h4 : f <= c) (h5 : c < 512) (h6 : b < 512) (h7 : Fit c b r) (h8 : h.sum < 2 ^ 60000) (q : NewL H Q (ron c f b h r)) : Si [.int c, .int f, .ref ha, .ref p] H Q E := ⟨c, f, b, ha, p, h, r, rfl, h1, h2, h3, h4, h5, h6, h7, h8, q⟩
def Bs (H : Hp) (Q : VK) (ls : List (List Nat)) : Prop := ∀ (a : Addr) (H' : Hp) (ps : List Addr), H a = none -> Same H H' -> TsAt lstN H' a ps ls -> (∀ p ∈ ps, H p = none /\ p ≠ a) -> Q (.ref a) H'
structure CF (H : Hp) (a : Addr) (ps : List Addr) (c f : Nat) (rs : List Rn) : Prop where
 cr : CR H a ps c rs
 wh : Pa c rs = 1
 fr : f <= c
theorem CF.same {H H' : Hp} {a : Addr} {ps : List Addr} {c f : Nat} {rs : List Rn} (R : CF H a ps c f rs) (s : Same H H') : CF H' a ps c f rs := ⟨R.cr.same s, R.wh, R.fr⟩
def An : Sp := fun vs H Q _ => ∃ (c f : Nat) (a : Addr) (ps : List Addr) (rs : List Rn), vs = [.int c, .int f, .ref a] /\ CF H a ps c f rs /\ Bs H Q (road c f rs)
theorem me {c f : Nat} {a : Addr} {ps : List Addr} {rs : List Rn} {H : Hp} {Q : VK} {E : XK} (R : CF H a ps c f rs) (q : Bs H Q (road c f rs)) : An [.int c, .int f, .ref a] H Q E := ⟨c, f, a, ps, rs, rfl, R, q⟩
def spFrM : Sp := fun vs H Q _ => ∃ (c f : Nat) (a : Addr) (ps : List Addr) (rs : List Rn), vs = [.int c, .int f, .ref a] /\ CF H a ps c f rs /\ ∀ H', Same H H' -> Q (.int (frM c f rs : Nat)) H'
theorem Ie {c f : Nat} {a : Addr} {ps : List Addr} {rs : List Rn} {H : Hp} {Q : VK} {E : XK} (R : CF H a ps c f rs) (q : ∀ H', Same H H' -> Q (.int (frM c f rs : Nat)) H') : spFrM [.int c, .int f, .ref a] H Q E := ⟨c, f, a, ps, rs, rfl, R, q⟩
theorem ml {c f : Nat} {rs : List Rn} (hf : f <= c) (ft : FitR c c rs) : (rdl c f c (one c f 1) rs).sum = allD c rs := by
 rw [Wj hf rs (Tb _ _ _) ft, Td hf, Nat.one_mul]; rfl
theorem uu {c f : Nat} {rs : List Rn} (hf : f <= c) (ft : FitR c c rs) (hc : c < 512) (hl : rs.length <= 100) : (rdl c f c (one c f 1) rs).sum < 2 ^ 60000 := by
 rw [ml hf ft]
 exact Nat.lt_of_lt_of_le (Tv ft hc) (Nat.pow_le_pow_right (by decide) (by omega))
theorem TsAt.pushL {H : Hp} {f p : Addr} {ps : List Addr} {qs : List (List Nat)} {q : List Nat} (F : TsAt lstN H f ps qs) (h1 : ∀ r ∈ ps, r ≠ f) (h2 : p ≠ f) (hp : H p = some (lstN q)) : TsAt lstN (upd H f (.lst (ps.map V.ref ++ [.ref p]))) f (ps ++ [p]) (qs ++ [q]) := by
 refine ⟨by rw [ka]; simp, fun i p' h => ?_, by rw [List.length_append, List.length_append, F.ln]; rfl⟩
 by_cases hi : i < ps.length
 . rw [List.getElem?_append_left hi] at h
   obtain ⟨q', a, b⟩ := F.it i p' h
   exact ⟨q', by rw [List.getElem?_append_left (by rw [<- F.ln]; exact hi)]; exact a, by rw [Aa (h1 _ (List.mem_of_getElem? h))]; exact b⟩
 . rw [List.getElem?_append_right (by omega)] at h
   have e : i - ps.length = 0 := by
    cases z : i - ps.length with
    | zero => rfl
    | succ k => rw [z] at h; simp at h
   rw [e] at h
   simp at h
   subst h
   exact ⟨q, by rw [List.getElem?_append_right (by rw [<- F.ln]; omega), <- F.ln, e]; rfl, by rw [Aa h2]; exact hp⟩
end BL
namespace L2
open PySem PySem.Spec PyProof.Rows
theorem Io {X : Cx} {xn : Str} {ix : Nat} {npos spos : Pos} {elt tg iter : Expr} {ifs : List Expr} {scope : Scope} {pos : Pos} {cl : List (Str × Addr)} {cN tN : List Str} {js : List Nat} {wi : TI} {g : TG} {tt : TT} {te : TE}
 (hc : X.calm = true) (hx0 : X.xe = fun _ _ => False) (hi : PI X tg iter wi)
 (hclos : closureFor scope X.env = pure cl) (hcell : ∀ y ∈ scope.names, y.2 ≠ .cell) (hkind : scope.kind = .function) (hnames : ∀ y ∈ scope.names, y.2 = .local -> scope.names.lookup y.1 = some .local)
 (hcl : ∀ p ∈ cl, X.env.cells.lookup p.1 = some p.2) (hhas : ∀ C x, ((compEnvC scope cl C X.env).kindOf x = some .cell \/ (compEnvC scope cl C X.env).kindOf x = some .free) -> ∃ c, cl.lookup x = some c)
 (hcap : ∀ C, pf X (compEnvC scope cl C X.env) cN js)
 (hg : ∀ C s₀ H₀ ex, PG (cxIn X scope cl C (cN ++ tN) s₀ H₀ ex) tg g) (ht : ∀ C s₀ H₀ ex, PTs (cxIn X scope cl C (cN ++ tN) s₀ H₀ ex) ifs tt) (he : ∀ C s₀ H₀ ex, PE (cxIn X scope cl C (cN ++ tN) s₀ H₀ ex) elt te)
 (hgN : PG X (.Name xn npos) (uk ix)) (hsw : swapsWith (.ListComp elt [⟨tg, iter, ifs, 0⟩] scope pos) (some (.Name xn npos)) spos.line X.env = pure true)
 (hs : ∀ x, foldedSetIterable iter X.env x = pure x := by intro _; first | rfl | with_unfolding_all rfl) :
 PS X (.Assign [.Name xn npos] (.ListComp elt [⟨tg, iter, ifs, 0⟩] scope pos) spos) (tAsg (Oi js tN.length wi g tt te) (uk ix)) := by
 intro pins s σ H DD I h
 have hxe : X.xe = fun _ _ => False := hx0
 rw [exec_Assign_Name_used xn npos _ spos hsw]
 refine wpAny_bind (wpAny_standAt (wpAny_bind ?_))
 show wpAny _ _ (comprehension (.ListComp elt [⟨tg, iter, ifs, 0⟩] scope pos) scope X.env _ (newList []) false (eval iter X.env) (some (assign (.Name xn npos) X.env)) >>= _) _ _ s
 refine wpAny_bind ?_
 refine wpAny_mono (Q := fun _ s'' => ∃ σ' H', Inv X pins σ' H' s'' /\ DD.nx σ' H') ?_ (fun _ s'' hq => wpAny_pure (wpAny_pure hq)) fun _ _ z => z
 refine wpAny_comprehension_free (use := some (assign (.Name xn npos) X.env)) rfl hs hclos hkind hnames (thn (hi pins s σ H _ I h) fun v s1 h1 => thn h1 fun itv s2 h2 => ?_)
 obtain ⟨it, fp, tn, J, H2, e, I2, T, st2, f2, W, ⟨m0, w0⟩, turn⟩ := h2
 subst e
 refine wpAny_newObj_type (wpAny_newFunctionEnv hcell (by intro y hy; simp at hy) (fun h4 hns4 hsb4 => ?_) hkind)
 dsimp only at hns4 hsb4 ⊢
 generalize hH3 : s2.heap.push { cls := .type "list", dict := none, data := .seq ([] : List Value).toArray } = h3 at hns4 hsb4 ⊢
 have hD : h3.get? s2.heap.objs.size = some { cls := .type "list", data := .seq ([] : List Value).toArray } := by rw [<- hH3]; exact Heap.get?_push_size _ rfl
 have up3 : ∀ b o, s2.heap.get? b = some o -> h3.get? b = some o := fun b o q => by rw [<- hH3]; exact Heap.get?_push_of_some _ q
 have sz3 : h3.objs.size = s2.heap.objs.size + 1 := by rw [<- hH3, Heap.size_push]
 have I3 : Inv X pins σ H2 { s2 with heap := h3 } := I2.kept (t' := s2.toks) up3
 have hDC : s2.heap.objs.size ≠ h3.objs.size := by rw [sz3]; exact Nat.ne_of_lt (Nat.lt_succ_self _)
 have up4 : ∀ b o, h3.get? b = some o -> h4.get? b = some o := fun b o q => hsb4.extBut b o (Nat.ne_of_lt (Heap.lt_size q)) (Heap.get?_push_of_some _ q)
 have hfpx : ∀ b ∈ s2.heap.objs.size :: fp, b < h3.objs.size /\ b ∉ frs X.stack /\ (∀ x c, X.env.cells.lookup x = some c -> c ≠ b) /\ X.base.get? b = none := fun b hb => by
  rcases List.mem_cons.mp hb with rfl | hb
  . refine ⟨by rw [sz3]; exact Nat.lt_succ_self _, fun z => ?_, fun x c q z => ?_, ?_⟩
    . rcases List.mem_cons.mp (I2.Tg _ z) with y | y
      . exact absurd (Nat.lt_of_lt_of_eq I2.lt y) (Nat.lt_irrefl _)
      . exact I2.nofs (Nat.le_refl _) y
    . obtain ⟨v, r⟩ := I2.cell x c q
      exact absurd (Nat.lt_of_lt_of_eq r.lt z.symm) (Nat.lt_irrefl _)
    . cases q : X.base.get? s2.heap.objs.size with
      | none => rfl
      | some o => exact absurd (Heap.lt_size (I2.bk _ o q)) (Nat.lt_irrefl _)
  . obtain ⟨f0, f1, f3, f4, f5, f6⟩ := f2 b hb
    obtain ⟨o, ho, _⟩ := T.obj _ _ st2 b hb
    refine ⟨Nat.lt_trans (Heap.lt_size ho) (by rw [sz3]; exact Nat.lt_succ_self _), fun z => ?_, f5, ?_⟩
    . rcases List.mem_cons.mp (I2.Tg _ z) with y | y
      . exact f1 y
      . exact f3 y
    . cases q : X.base.get? b with
      | none => rfl
      | some o' =>
       rcases f4 with z | z
       . exact absurd z (I2.ok.noex b o' q)
       . exact absurd (Nat.lt_of_lt_of_le (Heap.lt_size (I2.ok.bs b o' q).1) z) (Nat.lt_irrefl _)
 have hclL : ∀ x c, cl.lookup x = some c -> X.env.cells.lookup x = some c := fun x c q => hcl (x, c) (PySem.mem_of_lookup q)
 have ok : (cxIn X scope cl h3.objs.size (cN ++ tN) { s2 with heap := h3 } H2 (s2.heap.objs.size :: fp)).Ok := Rp I3 rfl hkind (fun x y c e1 e2 => I3.ok.inj x y c (hclL x c e1) (hclL y c e2)) (fun x c e => .inl (hclL x c e)) (fun x c e _ => absurd rfl (hcell _ (PySem.mem_of_lookup e))) (hhas _) hfpx
 have hg' := hg h3.objs.size { s2 with heap := h3 } H2 (s2.heap.objs.size :: fp)
 have ht' := ht h3.objs.size { s2 with heap := h3 } H2 (s2.heap.objs.size :: fp)
 have he' := he h3.objs.size { s2 with heap := h3 } H2 (s2.heap.objs.size :: fp)
 generalize hY : cxIn X scope cl h3.objs.size (cN ++ tN) { s2 with heap := h3 } H2 (s2.heap.objs.size :: fp) = Y at ok hg' ht' he'
 have yP : Y.prog = X.prog := by rw [<- hY]; rfl
 have yw : Y.w = X.w := by rw [<- hY]; rfl
 have yK : Y.K = X.K := by rw [<- hY]; rfl
 have yA : Y.A = X.A := by rw [<- hY]; rfl
 have yc : Y.calm = true := by rw [<- hY]; exact hc
 have yx : Y.xe = fun _ _ => False := by rw [<- hY]; rfl
 have yl : Y.env.locals = h3.objs.size := by rw [<- hY]; rfl
 have ye : Y.env = compEnvC scope cl h3.objs.size X.env := by rw [<- hY]; rfl
 have yfs : Y.fs = frs X.stack := by rw [<- hY]; rfl
 have yex : Y.ex = s2.heap.objs.size :: fp := by rw [<- hY]; rfl
 have ycl : Y.env.cells = cl := by rw [<- hY]; rfl
 have ys0 : Y.s₀ = { s2 with heap := h3 } := by rw [<- hY]; rfl
 have yH0 : Y.H₀ = H2 := by rw [<- hY]; rfl
 have ypn : Y.pn = [] := by rw [<- hY]; rfl
 have yN : Y.N = cN ++ tN := by rw [<- hY]; rfl
 have hH2D : H2 s2.heap.objs.size = none := I2.hok.fresh (Nat.le_refl _)
 have pinD : ∀ {H' : Hp} {h : Heap} {ys : List Value} {n : Nat}, h.get? s2.heap.objs.size = some { cls := .type "list", data := .seq ys.toArray n } -> H' s2.heap.objs.size = none ->
  ∀ p ∈ ([(s2.heap.objs.size, ({ cls := .type "list", data := .seq ys.toArray n } : Obj))] : List (Addr × Obj)), h.get? p.1 = some p.2 /\ H' p.1 = none /\ p.1 ≠ Y.env.locals /\ p.1 ∉ Y.fs /\ ∀ v, p.2.data ≠ .cell v := fun {H' h ys n} q1 q2 p hp => by
  rw [List.mem_singleton.mp hp]
  exact ⟨q1, q2, by rw [yl]; exact hDC, by rw [yfs]; exact (hfpx _ List.mem_cons_self).2.1, fun v z => nomatch z⟩
 have I4 : Inv Y [] (cap σ js tN.length) H2 { s2 with heap := h4, toks := s2.toks + ([] : List (Str × Value)).length } := by
  refine ⟨ok, by rw [ys0], I2.bare, ?_, ⟨_, by rw [yl]; exact hns4, fun i x v e1 e2 e3 => ?_⟩, fun x c q => ?_, ?_, fun x c q => ?_, fun p hp => ?_, ?_, ?_⟩
  . rw [ys0, yH0]; exact Un.kept up4
  . rw [yN] at e1
    obtain ⟨j, hj, hv⟩ := Zp e2
    have hi' : i < cN.length := by
     rw [(hcap h3.objs.size).len]
     exact (List.getElem?_eq_some_iff.mp hj).1
    rw [List.getElem?_append_left hi'] at e1
    obtain ⟨j', hj', n1, n2, n3, n4, n5⟩ := (hcap h3.objs.size).get e1
    rw [hj] at hj'; cases hj'
    obtain ⟨m, hn, hl⟩ := I2.loc
    obtain ⟨u, ru, lk⟩ := hl j x v n1 hv n2
    refine ⟨u, ru, ?_⟩
    rcases lk with ⟨k1, _⟩ | ⟨k1, c, k2, k3⟩
    . exact absurd k1 n3
    . refine .inr ⟨by rw [ye]; exact n4, c, by rw [ye, n5]; exact k2, ?_⟩
      obtain ⟨o, ho, hd⟩ := k3
      exact ⟨o, up4 _ _ (up3 _ _ ho), hd⟩
  . rw [ycl] at q
    obtain ⟨v, o, ho, hd⟩ := I2.cell x c (hclL x c q)
    exact ⟨v, o, up4 _ _ (up3 _ _ ho), hd⟩
  . rw [yl]; exact I3.hok.fresh (Nat.le_refl _)
  . rw [ycl] at q
    exact I2.freeC x c (hclL x c q)
  . rw [ypn] at hp
    exact absurd hp (by simp)
  . rw [yP, yw]
    exact I3.hok.kept up4
  . rw [Yp, yN, List.length_append, (hcap h3.objs.size).len]
 have fpY : ∀ {H' : Hp} {ps : List (Addr × Obj)}, (∀ b ∈ fp, H' b = none) -> (∀ p ∈ ps, p.1 = s2.heap.objs.size) -> ∀ b ∈ fp, FpOk Y ps H' b := fun {H' ps} hn hps b hb => by
  obtain ⟨a1, a2, a3, a4⟩ := hfpx b (List.mem_cons_of_mem _ hb)
  obtain ⟨o, ho, _⟩ := T.obj _ _ st2 b hb
  refine ⟨hn b hb, by rw [yl]; exact Nat.ne_of_lt a1, by rw [yfs]; exact a2, .inl (by rw [yex]; exact List.mem_cons_of_mem _ hb), fun x c q => by rw [ycl] at q; exact a3 x c (hclL x c q), fun p hp => ?_⟩
  rw [ypn] at hp
  rw [hps p hp]
  exact (Nat.ne_of_lt (Heap.lt_size ho)).symm
 have st4 : tn 0 h4 := T.keep _ _ _ st2 fun b hb o q => up4 _ _ (up3 _ _ q)
 have loop : codeAny (model X.prog X.w) X.A (.compLoop (.ListComp elt [⟨tg, iter, ifs, 0⟩] scope pos) 0 (.ref it) (.ref s2.heap.objs.size) (compEnvC scope cl h3.objs.size X.env))
  (compPost (model X.prog X.w) X.A X.xe (some (assign (.Name xn npos) X.env)) (fun _ s'' => ∃ σ' H', Inv X pins σ' H' s'' /\ DD.nx σ' H') (.ref s2.heap.objs.size) h3.objs.size) { s2 with heap := h4, toks := s2.toks + ([] : List (Str × Value)).length } := by
  refine Ib (fun n s' => ∃ (i : Nat) (σ' : St) (H' : Hp) (ys : List V) (us : List Value) (k : Nat), Inv Y [] σ' H' s' /\ tn i s'.heap /\ (∀ b ∈ fp, H' b = none) /\ H' s2.heap.objs.size = none /\ Vals ys us /\
   s'.heap.get? s2.heap.objs.size = some { cls := .type "list", data := .seq us.toArray k } /\ W i n ys σ' H') ?_ m0
   ⟨0, _, H2, [], [], 0, I4, st4, fun b hb => (f2 b hb).1, hH2D, .nil, up4 _ _ hD, w0⟩
  rintro n s5 ⟨i, σ5, H5, ys, us, k, I5, st5, fr5, hD5, rv5, ho5, w5⟩
  obtain ⟨hsz, step⟩ := turn i n ys σ5 H5 w5
  have I5p := I5.uc (pins' := [(s2.heap.objs.size, ({ cls := .type "list", data := .seq us.toArray k } : Obj))]) (pinD ho5 hD5)
  have onlyD : ∀ p ∈ ([(s2.heap.objs.size, ({ cls := .type "list", data := .seq us.toArray k } : Obj))] : List (Addr × Obj)), p.1 = s2.heap.objs.size := fun p hp => by rw [List.mem_singleton.mp hp]
  rcases step with ⟨stop, fin⟩ | ⟨go, N, hN, step⟩
  ·
   have dn := T.done Y yP yw yK yc i _ s5 σ5 H5 (notedBy (model X.prog X.w) X.A (compEnvC scope cl h3.objs.size X.env) fun e s' => compPost (model X.prog X.w) X.A X.xe (some (assign (.Name xn npos) X.env)) (fun _ s'' => ∃ σ' H', Inv X pins σ' H' s'' /\ DD.nx σ' H') (.ref s2.heap.objs.size) h3.objs.size (.error e) s') I5p (fpY fr5 onlyD) st5 stop
   rw [yA] at dn
   refine thn dn fun r s6 ⟨hr, I6⟩ => ?_
   subst hr
   obtain ⟨m6, hn6, _⟩ := I6.loc
   rw [yl] at hn6
   obtain ⟨h7, hh7⟩ : ∃ h7, h7 = s6.heap := ⟨_, rfl⟩
   have hs7 : Heap.SameBut h3.objs.size s6.heap h7 := by rw [hh7]; exact ⟨rfl, fun _ _ => rfl⟩
   have u6 : Un (frs X.stack) (s2.heap.objs.size :: fp) H2 H5 h3 s6.heap := by
    have := I6.base
    rw [yfs, yex, yH0, ys0] at this
    exact this
   have D6 := (I6.pin _ (List.mem_append_right _ (List.mem_singleton.mpr rfl))).1
   have C6 : H5 h3.objs.size = none := by have := I6.free; rw [yl] at this; exact this
   have k7 : ∀ b o, b ≠ h3.objs.size -> s6.heap.get? b = some o -> h7.get? b = some o := fun b o hb q => hs7.extBut b o hb q
   have neC : ∀ b o, s2.heap.get? b = some o -> b ≠ h3.objs.size := fun b o q => Nat.ne_of_lt (Heap.lt_size (up3 b o q))
   have neD : ∀ b o, s2.heap.get? b = some o -> b ≠ s2.heap.objs.size := fun b o q => Nat.ne_of_lt (Heap.lt_size q)
   have exn : ∀ b o, s2.heap.get? b = some o -> b ∉ fp -> b ∉ s2.heap.objs.size :: fp := fun b o q hb z => by
    rcases List.mem_cons.mp z with z | z
    . exact neD b o q z
    . exact hb z
   have un7 : Un (frs X.stack) fp H2 (upd H5 s2.heap.objs.size (.lst ys)) s2.heap h7 := by
    refine ⟨fun b o q nb hb hx => k7 b o (neC b o q) (u6.keep b o (up3 _ _ q) nb hb (exn b o q hx)), fun b o q nb hb hx => ?_, fun b o q nb hx => ?_, fun b o q hx => ?_, fun b xs q => ?_, fun b o xs q => ?_, fun b ps q => ?_⟩
    . obtain ⟨sl, z⟩ := u6.slot b o (up3 _ _ q) nb hb (exn b o q hx)
      exact ⟨sl, k7 b _ (neC b o q) z⟩
    . rw [Aa (neD b o q)]
      exact u6.free b o (up3 _ _ q) nb (exn b o q hx)
    . obtain ⟨o', z⟩ := u6.there b o (up3 _ _ q) (exn b o q hx)
      exact ⟨o', k7 b o' (neC b o q) z⟩
    . have z := u6.tups b xs q
      rw [Aa (da z hD5)]; exact z
    . have z := u6.frzs b o xs q
      rw [Aa (da z hD5)]; exact z
    . obtain ⟨more, z⟩ := u6.tbls b ps q
      exact ⟨more, by rw [Aa (da z hD5)]; exact z⟩
   have hok7 : HOk X.prog X.w (upd H5 s2.heap.objs.size (.lst ys)) h7 := by
    have z := I6.hok
    rw [yP, yw] at z
    refine (z.other C6 k7).Yl hD5 ?_
    exact ⟨Nat.le_of_lt hsz, us, k, rv5, k7 _ _ hDC D6⟩
   obtain ⟨hh6, gg6, dd6, tt6, os6⟩ := s6
   have eos : os6 = s2.os := by have := I6.os; rw [ys0] at this; exact this
   subst eos
   have I7 : Inv X pins σ (upd H5 s2.heap.objs.size (.lst ys)) { s2 with heap := h7, gens := gg6, drawn := dd6, toks := tt6 } :=
    I2.call un7 hok7 I6.bare fun b hb => ⟨(f2 b hb).2.2.2.1, (f2 b hb).2.1, (f2 b hb).2.2.2.2.1, (f2 b hb).2.2.2.2.2⟩
   subst hh7
   obtain ⟨oC, esC, epC, hoC, rC⟩ := id hn6
   have nL : h3.objs.size ≠ X.env.locals := (Nat.ne_of_lt I3.lt).symm
   have nF : h3.objs.size ∉ X.fs := I3.nofs (Nat.le_refl _)
   have dC : ∀ v, oC.data ≠ .cell v := fun v z => by first | (obtain ⟨_, r2, _⟩ := rC; rw [r2] at z; cases z) | (obtain ⟨r2, _⟩ := rC; rw [r2] at z; cases z) | (obtain ⟨_, _, r2, _⟩ := rC; rw [r2] at z; cases z) | (obtain ⟨_, _, r2⟩ := rC; rw [r2] at z; cases z)
   have HC : upd H5 s2.heap.objs.size (.lst ys) h3.objs.size = none := by rw [Aa hDC.symm]; exact C6
   have I8 := I7.uc (pins' := (h3.objs.size, oC) :: pins) fun p hp => by
    rcases List.mem_cons.mp hp with hp | hp
    . rw [hp]; exact ⟨hoC, HC, nL, nF, dC⟩
    . exact I7.pin p (List.mem_append_right _ hp)
   refine thn (hgN _ _ σ _ (.ref s2.heap.objs.size) (.ref s2.heap.objs.size) DD.nx I8 rfl (fin _ hD5)) fun _ s9 ⟨σ9, H9, I9, q9⟩ => ?_
   obtain ⟨p1, p2, _⟩ := I9.pin (h3.objs.size, oC) (List.mem_append_right _ List.mem_cons_self)
   refine ⟨m6, ⟨oC, esC, epC, p1, rC⟩, fun h' hs' => ⟨σ9, H9, ?_, q9⟩⟩
   have I10 : Inv X pins σ9 H9 s9 := I9.uc fun p hp => I9.pin p (List.mem_append_right _ (List.mem_cons_of_mem _ hp))
   refine I10.turned (t' := s9.toks) (it := h3.objs.size) (fun b o hb q => hs'.extBut b o hb q) p2 nL (.inr (Nat.le_trans I3.sz (Nat.le_refl _))) (fun x c q z => ?_) (fun p hp z => ?_)
   . obtain ⟨v, r⟩ := I3.cell x c q
     exact absurd (Nat.lt_of_lt_of_eq r.lt z.symm) (Nat.lt_irrefl _)
   . have := Heap.lt_size (I3.pin p hp).1
     rw [z] at this
     exact absurd this (Nat.lt_irrefl _)
  ·
   have im := T.item Y yP yw yK yc i _ s5 σ5 H5 (notedBy (model X.prog X.w) X.A (compEnvC scope cl h3.objs.size X.env) fun e s' => compPost (model X.prog X.w) X.A X.xe (some (assign (.Name xn npos) X.env)) (fun _ s'' => ∃ σ' H', Inv X pins σ' H' s'' /\ DD.nx σ' H') (.ref s2.heap.objs.size) h3.objs.size (.error e) s') I5p (fpY fr5 onlyD) st5 go
   rw [yA] at im
   refine thn im fun r s6 ⟨u, hr, h6⟩ => ?_
   subst hr
   refine thn h6 fun _ s7 ⟨x, H7, I7, r7, y7, st7, fr7⟩ => ?_
   have I7' := I7.pinned (fpY fr7 onlyD) (T.obj _ _ st7)
   have tog := hg' _ s7 σ5 H7 x u _ I7' r7 (step x H7 y7)
   rw [yP, yw, yA, yx, ye] at tog
   refine wpAny_mono tog (fun _ s8 ⟨σ8, H8, I8, q8⟩ => ?_) fun _ _ z => z.elim
   have tot := ht' _ s8 σ8 H8 _ I8 q8
   rw [yP, yw, yA, yx, ye] at tot
   refine wpAny_mono tot (fun okb s9 ⟨H9, I9, q9⟩ => ?_) fun _ _ z => z.elim
   have back : ∀ {H' : Hp} {s' : Shared}, Inv Y ([(s2.heap.objs.size, ({ cls := .type "list", data := .seq us.toArray k } : Obj))] ++ fh fp s7.heap) σ8 H' s' -> tn (i + 1) s'.heap /\ (∀ b ∈ fp, H' b = none) /\ H' s2.heap.objs.size = none /\ s'.heap.get? s2.heap.objs.size = some { cls := .type "list", data := .seq us.toArray k } := fun {H' s'} I' => by
    refine ⟨T.keep _ _ _ st7 fun b hb o e => (I'.pin (b, o) (List.mem_append_right _ (List.mem_append_right _ (Qb hb e)))).1, fun b hb => ?_, ?_, ?_⟩
    . obtain ⟨o, e, d⟩ := T.obj _ _ st7 b hb
      exact (I'.pin (b, o) (List.mem_append_right _ (List.mem_append_right _ (Qb hb e)))).2.1
    . exact (I'.pin _ (List.mem_append_right _ (List.mem_append_left _ (List.mem_singleton.mpr rfl)))).2.1
    . exact (I'.pin _ (List.mem_append_right _ (List.mem_append_left _ (List.mem_singleton.mpr rfl)))).1
   cases okb with
   | false =>
    rw [if_neg Bool.false_ne_true] at q9 ⊢
    obtain ⟨m', hm', w9⟩ := hN _ _ _ q9
    obtain ⟨b1, b2, b3, b4⟩ := back I9
    exact ⟨m', hm', i + 1, σ8, H9, ys, us, k, I9.uc (fun p hp => absurd hp (by simp)), b1, b2, b3, rv5, b4, w9⟩
   | true =>
    rw [if_pos rfl] at q9 ⊢
    have toe := he' _ s9 σ8 H9 _ I9 q9
    rw [yP, yw, yA, yx, ye] at toe
    refine wpAny_mono toe (fun yv s10 ⟨yy, H10, I10, r10, q10⟩ => ?_) fun _ _ z => z.elim
    obtain ⟨m', hm', w10⟩ := hN _ _ _ q10
    obtain ⟨b1, b2, b3, b4⟩ := back I10
    have hus : us.length = ys.length := rv5.length.symm
    refine append_at b4 (fun h11 hs11 ho11 => ?_) (by rw [List.size_toArray, hus]; exact Nat.le_of_lt hsz)
    have I10' : Inv Y [] σ8 H10 s10 := I10.uc (fun p hp => absurd hp (by simp))
    have I11 : Inv Y [] σ8 H10 { s10 with heap := h11 } := I10'.turned (t' := s10.toks) (it := s2.heap.objs.size) (fun b o hb q => hs11.extBut b o hb q) b3 (by rw [yl]; exact hDC) (.inl (by rw [yex]; exact List.mem_cons_self))
     (fun x c q => by rw [ycl] at q; exact (hfpx _ List.mem_cons_self).2.2.1 x c (hclL x c q)) (fun p hp => by rw [ypn] at hp; exact absurd hp (by simp))
    refine ⟨m', hm', i + 1, σ8, H10, ys ++ [yy], us ++ [yv], k + 1, I11, T.keep _ _ _ b1 fun b hb o q => hs11.extBut b o (fun z => ?_) q, b2, b3, Vals.append rv5 (.cons r10 .nil), ?_, w10⟩
    . have z' : b = s2.heap.objs.size := z
      obtain ⟨o', ho', _⟩ := T.obj _ _ st2 b hb
      exact absurd (z' ▸ Heap.lt_size ho') (Nat.lt_irrefl _)
    . rw [ho11, List.push_toArray]
 exact codeAny_compStart_list loop (T.self _ 0 _ _ _ st4 loop)
theorem ps_lcU {X : Cx} {xn : Str} {ix : Nat} {npos spos : Pos} {elt tg iter : Expr} {ifs : List Expr} {scope : Scope} {pos : Pos} {cl : List (Str × Addr)} {wi : TI} {g : TG} {tt : TT} {te : TE} (cN tN : List Str) (js : List Nat)
 (hgN : PG X (.Name xn npos) (uk ix))
 (hclos : closureFor scope X.env = pure cl) (hc : X.calm = true) (hx0 : X.xe = fun _ _ => False) (hi : PI X tg iter wi)
 (hcell : ∀ y ∈ scope.names, y.2 ≠ .cell) (hkind : scope.kind = .function) (hnames : ∀ y ∈ scope.names, y.2 = .local -> scope.names.lookup y.1 = some .local)
 (hcl : CellsOk X cl) (hall : (scope.names.all fun y => y.2 != .free || (cl.lookup y.1).isSome) = true) (hcap : ∀ C, pf X (compEnvC scope cl C X.env) cN js)
 (hg : ∀ C s₀ H₀ ex, PG (cxIn X scope cl C (cN ++ tN) s₀ H₀ ex) tg g) (ht : ∀ C s₀ H₀ ex, PTs (cxIn X scope cl C (cN ++ tN) s₀ H₀ ex) ifs tt) (he : ∀ C s₀ H₀ ex, PE (cxIn X scope cl C (cN ++ tN) s₀ H₀ ex) elt te)
 (hsw : swapsWith (.ListComp elt [⟨tg, iter, ifs, 0⟩] scope pos) (some (.Name xn npos)) spos.line X.env = pure true := by first | rfl | with_unfolding_all rfl)
 (hs : ∀ x, foldedSetIterable iter X.env x = pure x := by intro _; first | rfl | with_unfolding_all rfl) :
 PS X (.Assign [.Name xn npos] (.ListComp elt [⟨tg, iter, ifs, 0⟩] scope pos) spos) (tAsg (Oi js tN.length wi g tt te) (uk ix)) :=
 Io hc hx0 hi hclos hcell hkind hnames hcl.all (Gp hcell hall) hcap hg ht he hgN hsw hs
end L2
namespace L2
open PySem PySem.Spec PyProof.Rows
def GTup (K : PySem.W.Frag) (a : Addr) (xs : List V) : Prop := ∃ (o : Obj) (its : Array Value) (n : Nat), K.lookup a = some o /\ o.cls = .type "tuple" /\ o.data = .seq its n /\ its.size <= sizeLine /\ Vals xs its.toList
theorem GTup.sq {K : PySem.W.Frag} {a : Addr} {xs : List V} {H : Hp} (h : GTup K a xs) : SqT K H a xs := .inr h
def tG (K : PySem.W.Frag) (xs : List V) : TE := fun _ H Q => ∀ a, GTup K a xs -> Q (.ref a) H
theorem uf {X : Cx} {K : PySem.W.Frag} {x : Str} {xs : List V} {pos : Pos} (hg : Gl X x) (hm : ∃ a, X.mg x = some (.ref a) /\ GTup K a xs) (hd : (x == ("__debug__" : Str)) = false := by decide) : PE X (.Name x pos) (tG K xs) := by
 obtain ⟨a, hm, g⟩ := hm
 intro pins s σ H Q I h
 exact Oo (v := .ref a) hg hm rfl hd pins s σ H Q I (h a g)
theorem Dl {K : PySem.W.Frag} {H : Hp} {Q : VK} {v : V} {p : Addr} {xs : List V} {k : Int} (h1 : SqT K H p xs) (h2 : atI xs k = some v) (h : Q v H) : rIx2 K (.ref p) (.int k) H Q := .inr ⟨p, xs, k, v, rfl, rfl, h1, h2, h⟩
end L2
namespace L2
open PySem PySem.Spec PyProof.Rows
def Tame {α : Type} : Sem α -> Prop
 | .rule _ k => Tame (k ())
 | .at _ k => Tame (k ())
 | .load _ _ k => ∀ o, Tame (k o)
 | .update _ _ f k => (∀ o, (f o).dict = o.dict /\ (f o).isFreed = o.isFreed) /\ Tame (k ())
 | .alloc _ k => ∀ a, Tame (k a)
 | .loadIfAlive _ k => ∀ o, Tame (k o)
 | .point _ k => Tame (k ())
 | .fresh k => ∀ t, Tame (k t)
 | .ask k => ∀ x, Tame (k x)
 | .stack k => ∀ l, Tame (k l)
 | .handled _ k => ∀ x, Tame (k x)
 | .thread k => ∀ x, Tame (k x)
 | .choose _ _ _ => False
 | .os _ _ _ => False
 | .call _ _ _ _ _ => False
 | .genState _ _ => False
 | .newGen _ _ => False
 | .resume _ _ _ _ => False
 | _ => True
def Kd (h h' : Heap) : Prop := ∀ b o, h.get? b = some o -> ∃ o', h'.get? b = some o' /\ o'.dict = o.dict
theorem Kd.refl (h : Heap) : Kd h h := fun _ o e => ⟨o, e, rfl⟩
theorem Kd.trans {h1 h2 h3 : Heap} (a : Kd h1 h2) (b : Kd h2 h3) : Kd h1 h3 := fun x o e => by
 obtain ⟨o1, e1, d1⟩ := a x o e
 obtain ⟨o2, e2, d2⟩ := b x o1 e1
 exact ⟨o2, e2, d2.trans d1⟩
theorem Kd.keeps {h h' : Heap} (k : ∀ b o, h.get? b = some o -> h'.get? b = some o) : Kd h h' := fun b o e => ⟨o, k b o e, rfl⟩
theorem Xt {α : Type} {M : Model} {Γ : PySem.Ctx} {Q : α -> Pos -> Shared -> Prop} {E : Value -> Pos -> Shared -> Prop} {h0 : Heap} : ∀ (t : Sem α) (p : Pos) (s : Shared), Tame t -> Kd h0 s.heap -> Sem.wp M Γ t Q E p s ->
 Sem.wp M Γ t (fun a p' s' => Q a p' s' /\ Kd h0 s'.heap) (fun e p' s' => E e p' s' /\ Kd h0 s'.heap) p s := by
 intro t
 induction t with
 | pure a => intro p s T k h; rw [Sem.wp] at h ⊢; exact ⟨h, k⟩
 | raise e => intro p s T k h; rw [Sem.wp] at h ⊢; exact ⟨h, k⟩
 | unsupported => intro p s T k h; rw [Sem.wp] at h; exact h.elim
 | finish => intro p s T k h; rw [Sem.wp] at h; exact h.elim
 | rule _ _ ih => intro p s T k h; rw [Sem.wp] at h ⊢; exact ih _ _ _ (by simpa only [Tame] using T) k h
 | «at» _ _ ih => intro p s T k h; rw [Sem.wp] at h ⊢; exact ih _ _ _ (by simpa only [Tame] using T) k h
 | load a _ _ ih =>
  intro p s T k h
  rw [Sem.wp] at h ⊢
  obtain ⟨o, ho, h⟩ := h
  simp only [Tame] at T
  exact ⟨o, ho, ih _ _ _ (T o) k h⟩
 | update a _ f _ ih =>
  intro p s T k h
  rw [Sem.wp] at h ⊢
  simp only [Tame] at T
  refine ⟨h.1, ih _ _ _ T.2 (k.trans fun b o e => ?_) h.2⟩
  by_cases hb : b = a
  . subst hb
    have hf := (Heap.get?_some_iff.mp e).2
    exact ⟨f o, Heap.get?_update_self f e ((T.1 o).2.trans hf), (T.1 o).1⟩
  . exact ⟨o, (Heap.get?_update_other _ _ (Ne.symm hb)).trans e, rfl⟩
 | alloc o _ ih =>
  intro p s T k h
  rw [Sem.wp] at h ⊢
  simp only [Tame] at T
  exact ih _ _ _ (T _) (k.trans (.keeps fun b o' e => Heap.get?_push_of_some _ e)) h
 | loadIfAlive a _ ih => intro p s T k h; rw [Sem.wp] at h ⊢; simp only [Tame] at T; exact ih _ _ _ (T _) k h
 | point _ _ ih => intro p s T k h; rw [Sem.wp] at h ⊢; exact ih _ _ _ (by simpa only [Tame] using T) k h
 | register => intro p s T k h; rw [Sem.wp] at h; exact h.elim
 | fresh _ ih => intro p s T k h; rw [Sem.wp] at h ⊢; simp only [Tame] at T; exact ih _ _ _ (T _) k h
 | ask _ ih => intro p s T k h; rw [Sem.wp] at h ⊢; simp only [Tame] at T; exact ih _ _ _ (T _) k h
 | choose => intro p s T; exact (by simpa only [Tame] using T : False).elim
 | os => intro p s T; exact (by simpa only [Tame] using T : False).elim
 | call => intro p s T; exact (by simpa only [Tame] using T : False).elim
 | handled _ _ ih => intro p s T k h; rw [Sem.wp] at h ⊢; simp only [Tame] at T; exact ih _ _ _ (T _) k h
 | newGen => intro p s T; exact (by simpa only [Tame] using T : False).elim
 | genState => intro p s T; exact (by simpa only [Tame] using T : False).elim
 | resume => intro p s T; exact (by simpa only [Tame] using T : False).elim
 | «yield» => intro p s T k h; rw [Sem.wp] at h; exact h.elim
 | stack _ ih => intro p s T k h; rw [Sem.wp] at h ⊢; simp only [Tame] at T; exact ih _ _ _ (T _) k h
 | fork => intro p s T k h; rw [Sem.wp] at h; exact h.elim
 | thread _ ih => intro p s T k h; rw [Sem.wp] at h ⊢; simp only [Tame] at T; exact ih _ _ _ (T _) k h
 | await => intro p s T k h; rw [Sem.wp] at h; exact h.elim
theorem xq {α : Type} {M : Model} {A : Around} {t : Sem α} {Q : α -> Shared -> Prop} {E : Value -> Shared -> Prop} {s : Shared} (T : Tame t) (h : wpAny M A t Q E s) : wpAny M A t (fun a s' => Q a s' /\ Kd s.heap s'.heap) (fun e s' => E e s' /\ Kd s.heap s'.heap) s :=
 fun Γ p hΓ => Xt t p s T (.refl _) (h Γ p hΓ)
theorem Tame.bind {α β : Type} : ∀ {m : Sem α} {f : α -> Sem β}, Tame m -> (∀ a, Tame (f a)) -> Tame (m >>= f) := by
 intro m f
 show Tame m -> _ -> Tame (m.bind f)
 induction m <;> intro T F <;> simp only [Sem.bind, Tame] at T ⊢ <;> first | exact F _ | trivial | exact T.elim | (rename_i ih; exact ih _ T F) | (rename_i ih; exact fun x => ih x (T x) F) | (rename_i ih; exact ⟨T.1, ih _ T.2 F⟩)
theorem Ra {α : Type} {a : α} : Tame (pure a : Sem α) := by show Tame (Sem.pure a); simp only [Tame]
theorem gc {α : Type} {w : String} : Tame (unsupported w : Sem α) := by show Tame (Sem.unsupported w); simp only [Tame]
theorem Ff {a : Addr} : Tame (load a) := by show Tame (Sem.load a none .pure); simp only [Tame]; exact fun _ => trivial
theorem Qk {a : Addr} {f : Obj -> Obj} (h : ∀ o, (f o).dict = o.dict /\ (f o).isFreed = o.isFreed) : Tame (update a f) := by show Tame (Sem.update a none f .pure); simp only [Tame]; exact ⟨h, trivial⟩
theorem dm {o : Obj} : Tame (alloc o) := by show Tame (Sem.alloc o .pure); simp only [Tame]; exact fun _ => trivial
theorem Ee : Tame stack := by show Tame (Sem.stack .pure); simp only [Tame]; exact fun _ => trivial
theorem Jb {α : Type} {c : Prop} [Decidable c] {x y : Sem α} (h1 : Tame x) (h2 : Tame y) : Tame (if c then x else y) := by split <;> assumption
theorem lj (g : Array Value -> Array Value) (o : Obj) : (Obj.mapFields g o).dict = o.dict /\ (Obj.mapFields g o).isFreed = o.isFreed := by
 obtain ⟨c, d, dt, sl⟩ := o
 cases dt <;> exact ⟨rfl, rfl⟩
theorem Dd {v : Value} {i : Nat} : Tame (field v i) := by
 unfold field
 refine .bind ?_ fun vs => ?_
 . unfold fieldsOf
   split
   . refine .bind Ff fun o => ?_
     split
     . exact Ra
     . exact gc
   . exact gc
 . split
   . exact Ra
   . exact gc
theorem Fc {v x : Value} {i : Nat} : Tame (setField v i x) := by
 unfold setField
 split
 . unfold updateField
   refine .bind Ff fun o => ?_
   split
   . exact Jb (Qk (lj _)) gc
   . exact gc
 . exact gc
theorem ec {e : Value} {f : Option Addr} : Tame (setFlight e f) := by
 unfold setFlight
 exact .bind Dd fun _ => Jb Fc Ra
theorem Sg : ∀ l : List Env, Tame (readyFrames l)
 | [] => by unfold readyFrames; exact Ra
 | env :: outer => by
  unfold readyFrames
  split
  . refine .bind Ff fun o => ?_
    refine Jb Ra ?_
    refine .bind ?_ fun im => .bind ?_ fun bk => .bind (Qk fun o => ⟨rfl, ?_⟩) fun _ => Sg outer
    . unfold behindIsImport
      exact Jb Ra (Jb Ra (.bind Dd fun _ => Ra))
    . unfold keptBack
      split
      . refine Jb Ra ?_
        unfold underTheClaimsCaller
        exact .bind (.bind Ee fun _ => Ra) fun _ => Ra
      . exact Ra
    . obtain ⟨c, d, dt, sl⟩ := o
      cases dt <;> rfl
  . exact gc
theorem Ni {env : Env} : Tame (PySem.frameOf env) := by
 unfold PySem.frameOf
 refine .bind (.bind Ee fun _ => Ra) fun l => .bind ?_ fun r => ?_
 . unfold frameObject
   split
   . exact Ra
   . exact .bind (Sg _) fun _ => Ra
 . split
   . exact Ra
   . exact gc
theorem Zl {f : Addr} {b : Bool} : Tame (entryPlaceOf f b) := by
 unfold entryPlaceOf
 refine .bind Ee fun l => ?_
 split <;> exact Ra
theorem cm {a b c d e : Value} {l : List Value} : Tame (EntryCells.newEntry a b c d e l) := by
 unfold EntryCells.newEntry newFields newObj newObjAsIs
 dsimp only
 have k : ∀ o : Obj, Tame (do let a <- alloc o; pure (Value.ref a)) := fun o => .bind dm fun _ => Ra
 exact Jb (.bind gc fun _ => k _) (k _)
theorem Mi {e : Value} {env : Env} : Tame (noteFrame e env) := by
 unfold noteFrame
 split
 . refine .bind Dd fun hd => ?_
   have last : ∀ f, Tame (do let fr <- PySem.frameOf env; let pl <- entryPlaceOf f (hd != .none); let x <- EntryCells.newEntry hd fr .none (rawInt f) .none pl; setField e 1 x) := fun f =>
    .bind Ni fun _ => .bind Zl fun _ => .bind cm fun _ => Fc
   refine Jb (.bind Dd fun _ => Jb Ra (.bind Fc fun _ => last _)) (last _)
 . exact gc
theorem af {env : Env} {e : Value} : Tame (leaving env e) := by
 unfold leaving
 exact .bind Mi fun _ => ec
end L2
namespace L2
open PySem PySem.Spec PyProof.Rows
@[reducible] def rc : Value -> Value
 | .int c _ => .ref c.toNat
 | v => v
@[reducible] def dk : Value -> Option Addr
 | .int _ t => some t
 | _ => none
def Dk (cls : Value) (ea : Addr) (h : Heap) : Prop := ∀ dx, dk cls = some dx -> ∃ o, h.get? ea = some o /\ o.dict = some dx
theorem Dk.kd {cls : Value} {ea : Addr} {h h' : Heap} (x : Dk cls ea h) (k : Kd h h') : Dk cls ea h' := fun dx e => by
 obtain ⟨o, h1, h2⟩ := x dx e
 obtain ⟨o', h3, h4⟩ := k ea o h1
 exact ⟨o', h3, h4.trans h2⟩
theorem Gf {M : Model} {A : Around} {E : Value -> Shared -> Prop} {s : Shared} {t : Sem Unit} {P : Heap -> Prop} {Q : Unit -> Shared -> Prop} (T : Tame t) (h : ∀ Q' : Unit -> Shared -> Prop, (∀ h', P h' -> Q' () { s with heap := h' }) -> wpAny M A t Q' E s)
 (q : ∀ h', P h' -> Kd s.heap h' -> Q () { s with heap := h' }) : wpAny M A t Q E s :=
 wpAny_mono (xq T (h (fun _ s' => ∃ h', s' = { s with heap := h' } /\ P h') fun h' p => ⟨h', rfl, p⟩)) (fun _ s' z => by
  obtain ⟨⟨h', e, p⟩, k⟩ := z
  subst e
  exact q h' p k) fun _ _ z => z.1
def CXF (P : Program) (w : World) : CXT := fun outer H s E e s' => ∃ (ea : Addr) (cls : Value) (H' : Hp) (B : Heap) (a0 : Value), e = .ref ea /\ s'.os = s.os /\ AllBare s'.gens /\ Un (frs outer) [] H H' s.heap s'.heap /\ HOk P w H' s'.heap /\
 Heap.FlyingW B outer ea (rc cls) a0 s'.heap /\ Dk cls ea s'.heap /\ (∀ b o, s.heap.get? b = some o -> b ∉ frs outer -> ∃ o', B.get? b = some o') /\ (∀ b u, H' b = some u -> ∃ o', B.get? b = some o') /\ H' ea = none /\ E cls (some ea) H'
theorem HOk.in {P : Program} {w : World} {H : Hp} {h : Heap} (x : HOk P w H h) {b : Addr} {u : HO} (e : H b = some u) : ∃ o, h.get? b = some o := by
 have q := x b u e
 cases u with
 | lst xs => obtain ⟨_, _, _, _, z⟩ := q; exact ⟨_, z⟩
 | tup xs => obtain ⟨_, _, _, o, z, _⟩ := q; exact ⟨_, z⟩
 | dK kvs => obtain ⟨_, _, _, _, o, _, _, z, _⟩ := q; exact ⟨_, z⟩
 | dT kvs => obtain ⟨_, _, _, _, o, _, _, z, _⟩ := q; exact ⟨_, z⟩
 | set S n => obtain ⟨o, _, _, _, z, _⟩ := q; exact ⟨_, z⟩
 | ins C dx fs => obtain ⟨_, _, _, z, _⟩ := q; exact ⟨_, z⟩
 | own y => exact q
 | xd fs => obtain ⟨_, ⟨_, _, _, z, _⟩, _⟩ := q; exact ⟨_, z⟩
 | rng lo hi => obtain ⟨_, _, _, z⟩ := q; exact ⟨_, z⟩
 | frz ob u => obtain ⟨z, _⟩ := q; exact ⟨_, z⟩
 | tbl ps => exact ⟨_, (show h.get? b = some _ from q)⟩
 | met f y => exact ⟨_, (show h.get? b = some _ from q)⟩
 | ext φ => obtain ⟨_, z, _⟩ := q; exact z
theorem HOk.tracked {P : Program} {w : World} {H : Hp} {h h' : Heap} (x : HOk P w H h) (k : ∀ b u o, H b = some u -> h.get? b = some o -> h'.get? b = some o) : HOk P w H h' := fun b u e =>
 (x b u e).stay (fun c v hc q => by
  rcases hc with rfl | hc
  . exact k _ _ _ e q
  . exact k _ _ _ hc q) (fun _ q => q) fun _ _ q => q
theorem gv {l : List Env} {env : Env} {a : Addr} (h : env ∈ l) (hf : env.frame = some a) : a ∈ frs l := List.mem_filterMap.mpr ⟨env, h, hf⟩
section
variable {P : Program} {w : World} {K : PySem.W.Frag} {mg : Str -> Option Value} {base : Heap} {N : List Str} {qual : Str} {scope : Scope} {f : Addr} {cd : Value} {A : Around} {outer : List Env} {s : Shared} {H : Hp} {E : XK}
theorem Hm {pins : List (Addr × Obj)} {σ : St} {H1 H2 : Hp} {s1 : Shared} {h' : Heap} {tk : Nat} {e : Addr} {cls a0 : Value} {oe : Obj} {vs : Array Value} (I : Inv (cxOf (CXF P w) P w K mg base N qual scope f cd A outer s H E) pins σ H1 s1)
 (up1 : ∀ b o, s1.heap.get? b = some o -> h'.get? b = some o) (hnew : s1.heap.get? e = none) (he : h'.get? e = some oe) (hcls : oe.cls = rc cls) (hd : oe.data = .fields vs) (h0 : vs[0]? = some a0) (h1 : vs[1]? = some .none) (hdk : ∀ dx, dk cls = some dx -> oe.dict = some dx)
 (hok : HOk P w H2 h') (hH : ∀ b u, H1 b = some u -> H2 b = some u) (hH2 : ∀ b u, H2 b = some u -> H1 b = some u \/ s1.heap.get? b = none) (hHe : H2 e = none) (hE : E cls (some e) H2) :
 (cxOf (CXF P w) P w K mg base N qual scope f cd A outer s H E).xe (.ref e) { s1 with heap := h', toks := tk } := by
 have stk := I.stack
 have fr0 : frs (envOfC qual scope s.heap.objs.size f cd :: outer) = s.heap.objs.size :: frs outer := rfl
 have frd : ∀ b, b ∈ frs (envOfC qual scope s.heap.objs.size f cd :: outer) -> ∃ o, s1.heap.get? b = some o /\ ∀ vs, o.data ≠ .fields vs := fun b hb => (stk.mem hb).2
 have ene : e ∉ frs (envOfC qual scope s.heap.objs.size f cd :: outer) := fun z => by
  obtain ⟨o, q, _⟩ := frd e z
  rw [hnew] at q; cases q
 have stk' : h'.FunFrames _ (envOfC qual scope s.heap.objs.size f cd :: outer) := stk.of_keeps fun b o hb _ => ⟨o, up1 b o hb, rfl⟩
 have hin : ∀ env ∈ (envOfC qual scope s.heap.objs.size f cd :: outer), ∀ a, env.frame = some a -> a ∈ e :: frs (envOfC qual scope s.heap.objs.size f cd :: outer) := fun env he a ha => List.mem_cons_of_mem _ (gv he ha)
 have hfl := PySem.W.funFrames_hide (as := e :: frs (envOfC qual scope s.heap.objs.size f cd :: outer)) stk' hin
 have inB : ∀ b o, h'.get? b = some o -> b ≠ e -> b ∉ frs (envOfC qual scope s.heap.objs.size f cd :: outer) -> (PySem.W.hideAll h' (e :: frs (envOfC qual scope s.heap.objs.size f cd :: outer))).get? b = some o := fun b o q hb hf => PySem.W.hideAll_get _ q fun z => by
  rcases List.mem_cons.mp z with z | z
  . exact hb z
  . exact hf z
 have hide : (PySem.W.hideAll h' (e :: frs (envOfC qual scope s.heap.objs.size f cd :: outer))).get? e = none := PySem.W.hideAll_none _ List.mem_cons_self
 have nL : ∀ b o, s.heap.get? b = some o -> b ∉ frs outer -> b ∉ frs (envOfC qual scope s.heap.objs.size f cd :: outer) := fun b o q hb z => by
  rw [fr0] at z
  rcases List.mem_cons.mp z with z | z
  . exact absurd (z ▸ Heap.lt_size q) (Nat.lt_irrefl _)
  . exact hb z
 have old : ∀ b o, s1.heap.get? b = some o -> b ≠ e := fun b o q z => by rw [z, hnew] at q; cases q
 have base1 : Un (frs outer) [] H H1 s.heap s1.heap := I.base
 refine Gf af (P := fun h3 => Heap.FlyingW (PySem.W.hideAll h' (e :: frs (envOfC qual scope s.heap.objs.size f cd :: outer))) outer e (rc cls) a0 h3 /\ h'.UpToSlots h3) (fun Q' hq => ?_) fun h'' ⟨fl, up⟩ kd => ?_
 . refine wpAny_leaving_firstW (a0 := a0) (base := PySem.W.hideAll h' (e :: frs (envOfC qual scope s.heap.objs.size f cd :: outer))) I.ok.frames hfl rfl he (fun b o q => PySem.W.of_hideAll _ q) hide hd h1 h0 fun h3 hL => ?_
   obtain ⟨k1, ⟨_, _, k2⟩, k3, k4⟩ := hL
   exact hq h3 ⟨⟨k1, hide, k2, hcls ▸ k3⟩, k4⟩
 have keep : ∀ b o, s1.heap.get? b = some o -> b ∉ frs (envOfC qual scope s.heap.objs.size f cd :: outer) -> h''.get? b = some o := fun b o q hb => fl.1 b o (inB b o (up1 b o q) (old b o q) hb)
 have slots : ∀ b o, s1.heap.get? b = some o -> (∀ vs, o.data ≠ .fields vs) -> ∃ sl, h''.get? b = some { o with slots := sl } := fun b o q hd => up b o (up1 b o q) hd
 have frd' : ∀ b, b ∈ frs outer -> ∃ o, s1.heap.get? b = some o /\ ∀ vs, o.data ≠ .fields vs := fun b hb => frd b (by rw [fr0]; exact List.mem_cons_of_mem _ hb)
 have nf : ∀ b u, H2 b = some u -> b ∉ frs (envOfC qual scope s.heap.objs.size f cd :: outer) := fun b u q m => by
  rcases hH2 b u q with z | z
  . have := I.Ge b m
    rw [this] at z; cases z
  . obtain ⟨o, q2, _⟩ := frd b m
    rw [z] at q2; cases q2
 have H21 : ∀ b, b < s1.heap.objs.size -> s1.heap.get? b ≠ none -> H1 b = none -> H2 b = none := fun b _ hb n => by
  cases q : H2 b with
  | none => rfl
  | some u =>
   rcases hH2 b u q with z | z
   . rw [n] at z; cases z
   . exact absurd z hb
 refine ⟨e, cls, H2, _, a0, rfl, I.os, I.bare, ⟨fun b o q n hb hx' => ?_, fun b o q n hb hx' => ?_, fun b o q n hx' => ?_, fun b o q hx' => ?_, fun b xs q => hH _ _ (base1.tups b xs q), fun b o u q => hH _ _ (base1.frzs b o u q), fun b ps q => ?_⟩, ?_, fl, fun dx q => ?_, fun b o q hb => ?_, fun b u q => ?_, hHe, hE⟩
 . exact keep b o (base1.keep b o q n hb hx') (nL b o q hb)
 . obtain ⟨sl, z⟩ := base1.slot b o q n hb hx'
   obtain ⟨o2, z2, d2⟩ := frd' b hb
   rw [z] at z2; cases z2
   obtain ⟨sl2, z3⟩ := slots b _ z d2
   exact ⟨sl2, z3⟩
 . obtain ⟨o', z⟩ := base1.there b o q hx'
   exact H21 b (Heap.lt_size z) (by rw [z]; exact fun y => nomatch y) (base1.free b o q n hx')
 . obtain ⟨o', z⟩ := base1.there b o q hx'
   by_cases hb : b ∈ frs outer
   . obtain ⟨o2, z2, d2⟩ := frd' b hb
     obtain ⟨sl, z3⟩ := slots b _ z2 d2
     exact ⟨_, z3⟩
   . exact ⟨o', keep b o' z (nL b o q hb)⟩
 . obtain ⟨more, z⟩ := base1.tbls b ps q
   exact ⟨more, hH _ _ z⟩
 . refine hok.tracked fun b u o q z => fl.1 b o (inB b o z (da q hHe) (nf b u q))
 . obtain ⟨o', z, d'⟩ := kd e oe he
   exact ⟨o', z, d'.trans (hdk dx q)⟩
 . obtain ⟨o', z⟩ := base1.there b o q (by simp)
   exact ⟨o', inB b o' (up1 b o' z) (old b o' z) (nL b o q hb)⟩
 . obtain ⟨o', z⟩ := hok.in q
   exact ⟨o', inB b o' z (da q hHe) (nf b u q)⟩
theorem Qo : Passes (CXF P w) (cxOf (CXF P w) P w K mg base N qual scope f cd A outer s H E) E := by
 intro pins σ H1 s1 e s2 I hq
 obtain ⟨ea, cls, H2, B, a0, rfl, os, bare, un, hok, fl, hdk, covO, covH, hea, hE⟩ := hq
 have un : Un (frs (envOfC qual scope s.heap.objs.size f cd :: outer)) [] H1 H2 s1.heap s2.heap := un
 have fl : Heap.FlyingW B (envOfC qual scope s.heap.objs.size f cd :: outer) ea (rc cls) a0 s2.heap := fl
 have base1 : Un (frs outer) [] H H1 s.heap s1.heap := I.base
 have fr0 : frs (envOfC qual scope s.heap.objs.size f cd :: outer) = s.heap.objs.size :: frs outer := rfl
 have nL : ∀ b o, s.heap.get? b = some o -> b ∉ frs outer -> b ∉ frs (envOfC qual scope s.heap.objs.size f cd :: outer) := fun b o q hb z => by
  rw [fr0] at z
  rcases List.mem_cons.mp z with z | z
  . exact absurd (z ▸ Heap.lt_size q) (Nat.lt_irrefl _)
  . exact hb z
 refine Gf af (P := fun h3 => Heap.FlyingW B outer ea (rc cls) a0 h3 /\ s2.heap.UpToSlots h3) (fun Q' hq => wpAny_leaves_onW (L := s.heap.objs.size) I.ok.frames rfl fl fun h3 a b => hq h3 ⟨a, b⟩) fun h3 ⟨fl3, up⟩ kd => ?_
 have keepB : ∀ b o, s2.heap.get? b = some o -> (∃ o', B.get? b = some o') -> h3.get? b = some o := fun b o q ⟨o', z⟩ => by
  have z2 := fl.1 b o' z
  rw [q] at z2; cases z2
  exact fl3.1 b o z
 have frd : ∀ b, b ∈ frs outer -> ∃ o, s1.heap.get? b = some o /\ ∀ vs, o.data ≠ .fields vs := fun b hb => (I.funs.mem hb).2
 have sub : ∀ b, b ∈ frs outer -> b ∈ frs (envOfC qual scope s.heap.objs.size f cd :: outer) := fun b hb => by rw [fr0]; exact List.mem_cons_of_mem _ hb
 refine ⟨ea, cls, H2, B, a0, rfl, os.trans I.os, bare, ⟨fun b o q n hb hx' => ?_, fun b o q n hb hx' => ?_, fun b o q n hx' => ?_, fun b o q hx' => ?_, fun b xs q => un.tups b xs (base1.tups b xs q), fun b o xs q => un.frzs b o xs (base1.frzs b o xs q), fun b ps q => ?_⟩, ?_, fl3, hdk.kd kd, fun b o q hb => ?_, covH, hea, hE⟩
 . have z1 := base1.keep b o q n hb hx'
   have z2 := un.keep b o z1 (base1.free b o q n hx') (nL b o q hb) (by simp)
   exact keepB b o z2 (covO b o z1 (nL b o q hb))
 . obtain ⟨sl, z⟩ := base1.slot b o q n hb hx'
   obtain ⟨o2, z2, d2⟩ := frd b hb
   rw [z] at z2; cases z2
   obtain ⟨sl2, z3⟩ := un.slot b _ z (base1.free b o q n hx') (sub b hb) (by simp)
   obtain ⟨sl3, z4⟩ := up b _ z3 d2
   exact ⟨sl3, z4⟩
 . obtain ⟨o1, z1⟩ := base1.there b o q hx'
   exact un.free b o1 z1 (base1.free b o q n hx') (by simp)
 . obtain ⟨o1, z1⟩ := base1.there b o q hx'
   obtain ⟨o2, z2⟩ := un.there b o1 z1 (by simp)
   by_cases hb : b ∈ frs outer
   . obtain ⟨o', w1, d⟩ := frd b hb
     have nn : H1 b = none := I.Ge b (sub b hb)
     obtain ⟨sl2, z3⟩ := un.slot b o' w1 nn (sub b hb) (by simp)
     obtain ⟨sl3, z4⟩ := up b _ z3 d
     exact ⟨_, z4⟩
   . exact ⟨o2, keepB b o2 z2 (covO b o1 z1 (nL b o q hb))⟩
 . obtain ⟨m1, e1⟩ := base1.tbls b ps q
   obtain ⟨m2, e2⟩ := un.tbls b _ e1
   exact ⟨m1 ++ m2, by rw [e2, Array.append_assoc]⟩
 . exact hok.tracked fun b u o q z => keepB b o z (covH b u q)
 . obtain ⟨o1, z1⟩ := base1.there b o q (by simp)
   exact covO b o1 z1 (nL b o q hb)
end
abbrev bmV : List Value := [.type "ValueError", .type "Exception", .type "BaseException", .type "object"]
def Raises (X : Cx) (E : St -> XK) : Prop := ∀ (pins : List (Addr × Obj)) (σ : St) (H1 H2 : Hp) (s1 : Shared) (h' : Heap) (tk : Nat) (e : Addr) (cls a0 : Value) (oe : Obj) (vs : Array Value), Inv X pins σ H1 s1 ->
 (∀ b o, s1.heap.get? b = some o -> h'.get? b = some o) -> s1.heap.get? e = none -> h'.get? e = some oe -> oe.cls = rc cls -> oe.data = .fields vs -> vs[0]? = some a0 -> vs[1]? = some .none -> (∀ dx, dk cls = some dx -> oe.dict = some dx) ->
 HOk X.prog X.w H2 h' -> (∀ b u, H1 b = some u -> H2 b = some u) -> (∀ b u, H2 b = some u -> H1 b = some u \/ s1.heap.get? b = none) -> H2 e = none -> E σ cls (some e) H2 -> X.xe (.ref e) { s1 with heap := h', toks := tk }
def Hs (C : Addr) (E : St -> XK) (t : TA) : TS := fun _ σ H => t σ H fun vs H1 => vs.length <= sizeLine /\ ∀ ea, H1 ea = none -> E σ (.ref C) (some ea) H1
theorem qe {X : Cx} {E : St -> XK} {x : Str} {C : Addr} {e : Expr} {es : List Expr} {t : TA} {np cpos pos : Pos} (hR : Raises X E) (hc : X.calm = true) (hg : Gl X x) (hm : X.mg x = some (.ref C)) (hq : PySem.W.excIn X.K C bmV "ValueError.__new__" = true) (ha : PA X (e :: es) t)
 (hd : (x == ("__debug__" : Str)) = false := by decide) (he : starEach (e :: es) X.env = (false, eval e X.env) :: starEach es X.env := by first | rfl | with_unfolding_all rfl) (hpl : (backTo cpos (starEach es X.env)).any (·.1) = false := by first | rfl | with_unfolding_all rfl) :
 PS X (.Raise (some (.Call (.Name x np) (e :: es) [] cpos)) none pos) (Hs C E t) := by
 intro pins s σ H D I h
 have O : ∃ bm N nm q bs hdct sn sub ab col dd k0 k1 k2 k3 k5, ∀ {s1 : Shared}, X.K.In s1.heap -> s1.heap.get? C = some (excClassObj nm q C N bs bm hdct sn sub ab col dd k0 k1 k2 k3 k5 "ValueError.__new__") /\ (∃ mN, s1.heap.Ns N mN /\ mN "__init__" = none) /\ OwnTail s1.heap bmV bm := by
  have q := hq
  unfold PySem.W.excIn at q
  split at q
  . rename_i dd cd sl ho
    split at q
    . rename_i C' bm k0 k1 k2 k3 n k5 hmr hs
      simp only [Bool.and_eq_true, beq_iff_eq, Bool.not_eq_true'] at q
      obtain ⟨⟨⟨⟨⟨rfl, rfl⟩, hdel⟩, ht⟩, hok⟩, hni⟩ := q
      obtain ⟨nm, bs, mro, ns, qn, hdd, sn, sub, ab, col, del⟩ := cd
      dsimp only at hmr hdel hok hni
      subst hmr hdel
      have hsl : sl = #[k0, k1, k2, k3, some (.builtin "ValueError.__new__"), k5] := by
       obtain ⟨l⟩ := sl
       simp only at hs
       rw [hs]
      subst hsl
      exact ⟨bm, ns, nm, qn, bs, hdd, sn, sub, ab, col, dd, k0, k1, k2, k3, k5, fun {s1} KI => ⟨KI _ _ ho, ⟨_, .of_isNs (PySem.W.isNs_of_in KI hok), PySem.W.nsMap_none_of_in KI hok hni⟩, PySem.W.tail_of_in KI ht⟩⟩
    . cases q
  . cases q
 obtain ⟨bm, Nn, nm, q, bs, hdct, sn, sub, ab, col, dd, k0, k1, k2, k3, k5, O⟩ := O
 obtain ⟨hC, ⟨mN, hN, hni⟩, T⟩ := O (s1 := { s with heap := X.base }) I.mod.kin
 have hN : X.base.Ns Nn mN := hN
 refine wpAny_Raise_call_subU (C := C) (nm := nm) (q := q) (N := Nn) (bs := bs) (bm := bm) (hdct := hdct) (sn := sn) (sub := sub) (ab := ab) (col := col) (dd := dd) (k0 := k0) (k1 := k1) (k2 := k2) (k3 := k3) (k5 := k5)
  (PySem.F.excBase_ValueError) (bmB := bmV) (by decide) (PySem.F.excBase_ValueError) (mN := mN) (T.hasType (PySem.F.excBase_ValueError).hasBase) (I.ok.hd hc) (by rw [he]; show (false || (backTo cpos (starEach es X.env)).any (·.1)) = false; rw [hpl]; rfl) hni ?_
 refine Te I hg hm ⟨rfl, ?_⟩ hd
 have hargs := ha cpos pins s σ H _ I h
 rw [he] at hargs ⊢
 refine Calls.evalArgs_plain (thn (show wpAny _ _ (spliced ((false, eval e X.env) :: backTo cpos (starEach es X.env))) _ _ s from hargs) fun us s2 ⟨vs, H2, I2, r2, hl, hE⟩ => ?_)
 obtain ⟨hC2, _, T2⟩ := O I2.kIn
 refine ⟨rfl, by rw [<- r2.length]; exact hl, hC2, hN.keeps I2.bk, T2, fun h' ea hx => ?_⟩
 have hea : H2 ea = none := by
  cases q : H2 ea with
  | none => rfl
  | some u => obtain ⟨o', z⟩ := I2.hok.in q; rw [hx.new] at z; cases z
 obtain ⟨t, he, _, _⟩ := hx.there
 exact hR pins σ H2 H2 s2 h' s2.toks ea (.ref C) (.ref t) _ _ I2 hx.keeps hx.new he rfl rfl rfl rfl (fun dx q => nomatch q) (I2.hok.kept hx.keeps) (fun _ _ q => q) (fun _ _ q => .inl q) hea (hE ea hea)
end L2
namespace L2
open PySem PySem.Spec PyProof.Rows
structure Mm (P : Program) (w : World) (outer : List Env) (H : Hp) (s : Shared) (ea : Addr) (cls : Value) (H' : Hp) (B : Heap) (a0 : Value) (s' : Shared) : Prop where
 os : s'.os = s.os
 bare : AllBare s'.gens
 un : Un (frs outer) [] H H' s.heap s'.heap
 hok : HOk P w H' s'.heap
 fly : Heap.FlyingW B outer ea (rc cls) a0 s'.heap
 dkk : Dk cls ea s'.heap
 covO : ∀ b o, s.heap.get? b = some o -> b ∉ frs outer -> ∃ o', B.get? b = some o'
 covH : ∀ b u, H' b = some u -> ∃ o', B.get? b = some o'
 hea : H' ea = none
theorem CXF.lies {P : Program} {w : World} {outer : List Env} {H : Hp} {s s' : Shared} {E : XK} {e : Value} (h : CXF P w outer H s E e s') : ∃ ea cls H' B a0, e = .ref ea /\ Mm P w outer H s ea cls H' B a0 s' /\ E cls (some ea) H' := by
 obtain ⟨ea, cls, H2, B, a0, rfl, os, bare, un, hok, fl, hdk, covO, covH, hea, hE⟩ := h
 exact ⟨ea, cls, H2, B, a0, rfl, ⟨os, bare, un, hok, fl, hdk, covO, covH, hea⟩, hE⟩
theorem Mm.step {P : Program} {w : World} {outer : List Env} {H : Hp} {s : Shared} {ea : Addr} {cls : Value} {H' : Hp} {B base : Heap} {a0 : Value} {s' : Shared} {h3 : Heap} (L : Mm P w outer H s ea cls H' B a0 s')
 (fu : s.heap.FunFrames base outer) (fr : ∀ b ∈ frs outer, H b = none) (fl : Heap.FlyingW B outer ea (rc cls) a0 h3) (up : s'.heap.UpToSlots h3) (kd : Kd s'.heap h3) : Mm P w outer H s ea cls H' B a0 { s' with heap := h3 } := by
 have keepB : ∀ b o, s'.heap.get? b = some o -> (∃ o', B.get? b = some o') -> h3.get? b = some o := fun b o q ⟨o', z⟩ => by
  have z2 := L.fly.1 b o' z
  rw [q] at z2; cases z2
  exact fl.1 b o z
 refine ⟨L.os, L.bare, ⟨fun b o q n hb hx => ?_, fun b o q n hb hx => ?_, L.un.free, fun b o q hx => ?_, L.un.tups, L.un.frzs, L.un.tbls⟩, ?_, fl, L.dkk.kd kd, L.covO, L.covH, L.hea⟩
 . exact keepB b o (L.un.keep b o q n hb hx) (L.covO b o q hb)
 . obtain ⟨sl, z⟩ := L.un.slot b o q n hb hx
   obtain ⟨_, o2, z2, d2⟩ := fu.mem hb
   rw [q] at z2; cases z2
   obtain ⟨sl2, z4⟩ := up b _ z d2
   exact ⟨sl2, z4⟩
 . obtain ⟨o', z⟩ := L.un.there b o q hx
   by_cases hb : b ∈ frs outer
   . obtain ⟨_, o2, z2, d2⟩ := fu.mem hb
     rw [q] at z2; cases z2
     obtain ⟨sl, z3⟩ := L.un.slot b o q (fr b hb) hb hx
     obtain ⟨sl2, z4⟩ := up b _ z3 d2
     exact ⟨_, z4⟩
   . exact ⟨o', keepB b o' z (L.covO b o q hb)⟩
 . exact L.hok.tracked fun b u o q z => keepB b o z (L.covH b u q)
structure Thr (X : Cx) (E : St -> XK) : Prop where
 pass : ∀ (pins : List (Addr × Obj)) (σ : St) (H : Hp) (s : Shared) (e : Value) (s' : Shared), Inv X pins σ H s -> CXF X.prog X.w X.stack H s (E σ) e s' -> X.xe e s'
 own : PassesOwn (model X.prog X.w) X.A X.env X.xe
section
variable {P : Program} {w : World} {K : PySem.W.Frag} {mg : Str -> Option Value} {base : Heap} {N : List Str} {qual : Str} {scope : Scope} {f : Addr} {cd : Value} {A : Around} {outer : List Env} {s : Shared} {H : Hp} {E : XK}
theorem Na : Thr (cxOf (CXF P w) P w K mg base N qual scope f cd A outer s H E) (fun _ => E) :=
 ⟨fun pins σ H1 s1 e s2 I h => Qo pins σ H1 s1 e s2 I h, PassesOwn.leaving⟩
theorem Gd : Raises (cxOf (CXF P w) P w K mg base N qual scope f cd A outer s H E) (fun _ => E) := fun pins σ H1 H2 s1 h' tk e cls a0 oe vs I a b c d e' f' g' h1 i j k l m => Hm I a b c d e' f' g' h1 i j k l m
end
structure Ka (P : Program) (w : World) (K : PySem.W.Frag) (mg : Str -> Option Value) (base : Heap) (k : Nat) (x : Str) (ps : List Str) (sp : Sp) : Prop where
 ex : ∃ (f : Addr) (fd : FuncData), FnOk P w K mg base (CXF P w) k f fd ps sp /\ mg x = some (.ref f) /\ PySem.W.keepIn K (.ref f) = true /\ Binds K fd ps []
theorem Ka.of {P : Program} {w : World} {K : PySem.W.Frag} {mg : Str -> Option Value} {base : Heap} {x : Str} {st : Stmt} {N ps : List Str} {k : Nat} {sp : Sp} (U : Up K mg x st ps) (S : Ga N ps (ua st))
 (len : ∀ vs H Q E, sp vs H Q E -> vs.length = ps.length)
 (hbody : ∀ (f : Addr) (cdv : Value) (A : Around) (outer : List Env) (s : Shared) (H : Hp) (vs : List V) (Q : VK) (E : XK), Room k (A.deeper (envOfC x (ua st) s.heap.objs.size f cdv)) -> sp vs H Q E ->
   ∃ t, PSs (cxOf (CXF P w) P w K mg base N x (ua st) f cdv A outer s H E) (Ba st) t /\ t { nx := fun _ H' => Q .non H', rt := Q } (start N vs) H) : Ka P w K mg base (k + 1) x ps sp := by
 obtain ⟨f, fd, F, hm, hb⟩ := U.ex
 refine ⟨f, fd, ?_, hm, F.kp, hb⟩
 obtain ⟨oc, od, kV, doc, pm, an, cdv, ct, osl, rfl, lk, hcd⟩ := F.ex
 exact fn_of lk hcd S len fun A outer s H vs Q E hr hsp => hbody f cdv A outer s H vs Q E hr hsp
def tClE (sp : Sp) (E : St -> XK) (t : TA) : TE := fun σ H Q => t σ H fun vs H1 => sp vs H1 Q (E σ)
section
variable {X : Cx} {k : Nat} {ps : List Str} {sp : Sp} {x : Str} {p pos : Pos} {e : Expr} {es : List Expr} {t : TA} {E : St -> XK} {f : Addr} {fd : FuncData}
theorem ou {pins : List (Addr × Obj)} {σ : St} {H : Hp} {s : Shared} {Q : VK} {us : List Value} {vs : List V} (F : FnOk X.prog X.w X.K X.mg X.base (CXF X.prog X.w) k f fd ps sp) (hr : Room k X.A) (hb : Binds X.K fd ps []) (T : Thr X E)
 (I : Inv X pins σ H s) (r : Vals vs us) (h : sp vs H Q (E σ)) : wpAny (model X.prog X.w) X.A (call (.ref f) us) (EP X pins σ Q) X.xe s := by
 have hl : us.length = ps.length := by rw [<- r.length]; exact F.len _ _ _ _ h
 have bb := hb s us I.kIn (by rw [List.append_nil]; exact hl)
 rw [List.append_nil] at bb
 refine wpAny_call (codeAny_mono (F.run X.A X.stack s H ⟨us, []⟩ us vs Q (E σ) hr I.env0 bb r h) fun r s' hq => ?_)
 cases r with
 | error e => exact T.pass pins σ H s e s' I hq
 | ok fl =>
  cases fl with
  | ret u => exact I.after hq
  | next => exact False.elim hq
  | brk => exact False.elim hq
  | cont => exact False.elim hq
theorem jb (C : Ka X.prog X.w X.K X.mg X.base k x ps sp) (T : Thr X E) (hr : Room k X.A) (hg : Gl X x) (ha : PA X (e :: es) t) (hdb : (x == ("__debug__" : Str)) = false := by decide)
 (he : starEach (e :: es) X.env = (false, eval e X.env) :: starEach es X.env := by first | rfl | with_unfolding_all rfl) (hpl : (backTo pos (starEach es X.env)).any (·.1) = false := by first | rfl | with_unfolding_all rfl) : PE X (.Call (.Name x p) (e :: es) [] pos) (tClE sp E t) := by
 obtain ⟨f, fd, F, hm, hk, hb⟩ := C.ex
 intro pins s σ H Q I h
 refine wpAny_Call_Name_kw (Te I hg hm ?_ hdb)
 refine PySem.W.callWith_K (h₀ := X.base) I.ok.mod.kin hk (thn (ha pos pins s σ H _ I h) fun us s1 ⟨vs, H1, I1, r, q⟩ => ⟨I1.kIn, ?_⟩) he hpl
 exact ou F hr hb T I1 r q
end
def yd (X : Cx) (pins : List (Addr × Obj)) (σ : St) (H' : Hp) (ea : Addr) (cls : Value) (s3 : Shared) : Prop := ∃ H1 s1 B a0, Inv X pins σ H1 s1 /\ Mm X.prog X.w X.stack H1 s1 ea cls H' B a0 s3
abbrev Wm (X : Cx) (pins : List (Addr × Obj)) (EE : St -> XK) : Cx := { X with
 pn := X.pn ++ pins
 xe := fun e s' => wpAny (model X.prog X.w) X.A (noteFrame e X.env) (fun _ s2 => wpAny (model X.prog X.w) X.A (setFlight e none) (fun _ s3 => ∃ ea cls σ H', e = .ref ea /\ yd X pins σ H' ea cls s3 /\ EE σ cls (some ea) H') X.xe s2) X.xe s' }
section
variable {X : Cx} {pins pins' : List (Addr × Obj)} {σ : St} {H H' : Hp} {s s' : Shared} {EE : St -> XK} {ea : Addr} {cls : Value}
theorem yd.inv (h : yd X pins σ H ea cls s) : Inv X pins σ H s := by
 obtain ⟨H1, s1, B, a0, I, L⟩ := h
 exact I.call' L.os L.un L.hok L.bare (fun b z => absurd z (by simp))
theorem Inv.toTry (I : Inv X pins σ H s) : Inv (Wm X pins EE) [] σ H s :=
 ⟨⟨I.ok.mod, I.ok.kind, I.ok.glob, I.ok.blt, I.ok.above, I.ok.inj, I.ok.has, I.ok.cab, I.ok.hd, I.ok.frames, I.ok.stk, I.ok.exf, I.ok.bs, I.ok.bsz, I.ok.noex, I.ok.exfs, I.ok.funs, I.ok.frf⟩, I.os, I.bare, I.base, I.loc, I.cell, I.free, I.freeC,
  fun p hp => I.pin p (by rw [List.append_nil] at hp; exact hp), I.hok, I.len⟩
theorem Inv.fk (I : Inv (Wm X pins EE) pins' σ H s) : Inv X pins σ H s :=
 ⟨⟨I.ok.mod, I.ok.kind, I.ok.glob, I.ok.blt, I.ok.above, I.ok.inj, I.ok.has, I.ok.cab, I.ok.hd, I.ok.frames, I.ok.stk, I.ok.exf, I.ok.bs, I.ok.bsz, I.ok.noex, I.ok.exfs, I.ok.funs, I.ok.frf⟩, I.os, I.bare, I.base, I.loc, I.cell, I.free, I.freeC,
  fun p hp => I.pin p (List.mem_append_left _ hp), I.hok, I.len⟩
theorem SP.fk {D : Ends} {f : Flow} (h : SP (Wm X pins EE) pins' D f s') : SP X pins D f s' := by
 cases f with
 | next => obtain ⟨σ', H', I, q⟩ := h; exact ⟨σ', H', I.fk, q⟩
 | brk => obtain ⟨σ', H', I, q⟩ := h; exact ⟨σ', H', I.fk, q⟩
 | cont => obtain ⟨σ', H', I, q⟩ := h; exact ⟨σ', H', I.fk, q⟩
 | ret u => obtain ⟨v, σ', H', I, r, q⟩ := h; exact ⟨v, σ', H', I.fk, r, q⟩
structure OnTop (X : Cx) : Prop where
 st : X.stack = X.env :: X.outer
 fr : X.env.frame = some X.env.locals
theorem Xm (O : OnTop X) : Thr (Wm X pins EE) EE := by
 refine ⟨fun pins' σ H s e s' I hq => ?_, PassesOwn.looking⟩
 obtain ⟨ea, cls, H', B, a0, rfl, L, hE⟩ := hq.lies
 have I0 : Inv X pins σ H s := I.fk
 have L : Mm X.prog X.w X.stack H s ea cls H' B a0 s' := L
 have fl := L.fly
 rw [O.st] at fl
 refine Gf Mi (P := fun h4 => Heap.HeldW B (X.env :: X.outer) ea (rc cls) a0 X.env.locals h4 /\ s'.heap.UpToSlots h4) (fun Q' hq => wpAny_looks_onW (outer := X.outer) (by rw [<- O.st]; exact I0.ok.frames) O.fr fl fun h4 a b => hq h4 ⟨a, b⟩) fun h4 ⟨held, up4⟩ kd4 => ?_
 refine Gf ec (P := fun h5 => Heap.FlyingW B (X.env :: X.outer) ea (rc cls) a0 h5 /\ h4.UpToSlots h5) (fun Q' hq => wpAny_landsW (s := { s' with heap := h4 }) held fun h5 a b => hq h5 ⟨a, b⟩) fun h5 ⟨fl5, up5⟩ kd5 => ?_
 rw [<- O.st] at fl5
 exact ⟨ea, cls, σ, H', rfl, ⟨H, s, B, a0, I0, L.step I0.stack I0.Ge fl5 (up4.trans up5) (kd4.trans kd5)⟩, hE⟩
end
end L2
namespace L2
open PySem PySem.Spec PyProof.Rows
def ErrO (ea : Addr) (cls : Value) : HO := .ext fun h => ∃ o, h.get? ea = some o /\ o.cls = rc cls /\ (∀ dx, dk cls = some dx -> o.dict = some dx) /\ ∃ vs, o.data = .fields vs
abbrev yq (X : Cx) (pins : List (Addr × Obj)) (ea : Addr) : Cx := { X with A := X.A.mark (some (.ref ea)), calm := false, pn := X.pn ++ pins, xe := fun _ _ => False }
section
variable {X : Cx} {pins pins' : List (Addr × Obj)} {σ : St} {H H' : Hp} {s s' : Shared} {ea : Addr} {cls : Value}
theorem Inv.toSuf (I : Inv X pins σ H s) : Inv (yq X pins ea) [] σ H s :=
 ⟨⟨I.ok.mod, I.ok.kind, I.ok.glob, I.ok.blt, I.ok.above, I.ok.inj, I.ok.has, I.ok.cab, fun z => (Bool.noConfusion z), I.ok.frames, I.ok.stk, I.ok.exf, I.ok.bs, I.ok.bsz, I.ok.noex, I.ok.exfs, I.ok.funs, I.ok.frf⟩, I.os, I.bare, I.base, I.loc, I.cell, I.free, I.freeC,
  fun p hp => I.pin p (by rw [List.append_nil] at hp; exact hp), I.hok, I.len⟩
theorem Inv.Bm (ok : X.Ok) (I : Inv (yq X pins ea) pins' σ H s) : Inv X pins σ H s :=
 ⟨ok, I.os, I.bare, I.base, I.loc, I.cell, I.free, I.freeC, fun p hp => I.pin p (List.mem_append_left _ hp), I.hok, I.len⟩
theorem SP.Bm (ok : X.Ok) {D : Ends} {f : Flow} (h : SP (yq X pins ea) pins' D f s') : SP X pins D f s' := by
 cases f with
 | next => obtain ⟨σ', H', I, q⟩ := h; exact ⟨σ', H', I.Bm ok, q⟩
 | brk => obtain ⟨σ', H', I, q⟩ := h; exact ⟨σ', H', I.Bm ok, q⟩
 | cont => obtain ⟨σ', H', I, q⟩ := h; exact ⟨σ', H', I.Bm ok, q⟩
 | ret u => obtain ⟨v, σ', H', I, r, q⟩ := h; exact ⟨v, σ', H', I.Bm ok, r, q⟩
theorem name_goes {M : Model} {A : Around} {E : Value -> Shared -> Prop} {Q : Unit -> Shared -> Prop} {i : Nat} {n : Str} {pos : Pos} (I : Inv X pins σ H s) (hN : X.N.Nodup) (hi : X.N[i]? = some n) (hl : X.env.kindOf n = some .local)
 (h : ∀ s', Inv X pins (σ.set i none) H s' -> Q () s') : wpAny M A (do bindName X.env n .none; unbindBehindTheSuite X.env n pos) Q E s := by
 obtain ⟨m, hn, hlk⟩ := id I.loc
 refine wpAny_nameGoes_keeps hl hn (by rw [I.ok.kind]; rfl) fun h' v hn' hs => ?_
 have cne := I.cne
 obtain ⟨oL, _, _, hoL, _⟩ := id hn
 refine h _ ⟨I.ok, I.os, I.bare, ⟨fun b o e n hb hx => ?_, fun b o e n hb hx => ?_, I.base.free, fun b o e hx => ?_, I.base.tups, I.base.frzs, I.base.tbls⟩, ⟨_, hn', fun j y v' e1 e2 e3 => ?_⟩, fun y c e => ?_, I.free, I.freeC, fun p hp => ?_, ?_, by simpa using I.len⟩
 . exact (hs.2 b (Nat.ne_of_lt (Nat.lt_of_lt_of_le (Heap.lt_size e) I.ok.above))).trans (I.base.keep b o e n hb hx)
 . obtain ⟨sl, e1⟩ := I.base.slot b o e n hb hx
   exact ⟨sl, (hs.2 b (Nat.ne_of_lt (Nat.lt_of_lt_of_le (Heap.lt_size e) I.ok.above))).trans e1⟩
 . obtain ⟨o', e1⟩ := I.base.there b o e hx
   exact ⟨o', (hs.2 b (Nat.ne_of_lt (Nat.lt_of_lt_of_le (Heap.lt_size e) I.ok.above))).trans e1⟩
 . have hj : j ≠ i := fun z => by
    subst z
    rw [List.getElem?_set] at e2
    simp only [if_true] at e2
    split at e2 <;> cases e2
   rw [List.getElem?_set_ne (Ne.symm hj)] at e2
   obtain ⟨u', r', q⟩ := hlk j y v' e1 e2 e3
   refine ⟨u', r', ?_⟩
   have ne : y ≠ n := fun z => hj (ni hN e1 (z ▸ hi))
   rcases q with ⟨k, e⟩ | ⟨k, c, e, z⟩
   . exact .inl ⟨k, by simp [ne, e]⟩
   . exact .inr ⟨k, c, e, z.sameBut hs (cne y c e)⟩
 . obtain ⟨w', z⟩ := I.cell y c e
   exact ⟨w', z.sameBut hs (cne y c e)⟩
 . obtain ⟨e, nn, ne, nf, d⟩ := I.pin p hp
   exact ⟨(hs.2 p.1 ne).trans e, nn, ne, nf, d⟩
 . refine I.hok.tracked fun b u o q z => (hs.2 b ?_).trans z
   intro y; subst y
   have := I.free
   rw [this] at q; cases q
end
abbrev TH := Ends -> Addr -> Value -> St -> Hp -> Prop
def PH (X : Cx) (hs : List ExceptHandler) (t : TH) : Prop := ∀ (pins : List (Addr × Obj)) (s : Shared) (σ : St) (H : Hp) (D : Ends) (ea : Addr) (cls : Value), yd X pins σ H ea cls s -> t D ea cls σ H ->
 wpAny (model X.prog X.w) X.A (handleBy (.ref ea) X.env hs) (SP X pins D) X.xe s
def PCl (X : Cx) (e : Expr) (c : Value) : Prop := ∀ (A : Around) (E : Value -> Shared -> Prop) (pins : List (Addr × Obj)) (s : Shared) (σ : St) (H : Hp) (Q : Value -> Shared -> Prop), Inv X pins σ H s -> Q c s -> wpAny (model X.prog X.w) A (eval e X.env) Q E s
def Ends.drop (D : Ends) (i : Nat) : Ends := ⟨fun σ H => D.nx (σ.set i none) H, D.rt, fun σ H => D.bk (σ.set i none) H, fun σ H => D.ct (σ.set i none) H⟩
def hNil : TH := fun _ _ _ _ _ => False
def hAs (K : PySem.W.Frag) (c : Value) (i : Nat) (t : TS) (r : TH) : TH := fun D ea cls σ H => ∃ b, PySem.W.exmOne K (rc cls) c = some b /\ if b = true then t (D.drop i) (σ.set i (some (.ref ea))) (upd H ea (ErrO ea cls)) else r D ea cls σ H
section
variable {X : Cx} {c : Value} {e : Expr} {i : Nat} {n : Str} {b₀ : Stmt} {suite : List Stmt} {pos tpos : Pos} {hs : List ExceptHandler} {t : TS} {r : TH}
theorem yt : PH X [] hNil := fun _ _ _ _ _ _ _ _ h => h.elim
theorem yd.land {M : Model} {A : Around} {E : Value -> Shared -> Prop} {Q : Unit -> Shared -> Prop} {pins : List (Addr × Obj)} {σ : St} {H : Hp} {ea : Addr} {cls : Value} {s : Shared} (h : yd X pins σ H ea cls s)
 (q : ∀ s', yd X pins σ H ea cls s' -> Q () s') : wpAny M A (setFlight (.ref ea) none) Q E s := by
 obtain ⟨H1, s1, B, a0, I, L⟩ := h
 refine Gf ec (P := fun h' => Heap.FlyingW B X.stack ea (rc cls) a0 h' /\ s.heap.UpToSlots h') (fun Q' hq => lands_againW L.fly fun h' a b => hq h' ⟨a, b⟩) fun h' ⟨fl, up⟩ kd => ?_
 exact q _ ⟨H1, s1, B, a0, I, L.step I.stack I.Ge fl up kd⟩
theorem yd.ty {M : Model} {pins : List (Addr × Obj)} {σ : St} {H : Hp} {ea : Addr} {cls : Value} {s : Shared} (h : yd X pins σ H ea cls s) : PySem.W.Looks M s.heap (typeOf (.ref ea)) (rc cls) := by
 obtain ⟨H1, s1, B, a0, I, L⟩ := h
 obtain ⟨ob, h1, h2⟩ := L.fly.there
 exact h2 ▸ (PySem.W.Looks.ld h1).andThen .now
theorem yd.Yl {pins : List (Addr × Obj)} {σ : St} {H : Hp} {ea : Addr} {cls : Value} {s : Shared} (h : yd X pins σ H ea cls s) : Inv X pins σ (upd H ea (ErrO ea cls)) s := by
 have J := h.inv
 obtain ⟨H1, s1, B, a0, I, L⟩ := h
 obtain ⟨oe, vs, he, hcls, hd, _⟩ := L.fly.first
 have old : ∀ b o, s1.heap.get? b = some o -> b ≠ ea := fun b o q z => by
  subst z
  by_cases hb : b ∈ frs X.stack
  . obtain ⟨_, o2, z2, d2⟩ := J.stack.mem hb
    rw [he] at z2; cases z2
    exact d2 vs hd
  . obtain ⟨o', z⟩ := L.covO b o q hb
    rw [L.fly.2.1] at z; cases z
 have trk : ∀ b u, H b = some u -> b ≠ ea := fun b u q => da q L.hea
 have b0 : ∀ b o, X.s₀.heap.get? b = some o -> b ∉ X.ex -> b ≠ ea := fun b o q hx => by
  obtain ⟨o', z⟩ := I.base.there b o q hx
  exact old b o' z
 refine ⟨J.ok, J.os, J.bare, ⟨J.base.keep, J.base.slot, fun b o q n hx => ?_, J.base.there, fun b xs q => ?_, fun b o u q => ?_, fun b ps q => ?_⟩, J.loc, J.cell, ?_, fun x c q => ?_, fun p hp => ?_, fun b u q => ?_, J.len⟩
 . rw [Aa (b0 b o q hx)]; exact J.base.free b o q n hx
 . have := J.base.tups b xs q
   rw [Aa (trk _ _ this)]; exact this
 . have := J.base.frzs b o u q
   rw [Aa (trk _ _ this)]; exact this
 . obtain ⟨m, z⟩ := J.base.tbls b ps q
   exact ⟨m, by rw [Aa (trk _ _ z)]; exact z⟩
 . obtain ⟨m, ⟨o, _, _, ho, _⟩, _⟩ := I.loc
   rw [Aa (old _ o ho)]; exact J.free
 . obtain ⟨v, o, ho, _⟩ := I.cell x c q
   rw [Aa (old c o ho)]; exact J.freeC x c q
 . obtain ⟨e1, n1, r1⟩ := J.pin p hp
   obtain ⟨e2, _⟩ := I.pin p hp
   exact ⟨e1, by rw [Aa (old _ _ e2)]; exact n1, r1⟩
 . by_cases hb : b = ea
   . subst hb
     rw [ka] at q; cases q
     refine ⟨⟨oe, he, hcls, fun dx e => ?_, vs, hd⟩, ⟨oe, he⟩, fun h1 h2 ⟨o, e1, e2⟩ k => ⟨o, k o e1, e2⟩⟩
     obtain ⟨o', z1, z2⟩ := L.dkk dx e
     rw [he] at z1; cases z1
     exact z2
   . rw [Aa hb] at q
     exact (J.hok b u q).stay (fun _ _ _ z => z) (fun c z => by rw [Aa (trk _ _ z)]; exact z) fun c xs z => by rw [Aa (trk _ _ z)]; exact z
theorem ph_as (hN : X.N.Nodup) (hi : X.N[i]? = some n) (hl : X.env.kindOf n = some .local) (hc : PCl X e c) (ht : ∀ pins ea, PSs (yq X pins ea) (b₀ :: suite) t) (hr : PH X hs r) :
 PH X (.ExceptHandler (some e) (some n) (b₀ :: suite) pos :: hs) (hAs X.K c i t r) := by
 intro pins s σ H D ea cls C h
 obtain ⟨b, hb, h⟩ := h
 have I := C.inv
 refine wpAny_handleBy_cons (codeAny_handlers_test (hc _ _ pins s σ H _ I ?_)) (by intro q; cases q)
 have L := PySem.W.exm_one (M := model X.prog X.w) I.kIn C.ty hb
 refine L _ _ _ s (fun _ _ z => z) ?_
 cases b with
 | false => exact hr pins s σ H D ea cls C (by simpa using h)
 | true =>
  have h : t (D.drop i) (σ.set i (some (.ref ea))) (upd H ea (ErrO ea cls)) := by simpa using h
  refine codeAny_handlers_suite_as (C.land fun s2 C2 => ?_)
  refine Ed C2.Yl hN hi (.inl hl) (v := .ref ea) rfl (fun s3 I3 => ?_) (.inr hl)
  refine wpAny_mono (ht pins ea [] s3 _ _ (D.drop i) I3.toSuf h) (fun f s4 q => ?_) (fun _ _ z => z.elim)
  have q := q.Bm I.ok
  cases f with
  | next => obtain ⟨σ', H', I', q⟩ := q; exact name_goes I' hN hi hl fun s5 I5 => ⟨_, _, I5, q⟩
  | brk => obtain ⟨σ', H', I', q⟩ := q; exact name_goes I' hN hi hl fun s5 I5 => ⟨_, _, I5, q⟩
  | cont => obtain ⟨σ', H', I', q⟩ := q; exact name_goes I' hN hi hl fun s5 I5 => ⟨_, _, I5, q⟩
  | ret u => obtain ⟨v, σ', H', I', rv, q⟩ := q; exact name_goes I' hN hi hl fun s5 I5 => ⟨v, _, _, I5, rv, q⟩
theorem Po {x : Str} {C : Addr} {np : Pos} (hg : Gl X x) (hm : X.mg x = some (.ref C)) (hd : (x == ("__debug__" : Str)) = false := by decide) : PCl X (.Name x np) (.ref C) := fun A E pins s σ H Q I q =>
 Calls.Name_function_global I.ok.kind hg (Calls.loadGlobal_global (by rw [I.ok.glob]; exact I.mod.glob.keeps I.bk) hm q) hd
def tTry (tb : (St -> XK) -> TS) (th : TH) : TS := fun D σ H => tb (fun σ1 cls oa H1 => ∃ ea, oa = some ea /\ th D ea cls σ1 H1) D σ H
theorem xt {body : List Stmt} {h₀ : ExceptHandler} {tb : (St -> XK) -> TS} {th : TH} (hb : ∀ pins EE, PSs (Wm X pins EE) body (tb EE)) (hh : PH X (h₀ :: hs) th) : PS X (.Try body (h₀ :: hs) [] [] pos) (tTry tb th) := by
 intro pins s σ H D I h
 refine wpAny_Try_except ?_
 refine wpAny_mono (hb pins _ [] s σ H D I.toTry h) (fun f s1 q => ?_) (fun e s1 q => ?_)
 . have q := q.fk
   cases f with
   | next => exact wpAny_execs_nil q
   | brk => exact q
   | cont => exact q
   | ret u => exact q
 . refine wpAny_mono q (fun _ s2 q2 => wpAny_mono q2 (fun _ s3 q3 => ?_) fun _ _ z => z) fun _ _ z => z
   obtain ⟨ea, cls, σ1, H1, rfl, C, ea', e', q⟩ := q3
   cases e'
   exact hh pins s3 σ1 H1 D ea cls C q
end
end L2
namespace PySem.W
open PySem PySem.Spec PySem.Calls PyProof.Rows Builtin Builtin.ObjectAttr Builtin.Getset_descriptor
section
variable {prog : Program} {w : World} {A : Around} {E : Value -> Shared -> Prop} {s : Shared} {K : Frag} {x C : Addr} {R : Result -> Shared -> Prop}
theorem Km {tp : Value} (X : K.In s.heap) (ty : ∀ M : Model, Looks M s.heap (typeOf (.ref x)) (.ref C)) (hm : mroIn K C (.type "object") = some true)
 (h : R (.ok (.ret (.ref C))) s) : codeAny (model prog w) A (.call (.builtin "getset_descriptor.__get__") ⟨[.builtin "object.__class__", .ref x, tp], []⟩) R s := by
 obtain ⟨hh, g, dr, t, os⟩ := s
 have L0 := ty (model prog w)
 have L1 := looks_mroIn (M := model prog w) X hm
 refine codeAny_call_builtin KF.slot_gs.plain KF.entry_gs (KF.slot_gs.check _ _ _ _ _ _ _ _ KF.type_class (KF.args_gs _ _ _) ?_)
 unfold Builtin.«getset_descriptor.__get__» descrGet
 rw [dga_obj]
 refine wpAny_bind (wpAny_pure ?_)
 unfold descrGetter descrCheckInstance descrNameAndClass isInstance
 simp only [KF.owner_class]
 repeat lk
 refine ⟨Code.quiet_builtin _ (by decide +kernel), codeAny_builtin KF.entry_class ?_⟩
 unfold Builtin.«object.__class__» shownTypeOf
 repeat lk
 exact h
theorem gf {nameV : Value} {Q : Unit -> Shared -> Prop} (X : K.In s.heap) (ty : ∀ M : Model, Looks M s.heap (typeOf (.ref x)) (.ref C)) (hb : mroIn K C (.type "BaseException") = some true) (hq : Q () s) {M : Model} :
 wpAny M A (checkBuiltinCall "BaseException.__getattribute__" ⟨[.ref x, nameV], []⟩) Q E s := by
 obtain ⟨hh, g, dr, t, os⟩ := s
 have hk : builtinKind "BaseException.__getattribute__" = some .slot := by decide +kernel
 have hsplit : splitId "BaseException.__getattribute__" = some ("BaseException", "__getattribute__") := by decide +kernel
 have L0 := ty M
 have L1 := looks_mroIn (M := M) X hb
 have LI : Looks M hh (isInstance (.ref x) (.type "BaseException")) true := L0.andThen L1
 have ha := F.args_bexc_ga (.ref x) nameV
 simp only [checkBuiltinCall, hk, hsplit]
 refine wpAny_bind (LI.at ?_)
 repeat (first | assumption | wp_step)
theorem pj {tk : Tok} {Q : Fin -> Shared -> Prop} (X : K.In s.heap) (ty : ∀ M : Model, Looks M s.heap (typeOf (.ref x)) (.ref C)) (hm : mroIn K C (.type "object") = some true) (hc : findIn K (.ref C) "__class__" = some (some (.builtin "object.__class__")))
 (hq : Q (.done (.ret (.ref C))) s) : wpAny (model prog w) A (Builtin.«object.__getattribute__» ⟨[.ref x, .str "__class__" tk], []⟩) Q E s := by
 obtain ⟨h, g, d, t, os⟩ := s
 have L0 := ty (model prog w)
 have L1 := looks_findIn (M := model prog w) X hc
 have hT5 : (⟨h, g, d, t, os⟩ : Shared).TypeIs (.builtin "object.__class__") "getset_descriptor" := F.typeOf_object_class
 have f5 := F.typeOf_object_class
 have f6 := F.slot_gs_get.lookup
 have f7 := F.slot_gs_set.lookup
 repeat (any_goals (first | assumption | with_reducible refine L0.at ?_ | with_reducible refine L1.at ?_ | wp_step))
 refine Km X ty hm ?_
 repeat (any_goals (first | assumption | wp_step))
theorem Kp {tk : Tok} {Q : Value -> Shared -> Prop} (X : K.In s.heap) (ty : ∀ M : Model, Looks M s.heap (typeOf (.ref x)) (.ref C)) (hb : mroIn K C (.type "BaseException") = some true) (hm : mroIn K C (.type "object") = some true) (hc : findIn K (.ref C) "__class__" = some (some (.builtin "object.__class__")))
 (hga : findIn K (.ref C) "__getattribute__" = some (some (.builtin "BaseException.__getattribute__"))) (hgt : findIn K (.ref C) "__getattr__" = some none)
 (hq : Q (.ref C) s) : wpAny (model prog w) A (getAttrBy (.ref x) (.str "__class__" tk) false) Q E s := by
 obtain ⟨h, g, d, t, os⟩ := s
 have L0 := ty (model prog w)
 have L1 := looks_findIn (M := model prog w) X hga
 have L2 := looks_findIn (M := model prog w) X hgt
 have f3 := F.excAttr_ValueError.ga.bind (.ref x)
 have hx2 : (Value.builtin "BaseException.__getattribute__" == Value.builtin "object.__getattribute__") = false := by decide +kernel
 have hx1 : (onTheHeap (Value.ref C) && Value.builtin "BaseException.__getattribute__" == Value.builtin "object.__getattribute__") = false := by rw [hx2]; rfl
 have hx0 : (false && onTheHeap (Value.builtin "BaseException.__getattribute__")) = false := rfl
 repeat (any_goals (first | assumption | with_reducible refine L0.at ?_ | with_reducible refine L1.at ?_ | with_reducible refine L2.at ?_ | wp_step))
 refine codeAny_call_builtin F.excAttr_ValueError.ga.plain F.entry_bexc_ga (gf X ty hb (pj X ty hm hc ?_))
 repeat (any_goals (first | assumption | wp_step))
theorem xk {Q : Option Value -> Shared -> Prop} (X : K.In s.heap) (ty : ∀ M : Model, Looks M s.heap (typeOf (.ref x)) (.ref C)) (hb : mroIn K C (.type "BaseException") = some true) (hm : mroIn K C (.type "object") = some true) (hc : findIn K (.ref C) "__class__" = some (some (.builtin "object.__class__")))
 (hga : findIn K (.ref C) "__getattribute__" = some (some (.builtin "BaseException.__getattribute__"))) (hgt : findIn K (.ref C) "__getattr__" = some none)
 (hq : Q (some (.ref C)) { s with toks := s.toks + 1 }) : wpAny (model prog w) A (getAttr? (.ref x) "__class__") Q E s := by
 obtain ⟨h, g, d, t, os⟩ := s
 unfold getAttr? getAttrBy?
 repeat (any_goals (first | assumption | (with_reducible refine Kp (s := ⟨h, g, d, t + 1, os⟩) X ty hb hm hc hga hgt ?_) | wp_step))
end
end PySem.W
namespace L2
open PySem PySem.Spec PyProof.Rows
structure ErrK (K : PySem.W.Frag) (C : Addr) : Prop where
 ga : PySem.W.findIn K (.ref C) "__getattribute__" = some (some (.builtin "BaseException.__getattribute__"))
 gt : PySem.W.findIn K (.ref C) "__getattr__" = some none
 cl : PySem.W.findIn K (.ref C) "__class__" = some (some (.builtin "object.__class__"))
 mb : PySem.W.mroIn K C (.type "BaseException") = some true
 mo : PySem.W.mroIn K C (.type "object") = some true
theorem Ol {M : Model} {h : Heap} {x : Addr} {C : Value} (p : ∃ o, h.get? x = some o /\ o.cls = C) : PySem.W.Looks M h (typeOf (.ref x)) C := by
 obtain ⟨o, h1, h2⟩ := p
 exact h2 ▸ (PySem.W.Looks.ld h1).andThen .now
theorem xp {K : PySem.W.Frag} {C : Addr} {b : Value} {r : Bool} (e : PySem.W.mroIn K C b = some r) : ∃ cd, PySem.W.clsIn K C = some cd := by
 obtain ⟨cd, h, _⟩ := Option.bind_eq_some_iff.mp e
 exact ⟨cd, h⟩
theorem Jr {K : PySem.W.Frag} {x C : Addr} (e : ErrK K C) : PySem.W.KitX K (.ref x) (.ref C) (fun h => ∃ o, h.get? x = some o /\ o.cls = .ref C) where
 ty := fun _ _ _ p => Ol p
 it := fun _ _ X _ => by
  obtain ⟨cdD, hcD⟩ := xp e.mo
  unfold PySem.W.clsIn at hcD
  split at hcD
  . rename_i c' d' cd' sl' ho
    intro A' Q' E' s' k q
    unfold isType loadHead
    exact wpAny_bind (wpAny_loadPart (k _ _ (X _ _ ho)) (wpAny_pure q))
  . cases hcD
 ne := fun h tp dd its n sl X htp => by
  obtain ⟨cdD, hcD⟩ := xp e.mo
  refine Bool.eq_false_iff.mpr fun q => ?_
  have e : C = tp := Value.ref.inj (beq_iff_eq.mp q)
  subst e
  unfold PySem.W.clsIn at hcD
  split at hcD
  . rename_i c' d' cd' sl' ho
    have z := (X _ _ ho).symm.trans htp
    cases z
  . cases hcD
 ca := fun X p k => PySem.W.xk X (fun _ => Ol p) e.mb e.mo e.cl e.ga e.gt k
def ClV (c : V) (cv : Value) : Prop := (∃ D, c = .ref D /\ cv = .ref D) \/ ∃ n, c = .ty n /\ cv = .type n
theorem ClV.own {D : Addr} : ClV (.ref D) (.ref D) := .inl ⟨D, rfl, rfl⟩
theorem ClV.blt {n : String} : ClV (.ty n) (.type n) := .inr ⟨n, rfl, rfl⟩
def Lu (K : PySem.W.Frag) : List V -> Hp -> VK -> Prop := fun vs H Q => ∃ (ea C : Addr) (cls : Value) (c : V) (cv : Value) (b : Bool), vs = [.ref ea, c] /\ H ea = some (ErrO ea cls) /\ rc cls = .ref C /\ ErrK K C /\ ClV c cv /\ PySem.W.kitOne K (.ref C) cv = some b /\ Q (.bl b) H
section
variable {X : Cx} {K : PySem.W.Frag}
theorem isiE (hK : X.K = K) : Xb X (.builtin "isinstance") (Lu K) := by
 subst hK
 intro pins s σ H xs us Q I r h
 obtain ⟨ea, C, cls, c, cv, b, rfl, hH, hrc, e, hc, hk, q⟩ := h
 obtain ⟨u, v, rfl, ru, rc⟩ := vals2 r
 cases ru
 have hv : v = cv := by
  rcases hc with ⟨D, rfl, rfl⟩ | ⟨n, rfl, rfl⟩
  . exact rc
  . exact rc
 subst hv
 obtain ⟨⟨oe, p1, p2, _⟩, _, _⟩ := (show Ob X.prog X.w H s.heap ea (ErrO ea cls) from I.hok ea _ hH)
 have p : ∃ o, s.heap.get? ea = some o /\ o.cls = .ref C := ⟨oe, p1, p2.trans hrc⟩
 exact PySem.W.kia_one (Jr e) I.kIn p hk (fun z => nomatch z) fun tk => ⟨.bl b, H, I.tok _, rfl, q⟩
theorem Il {x : Str} {C : Addr} {pos : Pos} (hg : Gl X x) (hm : X.mg x = some (.ref C)) (hd : (x == ("__debug__" : Str)) = false := by decide) : PE X (.Name x pos) (tC (.ref C)) :=
 fun _ _ _ H _ I h => Te I hg hm ⟨.ref C, H, I, rfl, h⟩ hd
end
theorem Fi : bootBuiltins "ValueError" = some (.type "ValueError") := by decide +kernel
section
variable {tb : (St -> XK) -> TS} {th : TH} {n b c : St -> Hp -> Prop} {r : VK} {σ : St} {H : Hp} {Q : VK} {tA : TA} {sp : Sp} {E : St -> XK} {C : Addr} {D : Ends} {K : PySem.W.Frag} {cv cls : Value} {i : Nat} {t : TS} {ea : Addr}
theorem r_try (h : tb (fun σ1 cls oa H1 => ∃ ea, oa = some ea /\ th ⟨n, r, b, c⟩ ea cls σ1 H1) ⟨n, r, b, c⟩ σ H) : tTry tb th ⟨n, r, b, c⟩ σ H := h
theorem r_clE (h : tA σ H fun vs H1 => sp vs H1 Q (E σ)) : tClE sp E tA σ H Q := h
theorem xu (h : tA σ H fun vs H1 => vs.length <= sizeLine /\ ∀ ea, H1 ea = none -> E σ (.ref C) (some ea) H1) : Hs C E tA D σ H := h
theorem r_as (hb : PySem.W.exmOne K (rc cls) cv = some true) (h : t ⟨fun σ H => n (σ.set i none) H, r, fun σ H => b (σ.set i none) H, fun σ H => c (σ.set i none) H⟩ (σ.set i (some (.ref ea))) (upd H ea (ErrO ea cls))) : hAs K cv i t th ⟨n, r, b, c⟩ ea cls σ H :=
 ⟨true, hb, by rw [if_pos rfl]; exact h⟩
theorem Sb {x : V} {k : Bool} (h1 : H ea = some (ErrO ea (.ref C))) (e : ErrK K C) (hc : ClV x cv) (hk : PySem.W.kitOne K (.ref C) cv = some k) (h : Q (.bl k) H) : Lu K [.ref ea, x] H Q := ⟨ea, C, _, x, cv, k, rfl, h1, rfl, e, hc, hk, h⟩
theorem aj {x : V} {k : Bool} {dx : Addr} (h1 : H ea = some (ErrO ea (.int C dx))) (e : ErrK K C) (hc : ClV x cv) (hk : PySem.W.kitOne K (.ref C) cv = some k) (h : Q (.bl k) H) : Lu K [.ref ea, x] H Q := ⟨ea, C, _, x, cv, k, rfl, h1, rfl, e, hc, hk, h⟩
end
end L2
namespace PySem.W
open PySem PySem.Spec PySem.Calls PyProof.Rows Builtin Builtin.ObjectAttr
section
variable {prog : Program} {w : World} {A : Around} {E : Value -> Shared -> Prop} {h : Heap} {g : Array GenState} {d : Drawn} {t : Nat} {os : OsState} {K : Frag} {x C : Addr} {o : Obj} {name : Str} {v : Value} {bl : List Value}
def Ut (h : Heap) (x : Addr) (o : Obj) (name : Str) (v : Value) (h' : Heap) (dx : Addr) : Prop :=
 h.get? dx = none /\ dx ≠ x /\ h'.get? x = some { cls := o.cls, dict := some dx, data := o.data, slots := o.slots } /\ h'.Ns1 dx (fun y => if y = name then some v else none) /\ ∀ b ob, b ≠ x -> h.get? b = some ob -> h'.get? b = some ob
theorem nj {tk : Tok} {Q : Fin -> Shared -> Prop} (X : K.In h) (hx : h.get? x = some o) (hc : o.cls = .ref C) (hdn : o.dict = none) (hnc : ∀ c, o.data ≠ .cls c) (hm : Looks (model prog w) h (mroOf (.ref C)) bl)
 (hp : refuseLoop (.ref x) "__setattr__" bl = pure ()) (hf : findIn K (.ref C) name = some none) {oC : Obj} {cd : ClassData} (hC : h.get? C = some oC) (hCd : oC.data = .cls cd) (hCh : cd.hasDict = true) (hq : ∀ h' dx tk', Ut h x o name v h' dx -> Q (.done (.ret .none)) ⟨h', g, d, tk', os⟩) :
 wpAny (model prog w) A (Builtin.«object.__setattr__» ⟨[.ref x, .str name tk, v], []⟩) Q E ⟨h, g, d, t, os⟩ := by
 have L1 := looks_findIn (M := model prog w) X hf
 unfold Builtin.«object.__setattr__»
 repeat (first | rw [refuse_eq] | rw [hp] | (with_reducible refine wpAny_loadPart_at hx ?_; rw [hc]) | with_reducible refine hm.at ?_ | with_reducible refine L1.at ?_ | wp_step)
 rw [hCd]
 refine wpAny_pure ?_
 rw [hCh, hdn, if_neg (show ¬ ((!true) = true) by decide)]
 dsimp only
 rw [if_neg (show ¬ ((!true || !typeHasDict (Value.ref C)) = true) from Bool.false_ne_true)]
 have hx1 : (h.push { cls := .type "dict", data := .dict #[] }).get? x = some o := Heap.get?_push_of_some _ hx
 have hxs : x ≠ h.objs.size := Nat.ne_of_lt (Heap.lt_size hx)
 split
 . rename_i c hcd
   exact absurd hcd (hnc c)
 refine wpAny_bind (wpAny_alloc' (wpAny_bind (wpAny_update' hx1 (wpAny_bind (wpAny_pure (wpAny_pure ?_))))))
 have hfr := (Heap.get?_some_iff.mp hx).2
 have gx : ((h.push { cls := .type "dict", data := .dict #[] }).update x fun o => { cls := o.cls, dict := some h.objs.size, data := o.data, slots := o.slots }).get? x = some { cls := o.cls, dict := some h.objs.size, data := o.data, slots := o.slots } := Heap.get?_update_self _ hx1 (by
  obtain ⟨oc, od, odt, osl⟩ := o
  cases odt <;> first | rfl | exact hfr)
 have gd : ((h.push { cls := .type "dict", data := .dict #[] }).update x fun o => { cls := o.cls, dict := some h.objs.size, data := o.data, slots := o.slots }).get? h.objs.size = some { cls := .type "dict", data := .dict #[] } :=
  (Heap.get?_update_other _ _ hxs).trans (Heap.get?_push_at rfl rfl)
 have nd : ((h.push { cls := .type "dict", data := .dict #[] }).update x fun o => { cls := o.cls, dict := some h.objs.size, data := o.data, slots := o.slots }).Ns h.objs.size (fun _ => none) :=
  ⟨_, #[], _, gd, rfl, fun e he => absurd he (by simp), fun _ => rfl⟩
 have kp : ∀ b ob, b ≠ x -> h.get? b = some ob -> ((h.push { cls := .type "dict", data := .dict #[] }).update x fun o => { cls := o.cls, dict := some h.objs.size, data := o.data, slots := o.slots }).get? b = some ob := fun b ob hb q =>
  (Heap.get?_update_other _ _ (Ne.symm hb)).trans (Heap.get?_push_of_some _ q)
 generalize (h.push { cls := .type "dict", data := .dict #[] }).update x (fun o => { cls := o.cls, dict := some h.objs.size, data := o.data, slots := o.slots }) = h2 at gx gd nd kp ⊢
 show wpAny _ _ (storeInDict h.objs.size (.str name tk) name v) _ _ _
 unfold storeInDict newKeyGuard
 refine wpAny_bind (wpAny_pure (wpAny_bind (wpAny_nsSet1 (Heap.Ns1.of_empty nd) fun h' hn' hs => ?_)))
 obtain ⟨oD, esD, epD, hoD, hdD, hcD⟩ := hn'.count (Within.cons name v Within.nil)
 refine wpAny_bind (wpAny_lookBehind hoD (by rw [hdD]; exact pastItsLine_dict (Nat.le_trans hcD (by rw [List.length_cons, List.length_nil, sizeLine_eq]; omega))) ?_)
 wp_walk
 exact hq h' h.objs.size _ ⟨Heap.get?_none_of_le (Nat.le_refl _), hxs.symm, (hs.2 x hxs).trans gx, hn', fun b ob hb q => (hs.2 b (Nat.ne_of_lt (Heap.lt_size q))).trans (kp b ob hb q)⟩
theorem oj {nameV : Value} {Q : Unit -> Shared -> Prop} {s : Shared} (X : K.In s.heap) (ty : ∀ M : Model, Looks M s.heap (typeOf (.ref x)) (.ref C)) (hb : mroIn K C (.type "object") = some true) (hq : Q () s) {M : Model} :
 wpAny M A (checkBuiltinCall "object.__setattr__" ⟨[.ref x, nameV, v], []⟩) Q E s := by
 have LI : Looks M s.heap (isInstance (.ref x) (.type "object")) true := (ty M).andThen (looks_mroIn (M := M) X hb)
 have ha := PySem.F.store_object.args (.ref x) nameV v
 simp only [checkBuiltinCall, PySem.F.store_object.kind, PySem.F.store_object.split]
 refine wpAny_bind (LI.at ?_)
 cases hsig : Manifest.signature? "object.__setattr__" with
 | none => exact wpAny_pure hq
 | some sig =>
  simp only [argsOk, hsig] at ha
  have h2 : Bind.checkArgs "object.__setattr__" sig ⟨[.ref x, nameV, v], []⟩ = pure () := ha
  show wpAny M A (Bind.checkArgs "object.__setattr__" sig ⟨[.ref x, nameV, v], []⟩) Q E s
  rw [h2]
  exact wpAny_pure hq
theorem errSet {Q : Unit -> Shared -> Prop} (X : K.In h) (hx : h.get? x = some o) (hc : o.cls = .ref C) (hdn : o.dict = none) (hnc : ∀ c, o.data ≠ .cls c) (hm : Looks (model prog w) h (mroOf (.ref C)) bl)
 (hp : refuseLoop (.ref x) "__setattr__" bl = pure ()) (hf : findIn K (.ref C) name = some none) {oC : Obj} {cd : ClassData} (hC : h.get? C = some oC) (hCd : oC.data = .cls cd) (hCh : cd.hasDict = true)
 (hsa : findIn K (.ref C) "__setattr__" = some (some (.builtin "object.__setattr__"))) (hb : mroIn K C (.type "object") = some true) (hq : ∀ h' dx tk', Ut h x o name v h' dx -> Q () ⟨h', g, d, tk', os⟩) :
 wpAny (model prog w) A (setAttr (.ref x) name v) Q E ⟨h, g, d, t, os⟩ := by
 have L1 := looks_findIn (M := model prog w) X hsa
 have f3 := PySem.F.store_object.slot.bind (.ref x)
 have ty : ∀ M : Model, Looks M h (typeOf (.ref x)) (.ref C) := fun M => hc ▸ (Looks.ld hx).andThen .now
 have L0 := ty (model prog w)
 unfold setAttr callSpecial? specialOf
 repeat (any_goals (first | assumption | with_reducible refine L0.at ?_ | with_reducible refine L1.at ?_ | wp_step))
 refine codeAny_call_builtin PySem.F.store_object.slot.plain PySem.F.store_object.entry (oj (s := ⟨h, g, d, _, os⟩) X ty hb (nj X hx hc hdn hnc hm hp hf hC hCd hCh fun h' dx tk' st => ?_))
 repeat (any_goals (first | assumption | wp_step))
 exact hq h' dx tk' st
end
end PySem.W
namespace PySem.W
open PySem PySem.Spec PySem.Calls PyProof.Rows Builtin Builtin.ObjectAttr
abbrev vErr : List Value := [.type "ValueError", .type "Exception", .type "BaseException", .type "object"]
section
variable {prog : Program} {w : World} {A : Around} {E : Value -> Shared -> Prop} {h : Heap} {g : Array GenState} {d : Drawn} {t : Nat} {os : OsState}
variable {nm q : Str} {C N : Addr} {bs bm : List Value} {hd : Bool} {sn : List Str} {sub : List Value} {ab : Bool} {col : Option Bool} {dd : Option Addr} {k0 k1 k2 k3 k5 : Option Value}
theorem Dv {e t0 : Addr} {v : Value} {R : Result -> Shared -> Prop} (T : OwnTail h vErr bm) (hC : h.get? C = some (excClassObj nm q C N bs bm hd sn sub ab col dd k0 k1 k2 k3 k5 "ValueError.__new__"))
 (he : h.get? e = some { cls := .ref C, data := .fields #[.ref t0, .none, .none, .none, .bool false, .none] })
 (hq : ∀ h', h'.get? e = some { cls := .ref C, data := .fields #[.ref h.objs.size, .none, .none, .none, .bool false, .none] } -> (∀ b o, b ≠ e -> h.get? b = some o -> h'.get? b = some o) -> R (.ok (.ret .none)) ⟨h', g, d, t, os⟩) :
 codeAny (model prog w) A (.call (.builtin "ValueError.__init__") ⟨[.ref e, v], []⟩) R ⟨h, g, d, t, os⟩ := by
 refine codeAny_call_builtin PySem.F.excBase_ValueError.init.plain PySem.F.excBase_ValueError.initEntry (wpAny_check_init_subU PySem.F.excBase_ValueError T hC he rfl ?_)
 wp_walk
 refine hq _ ?_ fun b o hb qb => ?_
 . rw [Heap.get?_update_self _ (Heap.get?_push_of_some _ he) rfl]
   rfl
 . rw [Heap.get?_update_other _ _ (Ne.symm hb)]
   exact Heap.get?_push_of_some _ qb
theorem Sr {mN : Str -> Option Value} {vs : List Value} {fI : Addr} {oI : Obj} {Q : Fin -> Shared -> Prop} (T : OwnTail h vErr bm) (hC : h.get? C = some (excClassObj nm q C N bs bm hd sn sub ab col dd k0 k1 k2 k3 k5 "ValueError.__new__"))
 (hn : h.Ns N mN) (hi : mN "__init__" = some (.ref fI)) (hfI : h.get? fI = some oI) (hfc : oI.cls = .type "function") (hl : vs.length <= sizeLine)
 (hq : ∀ h' e, Heap.MadeExcOf h h' e (.ref C) vs -> wpAny (model prog w) A (call (.ref fI) (.ref e :: vs)) (fun r s' => r = .none /\ Q (.done (.ret (.ref e))) s') E ⟨h', g, d, t, os⟩) :
 wpAny (model prog w) A (Builtin.«type.__call__» ⟨.ref C :: vs, []⟩) Q E ⟨h, g, d, t, os⟩ := by
 have FV := PySem.F.excBase_ValueError
 have hBn : vErr.contains (.type "ValueError") = true := FV.hasB
 repeat (first | with_reducible refine wpAny_loadPart_at hC ?_ | with_reducible refine wpAny_madeBy_exc hC ?_ | wp_step)
 refine codeAny_call_builtin_code (Code.quiet_builtin _ FV.quiet) (wpAny_check_new_subU FV hBn T hC (codeAny_exc_new_subU FV hBn FV T hC ?_ hl))
 show wpAny _ _ _ _ _ _
 have kp : ∀ b o, h.get? b = some o -> ((h.push { cls := .type "tuple", data := .seq vs.toArray }).push { cls := .ref C, data := .fields #[.ref h.objs.size, .none, .none, .none, .bool false, .none] }).get? b = some o :=
  fun b o z => Heap.get?_push_of_some _ (Heap.get?_push_of_some _ z)
 have ge : ((h.push { cls := .type "tuple", data := .seq vs.toArray }).push { cls := .ref C, data := .fields #[.ref h.objs.size, .none, .none, .none, .bool false, .none] }).get? (h.objs.size + 1) = some { cls := .ref C, data := .fields #[.ref h.objs.size, .none, .none, .none, .bool false, .none] } := by heap_get
 have gt : ((h.push { cls := .type "tuple", data := .seq vs.toArray }).push { cls := .ref C, data := .fields #[.ref h.objs.size, .none, .none, .none, .bool false, .none] }).get? h.objs.size = some { cls := .type "tuple", data := .seq vs.toArray } := Heap.get?_push_of_some _ (Heap.get?_push_at rfl rfl)
 have mk : Heap.MadeExcOf h ((h.push { cls := .type "tuple", data := .seq vs.toArray }).push { cls := .ref C, data := .fields #[.ref h.objs.size, .none, .none, .none, .bool false, .none] }) (h.objs.size + 1) (.ref C) vs :=
  ⟨kp, Heap.get?_none_of_le (Nat.le_succ _), h.objs.size, ge, Heap.get?_none_of_le (Nat.le_refl _), gt⟩
 have own : (Value.ref C :: bm).contains (.ref C) = true := by simp
 have C1 := kp _ _ hC
 have f1 := kp _ _ hfI
 have n1 := hn.keeps kp
 have T1 := T.keeps kp
 have go := hq _ _ mk
 generalize (h.push { cls := .type "tuple", data := .seq vs.toArray }).push { cls := .ref C, data := .fields #[.ref h.objs.size, .none, .none, .none, .bool false, .none] } = h1 at ge C1 f1 n1 T1 go ⊢
 unfold isInstance
 repeat (first | with_reducible refine wpAny_loadPart_at ge ?_ | (with_reducible refine wpAny_isSubtype_exc C1 ?_; rw [own]) | wp_step)
 show wpAny _ _ (typeLookup (.ref C) _) _ _ _
 refine wpAny_typeLookup_tail C1 n1 T1 FV.mroIs FV.init.lookup ?_
 rw [hi]
 refine wpAny_holding (wpAny_bind ?_)
 unfold bindSpecial
 refine wpAny_bind (wpAny_typeOf (T := "function") ⟨_, f1, hfc⟩ ?_)
 rw [if_pos (by decide)]
 refine wpAny_pure (wpAny_bind (wpAny_mono go (fun r s' hr => ?_) fun _ _ z => z))
 obtain ⟨rfl, hQ⟩ := hr
 wp_walk
 exact hQ
theorem Cv {mN : Str -> Option Value} {vs : List Value} {fI : Addr} {oI : Obj} {Q : Value -> Shared -> Prop} (T : OwnTail h vErr bm) (hC : h.get? C = some (excClassObj nm q C N bs bm hd sn sub ab col dd k0 k1 k2 k3 k5 "ValueError.__new__"))
 (hn : h.Ns N mN) (hi : mN "__init__" = some (.ref fI)) (hfI : h.get? fI = some oI) (hfc : oI.cls = .type "function") (hl : vs.length <= sizeLine)
 (hq : ∀ h' e, Heap.MadeExcOf h h' e (.ref C) vs -> wpAny (model prog w) (A.under (.builtin "type.__call__" ⟨.ref C :: vs, []⟩)) (call (.ref fI) (.ref e :: vs)) (fun r s' => r = .none /\ Q (.ref e) s') E ⟨h', g, d, t, os⟩) :
 wpAny (model prog w) A (call (.ref C) vs) Q E ⟨h, g, d, t, os⟩ := by
 have f1 := tc_lookup
 have f2 := tc_bind (.ref C)
 have tC : (⟨h, g, d, t, os⟩ : Shared).TypeIs (.ref C) "type" := ⟨_, hC, rfl⟩
 refine wpAny_call (codeAny_of_tree ?_)
 show wpAny _ _ (callAny (.ref C) _) _ _ _
 repeat (any_goals (first | assumption | with_reducible refine wpAny_loadPart_at hC ?_ | wp_step))
 refine ⟨rfl, codeAny_call_builtin_at (Code.quiet_builtin _ (by decide +kernel)) entry_typeCall (wpAny_check_type_call_sub hC (Sr T hC hn hi hfI hfc hl fun h' e mk => ?_))⟩
 exact hq h' e mk
end
end PySem.W
namespace L2
open PySem PySem.Spec PyProof.Rows
def xf (p1 p2 p3 p4 p5 p6 p7 p8 p9 p10 p11 p12 p13 p14 : Pos) : List Stmt := [
 .Expr (.Call (.Attribute (.Name "BallotError" p1) "__init__" p2) [.Name "self" p3, .JoinedStr [.Constant (.str "round ") 0 p4, .FormattedValue (.Name "at" p5) (-1) none p6, .Constant (.str " of the row does not fit") 0 p7] p8] [] p9) p10,
 .Assign [.Attribute (.Name "self" p11) "at" p12] (.Name "at" p13) p14]
def initArgs (pa pb : Pos) : Arguments := { posonlyargs := [], args := [{ arg := "self", annotation := none, pos := pa }, { arg := "at", annotation := none, pos := pb }], vararg := none, kwonlyargs := [], kw_defaults := [], kwarg := none, defaults := [] }
def ue : Scope := { kind := .function, names := [("self", .local), ("at", .local), ("BallotError", .globalImplicit)], isGenerator := false, isCoroutine := false, more := [] }
section
variable {prog : Program} {w : World} {A : Around} {s : Shared} {K : PySem.W.Frag} {mg : Str -> Option Value}
variable {nm q : Str} {C N C0 e t0 fI : Addr} {bs bm bl : List Value} {hd : Bool} {sn : List Str} {sub : List Value} {ab : Bool} {col : Option Bool} {dd : Option Addr} {k0 k1 k2 k3 k5 : Option Value}
variable {p1 p2 p3 p4 p5 p6 p7 p8 p9 p10 p11 p12 p13 p14 pa pb : Pos} {qual name : Str} {kV doc pm cdv ct oc : Value} {an od : Option Addr} {osl : Array (Option Value)} {k : Int} {tk : Tok}
theorem Kr {env : Env} {m : Str -> Option Value} {E : Value -> Shared -> Prop} {Q : Flow -> Shared -> Prop} (hk0 : env.scope.kind = .function) (e1 : env.kindOf "self" = some .local) (e2 : env.kindOf "at" = some .local) (e3 : env.kindOf "BallotError" = some .globalImplicit) (eg : env.globals = mainGlobals)
 (ns : s.heap.Ns env.locals m) (m1 : m "self" = some (.ref e)) (m2 : m "at" = some (.int k tk)) (X : K.In s.heap) (G : s.heap.Ns mainGlobals mg) (hm : mg "BallotError" = some (.ref C0)) (hline : (p2.endLine == p9.line) = true)
 (r0 : PySem.W.readsIn K C0 (.type "type") = true) (fc : PySem.W.findCls K (.ref C0) (.type "type") "__init__" = some (.val (.builtin "ValueError.__init__"))) (sg : PySem.W.specialIn K (.ref C0) "__getattribute__" = some (some (.builtin "type.__getattribute__")))
 (T : OwnTail s.heap PySem.W.vErr bm) (hC : s.heap.get? C = some (excClassObj nm q C N bs bm true sn sub ab col dd k0 k1 k2 k3 k5 "ValueError.__new__")) (he : s.heap.get? e = some { cls := .ref C, data := .fields #[.ref t0, .none, .none, .none, .bool false, .none] })
 (hmro : ∀ h, K.In h -> PySem.W.Looks (model prog w) h (mroOf (.ref C)) bl) (hp : refuseLoop (.ref e) "__setattr__" bl = pure ()) (hf : PySem.W.findIn K (.ref C) "at" = some none) (hsa : PySem.W.findIn K (.ref C) "__setattr__" = some (some (.builtin "object.__setattr__"))) (hb : PySem.W.mroIn K C (.type "object") = some true)
 (hKe : K.lookup e = none) (hk : 0 <= k /\ k < 200) (heC : e ≠ C) (hel : e ≠ env.locals)
 (hq : ∀ h' dx t1 tk', h'.get? e = some { cls := .ref C, dict := some dx, data := .fields #[.ref t1, .none, .none, .none, .bool false, .none] } -> h'.Ns1 dx (fun y => if y = "at" then some (.int k tk) else none) -> (∀ b o, b ≠ e -> s.heap.get? b = some o -> h'.get? b = some o) -> s.heap.get? dx = none -> dx ≠ e -> Q .next { s with heap := h', toks := tk' }) :
 wpAny (model prog w) A (execs (xf p1 p2 p3 p4 p5 p6 p7 p8 p9 p10 p11 p12 p13 p14) env) Q E s := by
 have hi : interactive env = false := by simp [interactive, hk0]
 refine wpAny_execs_cons (wpAny_Expr_any ?_ hi rfl)
 rw [show eval (.Call (.Attribute (.Name "BallotError" p1) "__init__" p2) [.Name "self" p3, .JoinedStr [.Constant (.str "round ") 0 p4, .FormattedValue (.Name "at" p5) (-1) none p6, .Constant (.str " of the row does not fit") 0 p7] p8] [] p9) env = (do
  let ov <- eval (.Name "BallotError" p1) env
  standAt p2.atName
  methodCall (.Name "BallotError" p1) "__init__" p2 p9 env ov 2 (backTo p9 (starEach [.Name "self" p3, .JoinedStr [.Constant (.str "round ") 0 p4, .FormattedValue (.Name "at" p5) (-1) none p6, .Constant (.str " of the row does not fit") 0 p7] p8] env)) (backToKw p9 (keywordEach [] env))) from rfl]
 refine wpAny_bind (Calls.Name_function_global hk0 e3 (Calls.loadGlobal_global (mg := mg) (by rw [eg]; exact G) hm (wpAny_bind (wpAny_standAt ?_))) (by decide))
 unfold methodCall
 refine wpAny_bind (wpAny_holding ?_)
 rw [show methodCallForm 2 (backTo p9 (starEach [.Name "self" p3, .JoinedStr [.Constant (.str "round ") 0 p4, .FormattedValue (.Name "at" p5) (-1) none p6, .Constant (.str " of the row does not fit") 0 p7] p8] env)) (backToKw p9 (keywordEach [] env)) = true from rfl]
 unfold calleeOf
 rw [if_pos rfl]
 refine PySem.W.method_cls X sg (PySem.W.cls_value X r0 fc rfl ?_)
 dsimp only
 unfold methodCallPos
 rw [hline, if_pos (show ((!true || true) = true) from rfl)]
 refine wpAny_bind (wpAny_pure ?_)
 refine Calls.callWith_builtin rfl (Calls.evalArgs_plain ?_)
 have ld : ∀ {x : Str} {v : Value} {p : Pos} {h : Heap} {t : Nat} {Q' : Value -> Shared -> Prop}, h.Ns env.locals m -> env.kindOf x = some .local -> m x = some v -> (x == ("__debug__" : Str)) = false -> Q' v { s with heap := h, toks := t } -> wpAny (model prog w) A (eval (.Name x p) env) Q' E { s with heap := h, toks := t } := fun a b c d q => wpAny_Name (wpAny_loadName_local hk0 b a c q) d
 obtain ⟨j, rfl, hj⟩ : ∃ j : Nat, k = j /\ j < 200 := ⟨k.toNat, by omega, by omega⟩
 have lg : ((j : Int).natAbs.log2) < 1920 := by
  have : ∀ j : Fin 200, ((j.1 : Int).natAbs.log2) < 1920 := by decide +kernel
  exact this ⟨j, hj⟩
 have tl : (Str.ofString (toString (j : Int))).length <= 3 := by
  have : ∀ j : Fin 200, (Str.ofString (toString (j.1 : Int))).length <= 3 := by decide +kernel
  exact this ⟨j, hj⟩
 refine Calls.spliced_cons (ld ns e1 m1 (by decide) (Calls.spliced_cons (wpAny_JoinedStr (pos := p8) ?_)))
 refine Calls.Constant_str ⟨_, _, rfl, by decide +kernel, ?_⟩
 refine wpAny_FormattedValue_plain (ld ns e2 m2 (by decide) (wpAny_formatField_int lg ⟨_, _, rfl, ?_, ?_⟩))
 . rw [strLen_append]
   have : (Str.empty ++ Str.ofString "round ").length = 6 := by decide +kernel
   rw [this, sizeLine_eq]
   omega
 refine Calls.Constant_str ⟨_, _, rfl, ?_, ?_, Calls.spliced_nil ?_⟩
 . rw [strLen_append, strLen_append]
   have : (Str.empty ++ Str.ofString "round ").length = 6 := by decide +kernel
   have : (Str.ofString " of the row does not fit").length = 24 := by decide +kernel
   rw [sizeLine_eq]
   omega
 . rw [strLen_append, strLen_append]
   have : (Str.empty ++ Str.ofString "round ").length = 6 := by decide +kernel
   have : (Str.ofString " of the row does not fit").length = 24 := by decide +kernel
   rw [sizeLine_eq]
   omega
 refine wpAny_call (PySem.W.Dv T hC he fun h' he2 kp2 => ?_)
 have X2 : K.In h' := fun b o z => kp2 b o (fun y => by rw [y, hKe] at z; cases z) (X b o z)
 have C2 := kp2 _ _ heC.symm hC
 have n2 : h'.Ns env.locals m := by
  obtain ⟨o, es, ep, ho, r⟩ := ns
  exact ⟨o, es, ep, kp2 _ _ hel.symm ho, r⟩
 show wpAny _ _ _ _ _ _
 refine wpAny_execs_cons (plainObj_wpAny_Assign_Attribute (ld n2 e2 m2 (by decide) (ld n2 e1 m1 (by decide) ?_)) rfl)
 refine PySem.W.errSet X2 he2 rfl rfl (fun c z => by cases z) (hmro _ X2) hp hf C2 rfl rfl hsa hb fun h3 dx tk3 st => ?_
 obtain ⟨s1, s2, s3, s4, s5⟩ := st
 refine wpAny_execs_nil (hq h3 dx s.heap.objs.size tk3 s3 s4 (fun b o hb z => s5 b o hb (kp2 b o hb z)) ?_ s2)
 cases z : s.heap.get? dx with
 | none => rfl
 | some o =>
  have := kp2 dx o s2 z
  rw [s1] at this
  cases this
theorem uv {R : Result -> Shared -> Prop} (X : K.In s.heap) (G : s.heap.Ns mainGlobals mg) (hm : mg "BallotError" = some (.ref C0)) (hroom : A.depth < recursionLimit) (hlim : s.heap.NoLimit) (hcd : s.heap.CodeRec cdv qual)
 (lk : s.heap.get? fI = some ⟨oc, od, .func (PySem.W.fnOf name qual (initArgs pa pb) (xf p1 p2 p3 p4 p5 p6 p7 p8 p9 p10 p11 p12 p13 p14) ue .none kV doc pm an cdv ct), osl⟩) (hline : (p2.endLine == p9.line) = true)
 (r0 : PySem.W.readsIn K C0 (.type "type") = true) (fc : PySem.W.findCls K (.ref C0) (.type "type") "__init__" = some (.val (.builtin "ValueError.__init__"))) (sg : PySem.W.specialIn K (.ref C0) "__getattribute__" = some (some (.builtin "type.__getattribute__")))
 (T : OwnTail s.heap PySem.W.vErr bm) (hC : s.heap.get? C = some (excClassObj nm q C N bs bm true sn sub ab col dd k0 k1 k2 k3 k5 "ValueError.__new__")) (he : s.heap.get? e = some { cls := .ref C, data := .fields #[.ref t0, .none, .none, .none, .bool false, .none] })
 (hmro : ∀ h, K.In h -> PySem.W.Looks (model prog w) h (mroOf (.ref C)) bl) (hp : refuseLoop (.ref e) "__setattr__" bl = pure ()) (hf : PySem.W.findIn K (.ref C) "at" = some none) (hsa : PySem.W.findIn K (.ref C) "__setattr__" = some (some (.builtin "object.__setattr__"))) (hb : PySem.W.mroIn K C (.type "object") = some true)
 (hKe : K.lookup e = none) (hk : 0 <= k /\ k < 200)
 (hq : ∀ h' dx t1 tk', h'.get? e = some { cls := .ref C, dict := some dx, data := .fields #[.ref t1, .none, .none, .none, .bool false, .none] } -> h'.Ns1 dx (fun y => if y = "at" then some (.int k tk) else none) -> (∀ b o, b ≠ e -> s.heap.get? b = some o -> h'.get? b = some o) -> s.heap.get? dx = none -> dx ≠ e -> R (.ok (.ret .none)) { s with heap := h', toks := tk' }) :
 codeAny (model prog w) A (.call (.ref fI) ⟨[.ref e, .int k tk], []⟩) R s := by
 refine codeAny_call_straight (binds := [("self", .ref e), ("at", .int k tk)]) hroom lk rfl hlim hcd rfl rfl (by show ∀ x ∈ ue.names, x.2 ≠ NameKind.cell; decide) (by intro y hy; rcases List.mem_cons.mp hy with rfl | hy; rfl; rcases List.mem_cons.mp hy with rfl | hy; rfl; cases hy) fun s1 ic => ?_
 obtain ⟨h1, tk1, rfl⟩ := ic.same
 have heC : e ≠ C := fun z => by
  subst z
  rw [he] at hC
  cases hC
 refine Kr (s := { s with heap := h1, toks := tk1 }) rfl rfl rfl rfl rfl ic.ns rfl rfl (X.keeps ic.keep) (G.keeps ic.keep) hm hline r0 fc sg (T.keeps ic.keep) (ic.keep _ _ hC) (ic.keep _ _ he) hmro hp hf hsa hb hKe hk heC (Nat.ne_of_lt (Heap.lt_size he)) fun h' dx t1 tk' a b c d' f => ?_
 refine hq h' dx t1 tk' a b (fun b o hb z => c b o hb (ic.keep b o z)) ?_ f
 cases z : s.heap.get? dx with
 | none => rfl
 | some o =>
  have := ic.keep dx o z
  rw [d'] at this
  cases this
end
end L2
namespace PySem.W
open PySem PySem.Spec PySem.Calls PyProof.Rows
section
variable {M : Model} {A : Around} {E : Value -> Shared -> Prop} {s : Shared} {env : Env}
variable {nm q : Str} {C N : Addr} {bs bm : List Value} {hd : Bool} {sn : List Str} {sub : List Value} {ab : Bool} {col : Option Bool} {dd : Option Addr} {k0 k1 k2 k3 k5 : Option Value}
theorem Rr {x : Sem Value} {Q : Flow -> Shared -> Prop} (hbase : bm.contains (.type "BaseException") = true) (hh : A.handled = none)
 (h : wpAny M A x (fun v s₁ => ∃ e t dx, v = .ref e /\ s₁.heap.get? C = some (excClassObj nm q C N bs bm hd sn sub ab col dd k0 k1 k2 k3 k5 "ValueError.__new__") /\
   s₁.heap.get? e = some { cls := .ref C, dict := some dx, data := .fields #[.ref t, .none, .none, .none, .bool false, .none] } /\ E (.ref e) s₁) E s) : wpAny M A (raiseStmt env (some x) none) Q E s := by
 have cB : (Value.ref C :: bm).contains (.type "BaseException") = true := by rw [List.contains_cons, hbase, Bool.or_true]
 unfold raiseStmt
 refine wpAny_bind (wpAny_mono h (fun v s₁ z => ?_) fun _ _ z => z)
 obtain ⟨e, t, dx, rfl, hC, he, hE⟩ := z
 obtain ⟨hp, g, d, tk, os⟩ := s₁
 repeat (first | with_reducible refine wpAny_loadPart_at he ?_ | with_reducible refine wpAny_loadPart_at hC ?_ | (with_reducible refine wpAny_isSubtype_exc hC ?_; rw [cB]) | wp_step)
 exact wpAny_raiseNew_none hh hE
end
end PySem.W
namespace L2
open PySem PySem.Spec PyProof.Rows
theorem fv {K : PySem.W.Frag} {h : Heap} {N : Addr} {m : Str -> Option Value} {x : Str} {v : Value} (X : K.In h) (G : h.Ns N m) (e : PySem.W.nsIn K N x = some (some v)) : m x = some v := by
 obtain ⟨o, es, ep, ho, hd, _, hf⟩ := G
 unfold PySem.W.nsIn at e
 split at e
 . rename_i c d es' n' sl q
   have z := X _ _ q
   rw [ho] at z
   cases z
   cases hd
   split at e
   . rename_i en hen
     cases e
     rw [<- hf]
     unfold nsFind findBy
     rw [<- Array.find?_toList, hen]
     rfl
   . split at e <;> cases e
 . cases e
structure Nm (K : PySem.W.Frag) (C C0 : Addr) : Prop where
 ex : ∃ (N fI : Addr) (nm q : Str) (bs : List Value) (sn : List Str) (sub : List Value) (ab : Bool) (col : Option Bool) (dd : Option Addr) (k0 k1 k2 k3 k5 : Option Value)
  (p1 p2 p3 p4 p5 p6 p7 p8 p9 p10 p11 p12 p13 p14 pa pb : Pos) (qual : Str) (kV doc pm cdv ct : Value) (an od : Option Addr) (osl : Array (Option Value)) (oC oF : Obj),
  K.lookup C = some oC /\ oC = (excClassObj nm q C N bs (.ref C0 :: PySem.W.vErr) true sn sub ab col dd k0 k1 k2 k3 k5 "ValueError.__new__") /\ PySem.W.keepIn K (.ref C) = true /\ PySem.W.nsOkIn K N = true /\ PySem.W.nsIn K N "__init__" = some (some (.ref fI)) /\
  K.lookup fI = some oF /\ oF = ⟨.type "function", od, .func (PySem.W.fnOf "__init__" qual (initArgs pa pb) (xf p1 p2 p3 p4 p5 p6 p7 p8 p9 p10 p11 p12 p13 p14) ue .none kV doc pm an cdv ct), osl⟩ /\ PySem.W.codeIn K cdv qual = true /\ (p2.endLine == p9.line) = true /\
  PySem.W.excIn K C0 PySem.W.vErr "ValueError.__new__" = true /\ PySem.W.readsIn K C0 (.type "type") = true /\ PySem.W.findCls K (.ref C0) (.type "type") "__init__" = some (.val (.builtin "ValueError.__init__")) /\
  PySem.W.specialIn K (.ref C0) "__getattribute__" = some (some (.builtin "type.__getattribute__")) /\ PySem.W.findIn K (.ref C) "at" = some none /\ PySem.W.findIn K (.ref C) "__setattr__" = some (some (.builtin "object.__setattr__")) /\ PySem.W.mroIn K C (.type "object") = some true
theorem Nm.of {K : PySem.W.Frag} {C C0 : Addr} {N fI : Addr} {nm q : Str} {bs : List Value} {sn : List Str} {sub : List Value} {ab : Bool} {col : Option Bool} {dd : Option Addr} {k0 k1 k2 k3 k5 : Option Value} {p1 p2 p3 p4 p5 p6 p7 p8 p9 p10 p11 p12 p13 p14 pa pb : Pos} {qual : Str} {kV doc pm cdv ct : Value} {an od : Option Addr} {osl : Array (Option Value)} {oC oF : Obj} (h0 : K.lookup C = some oC) (h1 : oC = (excClassObj nm q C N bs (.ref C0 :: PySem.W.vErr) true sn sub ab col dd k0 k1 k2 k3 k5 "ValueError.__new__")) (h2 : PySem.W.keepIn K (.ref C) = true) (h3 : PySem.W.nsOkIn K N = true) (h4 : PySem.W.nsIn K N "__init__" = some (some (.ref fI))) (h5 : K.lookup fI = some oF) (h6 : oF = ⟨.type "function", od, .func (PySem.W.fnOf "__init__" qual (initArgs pa pb) (xf p1 p2 p3 p4 p5 p6 p7 p8 p9 p10 p11 p12 p13 p14) ue .none kV doc pm an cdv ct), osl⟩) (h7 : PySem.W.codeIn K cdv qual = true) (h8 : (p2.endLine == p9.line) = true) (h9 : PySem.W.excIn K C0 PySem.W.vErr "ValueError.__new__" = true) (h10 : PySem.W.readsIn K C0 (.type "type") = true) (h11 : PySem.W.findCls K (.ref C0) (.type "type") "__init__" = some (.val (.builtin "ValueError.__init__"))) (h12 : PySem.W.specialIn K (.ref C0) "__getattribute__" = some (some (.builtin "type.__getattribute__"))) (h13 : PySem.W.findIn K (.ref C) "at" = some none) (h14 : PySem.W.findIn K (.ref C) "__setattr__" = some (some (.builtin "object.__setattr__"))) (h15 : PySem.W.mroIn K C (.type "object") = some true) : Nm K C C0 :=
 ⟨⟨_, _, _, _, _, _, _, _, _, _, _, _, _, _, _, _, _, _, _, _, _, _, _, _, _, _, _, _, _, _, _, _, _, _, _, _, _, _, _, _, _, _, h0, h1, h2, h3, h4, h5, h6, h7, h8, h9, h10, h11, h12, h13, h14, h15⟩⟩
theorem Rk {K : PySem.W.Frag} {h : Heap} {C0 : Addr} (X : K.In h) (hq : PySem.W.excIn K C0 PySem.W.vErr "ValueError.__new__" = true) : OwnTail h PySem.W.vErr (.ref C0 :: PySem.W.vErr) := by
 have q := hq
 unfold PySem.W.excIn at q
 split at q
 . rename_i dd cd sl ho
   split at q
   . simp only [Bool.and_eq_true, beq_iff_eq, Bool.not_eq_true'] at q
     obtain ⟨⟨⟨⟨⟨_, _⟩, _⟩, _⟩, hok⟩, hni⟩ := q
     exact .own (X _ _ ho) (.of_isNs (PySem.W.isNs_of_in X hok)) (PySem.W.nsMap_none_of_in X hok hni) .base
   . cases q
 . cases q
def Ym (C : Addr) (E : St -> XK) (t : TA) : TS := fun _ σ H => t σ H fun vs H1 => ∃ k : Int, vs = [.int k] /\ 0 <= k /\ k < 200 /\ ∀ ea dx, H1 ea = none -> H1 dx = none -> ea ≠ dx -> E σ (.int C dx) (some ea) (upd H1 dx (.xd [("at", .int k)]))
theorem Ho {X : Cx} {E : St -> XK} {x : Str} {C : Addr} {a : Expr} {t : TA} {np cpos pos : Pos} {n : Nat} (hR : Raises X E) (hc : X.calm = true) (hr : Room n X.A) (hg : Gl X x) (hm : X.mg x = some (.ref C)) {C0 : Addr} (D : Nm X.K C C0) (hm0 : X.mg "BallotError" = some (.ref C0)) (ha : PA X [a] t)
 (hd : (x == ("__debug__" : Str)) = false := by decide) (he : starEach [a] X.env = (false, eval a X.env) :: starEach [] X.env := by first | rfl | with_unfolding_all rfl) :
 PS X (.Raise (some (.Call (.Name x np) [a] [] cpos)) none pos) (Ym C E t) := by
 intro pins s σ H D0 I h
 obtain ⟨N, fI, nm, q, bs, sn, sub, ab, col, dd, k0, k1, k2, k3, k5, p1, p2, p3, p4, p5, p6, p7, p8, p9, p10, p11, p12, p13, p14, pa, pb, qual, kV, doc, pm, cdv, ct, an, od, osl, oC, oF, lC, eC, kp, nsk, nsi, lf, eF, hcd, hline, x0, r0, fc, sg, fa, fs, mo⟩ := D.ex
 subst eC eF
 rw [arm_exec_Raise]
 refine wpAny_bind (wpAny_standAt (PySem.W.Rr (C := C) (nm := nm) (q := q) (N := N) (bs := bs) (bm := .ref C0 :: PySem.W.vErr) (hd := true) (sn := sn) (sub := sub) (ab := ab) (col := col) (dd := dd) (k0 := k0) (k1 := k1) (k2 := k2) (k3 := k3) (k5 := k5) (by rw [List.contains_cons]; rfl) (I.ok.hd hc) ?_))
 refine wpAny_bind (wpAny_Call_Name_kw (Te I hg hm ?_ hd))
 refine PySem.W.callWith_K (h₀ := X.base) I.ok.mod.kin kp (thn (ha cpos pins s σ H _ I h) fun us s1 ⟨vs, H1, I1, r, hv⟩ => ⟨I1.kIn, ?_⟩) he rfl
 obtain ⟨k, rfl, hk0, hk1, hE⟩ := hv
 obtain ⟨u, rfl, ru⟩ := vals1 r
 obtain ⟨tk, rfl⟩ := ru
 have KX := I1.kIn
 have nsN : s1.heap.Ns N _ := .of_isNs (PySem.W.isNs_of_in KX nsk)
 obtain ⟨hp1, g1, d1, t1, os1⟩ := s1
 refine PySem.W.Cv (Rk KX x0) (KX _ _ lC) nsN (fv KX nsN nsi) (KX _ _ lf) rfl (by show (1 : Nat) <= sizeLine; rw [sizeLine_eq]; decide) fun h' e mk => ?_
 obtain ⟨t0, he0, _, _⟩ := mk.there
 have KX' : X.K.In h' := KX.keeps mk.keeps
 refine wpAny_call (uv (s := ⟨h', g1, d1, t1, os1⟩) (K := X.K) (mg := X.mg) KX' (I1.mod.glob.keeps fun b o z => mk.keeps _ _ (I1.bk b o z)) hm0 ?_ ?_ (PySem.W.codeRec_of KX' hcd) (KX' _ _ lf) hline r0 fc sg (Rk KX' x0) (KX' _ _ lC) he0 (bl := .ref C :: .ref C0 :: PySem.W.vErr) ?_ ?_ fa fs mo ?_ ⟨hk0, hk1⟩ ?_)
 . rw [Dm]
   have := hr.dp
   omega
 . exact I1.mod.nolimit.keeps fun b o z => mk.keeps _ _ (I1.bk b o z)
 . intro h2 X2 A' Q' E' s' kk qq
   obtain ⟨hp2, g2, d2, t2, os2⟩ := s'
   exact wpAny_mroOf_exc (kk _ _ (X2 _ _ lC)) qq
 . rw [refuseLoop_ref, refuseLoop_ref]
   exact PySem.F.store_ValueError.passes _
 . cases z : X.K.lookup e with
   | none => rfl
   | some o =>
    have z2 := KX _ _ z
    have z3 := mk.new
    rw [show hp1.get? e = _ from z2] at z3
    cases z3
 . intro h3 dx t2 tk' e1 e2 e3 e4 e5
   have hne : ∀ b o, hp1.get? b = some o -> b ≠ e := fun b o z y => by
    rw [y] at z
    have z3 := mk.new
    rw [z] at z3
    cases z3
   have up1 : ∀ b o, hp1.get? b = some o -> h3.get? b = some o := fun b o z => e3 b o (hne b o z) (mk.keeps b o z)
   have dn : hp1.get? dx = none := by
    cases z : hp1.get? dx with
    | none => rfl
    | some o =>
     have z2 : h'.get? dx = some o := mk.keeps dx o z
     have z3 : h'.get? dx = none := e4
     rw [z2] at z3
     cases z3
   have trk : ∀ b, hp1.get? b = none -> H1 b = none := fun b z => by
    cases y : H1 b with
    | none => rfl
    | some u =>
     obtain ⟨o, z2⟩ := I1.hok.in y
     have z3 : hp1.get? b = some o := z2
     rw [z] at z3
     cases z3
   have He := trk e mk.new
   have Hd := trk dx dn
   have hok2 : HOk X.prog X.w (upd H1 dx (.xd [("at", .int k)])) h3 := by
    refine (I1.hok.kept up1).Yl Hd ⟨_, e2, fun f => ?_⟩
    by_cases hf : f = "at"
    . subst hf
      exact ⟨tk, rfl⟩
    . rw [if_neg hf, List.lookup_cons, show (f == ("at" : Str)) = false from by simpa using hf]
      trivial
   refine ⟨rfl, wpAny_bind (wpAny_standAt (wpAny_pure ⟨e, t2, dx, rfl, e3 _ _ (hne _ _ (KX _ _ lC)) (KX' _ _ lC), e1, ?_⟩))⟩
   . exact hR pins σ H1 (upd H1 dx (.xd [("at", .int k)])) ⟨hp1, g1, d1, t1, os1⟩ h3 tk' e (.int C dx) (.ref t2) _ _ I1 up1 mk.new e1 rfl rfl rfl rfl (fun dx' z => by cases z; rfl) hok2 (fun b u z => by rw [Aa (da z Hd)]; exact z)
      (fun b u z => by
        by_cases hb : b = dx
        . subst hb; exact .inr dn
        . rw [Aa hb] at z; exact .inl z) (by rw [Aa e5.symm]; exact He) (hE e dx He Hd e5.symm)
end L2
namespace PySem.W
open PySem PySem.Spec PySem.Calls PyProof.Rows Builtin Builtin.ObjectAttr Builtin.Getset_descriptor
section
variable {prog : Program} {w : World} {A : Around} {E : Value -> Shared -> Prop} {s : Shared} {K : Frag} {x C dx : Addr} {o : Obj} {name : Str} {v : Value} {mA : Str -> Option Value}
theorem yk {tk : Tok} {Q : Fin -> Shared -> Prop} (X : K.In s.heap) (hx : s.heap.get? x = some o) (hc : o.cls = .ref C) (hd : o.dict = some dx) {vs : Array Value} (hfd : o.data = .fields vs) (hn : s.heap.Ns dx mA) (hv : mA name = some v) (hf : findIn K (.ref C) name = some none) {oC : Obj} {cd : ClassData} (hC : s.heap.get? C = some oC) (hCd : oC.data = .cls cd) (hCh : cd.hasDict = true)
 (hq : Q (.done (.ret v)) s) : wpAny (model prog w) A (Builtin.«object.__getattribute__» ⟨[.ref x, .str name tk], []⟩) Q E s := by
 obtain ⟨h, g, d, t, os⟩ := s
 have L1 := looks_findIn (M := model prog w) X hf
 repeat (any_goals (first | assumption | (with_reducible refine wpAny_loadPart_at hx ?_; first | rw [hc] | rw [hd]) | with_reducible refine L1.at ?_ | wp_step))
 rw [hfd]
 dsimp only
 unfold instanceDict
 repeat (any_goals (first | assumption | (with_reducible refine wpAny_loadPart_at hx ?_; first | rw [hc] | rw [hd]) | with_reducible refine L1.at ?_ | wp_step))
 rw [hCd]
 refine wpAny_pure ?_
 rw [hCh, hd, if_neg (show ¬ ((!true) = true) by decide)]
 refine wpAny_pure ?_
 show wpAny _ _ (nsGet dx name) _ _ _
 refine wpAny_nsGet hn ?_
 rw [hv]
 refine wpAny_bind (wpAny_rule (wpAny_pure ?_))
 exact wpAny_pure hq
theorem Tr {Q : Value -> Shared -> Prop} (X : K.In s.heap) (hx : s.heap.get? x = some o) (hc : o.cls = .ref C) (hd : o.dict = some dx) {vs : Array Value} (hfd : o.data = .fields vs) (hn : s.heap.Ns dx mA) (hv : mA name = some v) (hf : findIn K (.ref C) name = some none)
 {oC : Obj} {cd : ClassData} (hC : s.heap.get? C = some oC) (hCd : oC.data = .cls cd) (hCh : cd.hasDict = true) (hb : mroIn K C (.type "BaseException") = some true)
 (hga : findIn K (.ref C) "__getattribute__" = some (some (.builtin "BaseException.__getattribute__"))) (hgt : findIn K (.ref C) "__getattr__" = some none) {ex : Bool} (hq : Q v { s with toks := s.toks + 1 }) (hh : handedIn v = true) : wpAny (model prog w) A (getAttr (.ref x) name ex) Q E s := by
 have ty : ∀ M : Model, Looks M s.heap (typeOf (.ref x)) (.ref C) := fun M => hc ▸ (Looks.ld hx).andThen .now
 obtain ⟨h, g, d, t, os⟩ := s
 have L0 := ty (model prog w)
 have L1 := looks_findIn (M := model prog w) X hga
 have L2 := looks_findIn (M := model prog w) X hgt
 have f3 := F.excAttr_ValueError.ga.bind (.ref x)
 have hx2 : (Value.builtin "BaseException.__getattribute__" == Value.builtin "object.__getattribute__") = false := by decide +kernel
 have hx1 : (onTheHeap (Value.ref C) && Value.builtin "BaseException.__getattribute__" == Value.builtin "object.__getattribute__") = false := by rw [hx2]; rfl
 have hx0 : ∀ b : Bool, (b && onTheHeap (Value.builtin "BaseException.__getattribute__")) = false := fun b => by cases b <;> rfl
 unfold getAttr
 repeat (any_goals (first | assumption | with_reducible refine L0.at ?_ | with_reducible refine L1.at ?_ | with_reducible refine L2.at ?_ | wp_step))
 refine codeAny_call_builtin F.excAttr_ValueError.ga.plain F.entry_bexc_ga (gf (s := ⟨h, g, d, t + 1, os⟩) X ty hb (yk (s := ⟨h, g, d, t + 1, os⟩) X hx hc hd hfd hn hv hf hC hCd hCh ?_))
 show wpAny _ _ (handedOut v) _ _ _
 exact handed_on hh hq
end
end PySem.W
namespace L2
open PySem PySem.Spec PyProof.Rows
def tAtE (K : PySem.W.Frag) (ta : TE) (f : Str) : TE := fun σ H Q => ta σ H fun x H1 => ∃ (ea C dx : Addr) (fs : List (Str × V)) (k : Int), x = .ref ea /\ H1 ea = some (ErrO ea (.int C dx)) /\ H1 dx = some (.xd fs) /\ fs.lookup f = some (.int k) /\ ErrK K C /\ PySem.W.findIn K (.ref C) f = some none /\ PySem.W.hasDictIn K C = true /\ Q (.int k) H1
theorem jr {X : Cx} {K : PySem.W.Frag} {e : Expr} {f : Str} {ta : TE} {pos : Pos} (hK : X.K = K) (he : PE X e ta) (hb : attributeBase e f X.env (eval e X.env) = eval e X.env := by first | rfl | with_unfolding_all rfl) : PE X (.Attribute e f pos) (tAtE K ta f) := by
 subst hK
 intro pins s σ H Q I h
 refine Qv hb (thn (he pins s σ H _ I h) fun u s1 ⟨x, H1, I1, rx, ea, C, dx, fs, k, ex, h1, h2, hl, ek, hf, hdi, q⟩ => ?_)
 subst ex
 obtain rfl : u = Value.ref ea := rx
 obtain ⟨⟨o, ho, hc, hd, vs, hfd⟩, _, _⟩ := (show Ob X.prog X.w H1 s1.heap ea (ErrO ea (.int C dx)) from I1.hok ea _ h1)
 obtain ⟨mA, n1, rel⟩ := (show Ob X.prog X.w H1 s1.heap dx (.xd fs) from I1.hok dx _ h2)
 have rk := rel f
 rw [hl] at rk
 obtain ⟨cd, hcd, hdc⟩ : ∃ cd, PySem.W.clsIn X.K C = some cd /\ cd.hasDict = true := by
  unfold PySem.W.hasDictIn at hdi
  cases z : PySem.W.clsIn X.K C with
  | none => rw [z] at hdi; cases hdi
  | some cd => rw [z] at hdi; exact ⟨cd, rfl, hdi⟩
 unfold PySem.W.clsIn at hcd
 split at hcd
 . rename_i c' d' cd' sl' hlo
   cases hcd
   cases y : mA f with
   | none => rw [y] at rk; exact rk.elim
   | some u =>
    rw [y] at rk
    obtain ⟨tk, rfl⟩ : ∃ tk, u = Value.int k tk := rk
    exact PySem.W.Tr I1.kIn ho hc (hd dx rfl) hfd n1.ns y hf (I1.kIn _ _ hlo) rfl hdc ek.mb ek.ga ek.gt ⟨.int k, H1, I1.tok _, ⟨tk, rfl⟩, q⟩ rfl
 . cases hcd
theorem Fu {K : PySem.W.Frag} {ta : TE} {f : Str} {σ : St} {H : Hp} {Q : VK} (h : ta σ H fun x H1 => ∃ (ea C dx : Addr) (fs : List (Str × V)) (k : Int), x = .ref ea /\ H1 ea = some (ErrO ea (.int C dx)) /\ H1 dx = some (.xd fs) /\ fs.lookup f = some (.int k) /\ ErrK K C /\ PySem.W.findIn K (.ref C) f = some none /\ PySem.W.hasDictIn K C = true /\ Q (.int k) H1) : tAtE K ta f σ H Q := h
theorem ar {C : Addr} {E : St -> XK} {t : TA} {D : Ends} {σ : St} {H : Hp} (h : t σ H fun vs H1 => ∃ k : Int, vs = [.int k] /\ 0 <= k /\ k < 200 /\ ∀ ea dx, H1 ea = none -> H1 dx = none -> ea ≠ dx -> E σ (.int C dx) (some ea) (upd H1 dx (.xd [("at", .int k)]))) : Ym C E t D σ H := h
theorem zt {X : Cx} {elt tg iter : Expr} {ifs : List Expr} {scope : Scope} {pos : Pos} {cl : List (Str × Addr)} {wi : TI} {g : TG} {tt : TT} {te : TE} (cN tN : List Str) (js : List Nat)
 (hclos : closureFor scope X.env = pure cl) (hc : X.calm = true) (hi : PI X tg iter wi)
 (hcell : ∀ y ∈ scope.names, y.2 ≠ .cell) (hkind : scope.kind = .function) (hnames : ∀ y ∈ scope.names, y.2 = .local -> scope.names.lookup y.1 = some .local)
 (hcl : CellsOk X cl) (hall : (scope.names.all fun y => y.2 != .free || (cl.lookup y.1).isSome) = true) (hcap : ∀ C, pf X (compEnvC scope cl C X.env) cN js)
 (hg : ∀ C s₀ H₀ ex, PG (cxIn X scope cl C (cN ++ tN) s₀ H₀ ex) tg g) (ht : ∀ C s₀ H₀ ex, PTs (cxIn X scope cl C (cN ++ tN) s₀ H₀ ex) ifs tt) (he : ∀ C s₀ H₀ ex, PE (cxIn X scope cl C (cN ++ tN) s₀ H₀ ex) elt te)
 (hs : ∀ x, foldedSetIterable iter X.env x = pure x := by intro _; first | rfl | with_unfolding_all rfl) :
 PE X (.ListComp elt [⟨tg, iter, ifs, 0⟩] scope pos) (Oi js tN.length wi g tt te) :=
 Fl hc hi hclos (fun _ => xc hcell) hkind hnames hcl.all (Gp hcell hall) hcap hg ht he hs
end L2
namespace BR
inductive On where
 | lt (b : Bool) (n : Int)
 | vt (b : Bool) (n q : Int) (w : PySem.Str)
def On.n : On -> Int
 | .lt _ n => n
 | .vt _ n _ _ => n
def fitV (c s n q : Int) (w : PySem.Str) : Bool := decide (n <= c /\ s < q * 2 /\ q <= s /\ (if w = "bench" then n <= s else if w = "stay" then n = s else w = "council"))
theorem Kt {c s n q : Int} {w : PySem.Str} (h : w = "bench") (a : n <= c) (b : s < q * 2) (d : q <= s) : fitV c s n q w = decide (n <= s) :=
 decide_eq_decide.mpr ⟨fun z => by have := z.2.2.2; rw [if_pos h] at this; exact this, fun z => ⟨a, b, d, by rw [if_pos h]; exact z⟩⟩
theorem Ht {c s n q : Int} {w : PySem.Str} (h1 : ¬ w = "bench") (h : w = "stay") (a : n <= c) (b : s < q * 2) (d : q <= s) : fitV c s n q w = decide (n = s) :=
 decide_eq_decide.mpr ⟨fun z => by have := z.2.2.2; rw [if_neg h1, if_pos h] at this; exact this, fun z => ⟨a, b, d, by rw [if_neg h1, if_pos h]; exact z⟩⟩
theorem Jt {c s n q : Int} {w : PySem.Str} (h1 : ¬ w = "bench") (h : ¬ w = "stay") (a : n <= c) (b : s < q * 2) (d : q <= s) : fitV c s n q w = decide (w = "council") :=
 decide_eq_decide.mpr ⟨fun z => by have := z.2.2.2; rw [if_neg h1, if_neg h] at this; exact this, fun z => ⟨a, b, d, by rw [if_neg h1, if_neg h]; exact z⟩⟩
def fitO (c s : Int) : On -> Bool
 | .lt b n => decide (1 <= n /\ n <= 60 /\ b = true /\ n <= s)
 | .vt b n q w => decide (1 <= n /\ n <= 60 /\ b = true) && fitV c s n q w
theorem nh {c s n q : Int} {b : Bool} {w : PySem.Str} (h : ¬ (1 <= n /\ n <= 60 /\ b = true)) : fitO c s (.vt b n q w) = false := by
 show (decide (1 <= n /\ n <= 60 /\ b = true) && fitV c s n q w) = false
 rw [decide_eq_false h, Bool.false_and]
theorem Jp {c s n q : Int} {w : PySem.Str} (h : 1 <= n /\ n <= 60) : fitO c s (.vt true n q w) = fitV c s n q w := by
 show (decide (1 <= n /\ n <= 60 /\ true = true) && fitV c s n q w) = _
 rw [decide_eq_true ⟨h.1, h.2, rfl⟩, Bool.true_and]
def fltA (c : Int) : Int -> Nat -> List On -> Option Nat
 | _, _, [] => none
 | s, i, o :: r => if fitO c s o = true then fltA c o.n (i + 1) r else some i
def Bb : Int -> List On -> Int
 | s, [] => s
 | _, o :: r => Bb o.n r
theorem Ue : ∀ (s : Int) (os : List On) (o : On), Bb s (os ++ [o]) = o.n
 | _, [], _ => rfl
 | _, a :: r, o => Ue a.n r o
def okTo (c : Int) (os : List On) (i : Nat) : Prop := ∀ j o, j < i -> os[j]? = some o -> fitO c (Bb c (os.take j)) o = true
theorem Bi {c : Int} : ∀ {os : List On} {s : Int} {k i : Nat} {o : On}, (∀ j o, j < i -> os[j]? = some o -> fitO c (Bb s (os.take j)) o = true) -> os[i]? = some o -> fitO c (Bb s (os.take i)) o = false -> fltA c s k os = some (k + i)
 | [], _, _, _, _, _, h, _ => by simp at h
 | a :: r, s, k, 0, o, _, h, hf => by
  have e : a = o := by simpa using h
  subst e
  unfold fltA
  rw [if_neg (by rw [show fitO c s a = false from hf]; exact Bool.false_ne_true)]
  rfl
 | a :: r, s, k, i + 1, o, ok, h, hf => by
  have h0 : fitO c s a = true := ok 0 a (by omega) rfl
  unfold fltA
  have e : ∀ l : List On, Bb s (a :: l) = Bb a.n l := fun l => rfl
  have z := Bi (c := c) (s := a.n) (k := k + 1) (i := i) (o := o) (os := r) (fun j o' hj ho' => by
   have := ok (j + 1) o' (by omega) (by simpa using ho')
   rw [List.take_succ_cons, e] at this
   exact this) (by simpa using h) (by rw [List.take_succ_cons, e] at hf; exact hf)
  rw [if_pos h0, z]
  congr 1
  omega
theorem Ci {c : Int} : ∀ {os : List On} {s : Int} {k : Nat}, (∀ j o, os[j]? = some o -> fitO c (Bb s (os.take j)) o = true) -> fltA c s k os = none
 | [], _, _, _ => rfl
 | a :: r, s, k, ok => by
  have h0 : fitO c s a = true := ok 0 a rfl
  have e : ∀ l : List On, Bb s (a :: l) = Bb a.n l := fun l => rfl
  unfold fltA
  rw [if_pos h0]
  refine Ci fun j o' ho' => ?_
  have := ok (j + 1) o' (by simpa using ho')
  rw [List.take_succ_cons, e] at this
  exact this
end BR
namespace BL
open PySem PySem.Spec PyProof.Rows L2 BR
def onO : On -> HO
 | .lt b n => .tup [.str (if b = true then "lot" else "lots"), .int n]
 | .vt b n q w => .tup [.str (if b = true then "vote" else "votes"), .int n, .int q, .str w]
theorem on_n (o : On) : ∃ xs, onO o = .tup xs /\ atI xs 1 = some (.int o.n) := by cases o <;> exact ⟨_, rfl, Oc (j := 1) rfl⟩
def Xs : Sp := fun vs H Q _ => ∃ (c s n q : Int) (w : Str), vs = [.int c, .int s, .int n, .int q, .str w] /\ Q (.bl (fitV c s n q w)) H
theorem Jq {c s n q : Int} {w : Str} {H : Hp} {Q : VK} {E : XK} (h : Q (.bl (fitV c s n q w)) H) : Xs [.int c, .int s, .int n, .int q, .str w] H Q E := ⟨c, s, n, q, w, rfl, h⟩
def Kn : Sp := fun vs H Q _ => ∃ (c s : Int) (p : Addr) (o : On), vs = [.int c, .int s, .ref p] /\ H p = some (onO o) /\ Q (.bl (fitO c s o)) H
theorem Yk {c s : Int} {p : Addr} {o : On} {H : Hp} {Q : VK} {E : XK} (hp : H p = some (onO o)) (h : Q (.bl (fitO c s o)) H) : Kn [.int c, .int s, .ref p] H Q E := ⟨c, s, p, o, rfl, hp, h⟩
def NoC (cC : Addr) (H : Hp) (E : XK) : Prop := ∀ (H' : Hp) (ea : Addr), Same H H' -> H' ea = none -> E (.ref cC) (some ea) H'
def NoR (cR : Addr) (k : Nat) (H : Hp) (E : XK) : Prop := ∀ (H' : Hp) (ea dx : Addr), Same H H' -> H' ea = none -> H' dx = none -> ea ≠ dx -> E (.int cR dx) (some ea) (upd H' dx (.xd [("at", .int k)]))
theorem NoC.same {cC : Addr} {H H1 : Hp} {E : XK} (n : NoC cC H E) (s : Same H H1) : NoC cC H1 E := fun H' ea s' h => n H' ea (s.tr s') h
theorem NoR.same {cR : Addr} {k : Nat} {H H1 : Hp} {E : XK} (n : NoR cR k H E) (s : Same H H1) : NoR cR k H1 E := fun H' ea dx s' h1 h2 h3 => n H' ea dx (s.tr s') h1 h2 h3
def lstO (os : List On) : List V := os.map fun o => V.int o.n
def Vk (cC cR : Addr) : Sp := fun vs H Q E => ∃ (c : Int) (a : Addr) (ps : List Addr) (os : List On), vs = [.int c, .ref a] /\ TsAt onO H a ps os /\ os.length < 200 /\
 (c < 1 \/ 500 < c -> NoC cC H E) /\ (1 <= c -> c <= 500 -> (∀ k, fltA c c 0 os = some k -> NoR cR k H E) /\ (fltA c c 0 os = none -> ∀ (p : Addr) (H' : Hp), H p = none -> Same H H' -> H' p = some (.lst (lstO os)) -> Q (.ref p) H'))
theorem gm {cC cR : Addr} {c : Int} {a : Addr} {ps : List Addr} {os : List On} {H : Hp} {Q : VK} {E : XK} (R : TsAt onO H a ps os) (hl : os.length < 200) (q1 : c < 1 \/ 500 < c -> NoC cC H E)
 (q2 : 1 <= c -> c <= 500 -> (∀ k, fltA c c 0 os = some k -> NoR cR k H E) /\ (fltA c c 0 os = none -> ∀ (p : Addr) (H' : Hp), H p = none -> Same H H' -> H' p = some (.lst (lstO os)) -> Q (.ref p) H')) : Vk cC cR [.int c, .ref a] H Q E := ⟨c, a, ps, os, rfl, R, hl, q1, q2⟩
def sf (cC cR : Addr) : Sp := fun vs H Q E => ∃ (c : Int) (a : Addr) (ps : List Addr) (os : List On), vs = [.int c, .ref a] /\ TsAt onO H a ps os /\ os.length < 200 /\
 (c < 1 \/ 500 < c -> NoC cC H E) /\ (1 <= c -> c <= 500 -> (∀ k, fltA c c 0 os = some k -> NoR cR k H E) /\ (fltA c c 0 os = none -> ∀ (p : Addr) (H' : Hp), H p = none -> Same H H' -> H' p = some (.lst (.int c :: lstO os)) -> Q (.ref p) H'))
theorem Je {cC cR : Addr} {c : Int} {a : Addr} {ps : List Addr} {os : List On} {H : Hp} {Q : VK} {E : XK} (R : TsAt onO H a ps os) (hl : os.length < 200) (q1 : c < 1 \/ 500 < c -> NoC cC H E)
 (q2 : 1 <= c -> c <= 500 -> (∀ k, fltA c c 0 os = some k -> NoR cR k H E) /\ (fltA c c 0 os = none -> ∀ (p : Addr) (H' : Hp), H p = none -> Same H H' -> H' p = some (.lst (.int c :: lstO os)) -> Q (.ref p) H')) : sf cC cR [.int c, .ref a] H Q E := ⟨c, a, ps, os, rfl, R, hl, q1, q2⟩
theorem Lm (c : Int) (os : List On) : atI (.int c :: lstO os) (-1) = some (.int (Bb c os)) := by
 have : ∀ (os : List On) (c : Int) (xs : List V), (V.int c :: lstO os).getLast? = some (.int (Bb c os)) := by
  intro os
  induction os with
  | nil => intro c xs; rfl
  | cons o r ih => intro c xs; rw [show (V.int c :: lstO (o :: r)) = V.int c :: (V.int o.n :: lstO r) from rfl, List.getLast?_cons_cons]; exact ih o.n xs
 have h := this os c []
 rcases List.eq_nil_or_concat (V.int c :: lstO os) with z | ⟨l, x, z⟩
 . cases z
 . rw [List.concat_eq_append] at z
   rw [z] at h ⊢
   rw [List.getLast?_append] at h
   have e : x = .int (Bb c os) := by simpa using h
   rw [e]
   exact Ce _ _
def rf (cC cR : Addr) : Sp := fun vs H Q E => ∃ (c : Int) (a : Addr) (ps : List Addr) (os : List On), vs = [.int c, .ref a] /\ TsAt onO H a ps os /\ os.length < 200 /\
 (c < 1 \/ 500 < c -> NoC cC H E) /\ (1 <= c -> c <= 500 -> (∀ k, fltA c c 0 os = some k -> NoR cR k H E) /\ (fltA c c 0 os = none -> ∀ H', Same H H' -> Q (.bl (decide (Bb c os = 1))) H'))
def Due (cC cR : Addr) (c : Int) (os : List On) (H : Hp) (E : XK) : Prop := ((c < 1 \/ 500 < c) /\ NoC cC H E) \/ (1 <= c /\ c <= 500 /\ ∃ k, fltA c c 0 os = some k /\ NoR cR k H E)
theorem Due.same {cC cR : Addr} {c : Int} {os : List On} {H H1 : Hp} {E : XK} (d : Due cC cR c os H E) (s : Same H H1) : Due cC cR c os H1 E := by
 rcases d with ⟨h, n⟩ | ⟨h1, h2, k, hk, n⟩
 . exact .inl ⟨h, n.same s⟩
 . exact .inr ⟨h1, h2, k, hk, n.same s⟩
theorem mm {cC cR : Addr} {c : Int} {a : Addr} {ps : List Addr} {os : List On} {H : Hp} {Q : VK} {E : XK} (R : TsAt onO H a ps os) (hl : os.length < 200) (d : Due cC cR c os H E) : sf cC cR [.int c, .ref a] H Q E := by
 refine Je R hl (fun h => ?_) fun h1 h2 => ⟨fun k hk => ?_, fun hn => ?_⟩
 . rcases d with ⟨_, n⟩ | ⟨h1, h2, _⟩
   . exact n
   . omega
 . rcases d with ⟨h, _⟩ | ⟨_, _, k', hk', n⟩
   . omega
   . rw [hk] at hk'; cases hk'; exact n
 . rcases d with ⟨h, _⟩ | ⟨_, _, k', hk', _⟩
   . omega
   . rw [hn] at hk'; cases hk'
theorem Ug {cC cR : Addr} {c : Int} {a : Addr} {ps : List Addr} {os : List On} {H : Hp} {Q : VK} {E : XK} (R : TsAt onO H a ps os) (hl : os.length < 200) (q1 : c < 1 \/ 500 < c -> NoC cC H E)
 (q2 : 1 <= c -> c <= 500 -> (∀ k, fltA c c 0 os = some k -> NoR cR k H E) /\ (fltA c c 0 os = none -> ∀ H', Same H H' -> Q (.bl (decide (Bb c os = 1))) H')) : rf cC cR [.int c, .ref a] H Q E := ⟨c, a, ps, os, rfl, R, hl, q1, q2⟩
theorem fm {cC cR : Addr} {c : Int} {a : Addr} {ps : List Addr} {os : List On} {H : Hp} {Q : VK} {E : XK} (R : TsAt onO H a ps os) (hl : os.length < 200) (d : Due cC cR c os H E) : rf cC cR [.int c, .ref a] H Q E := by
 refine Ug R hl (fun h => ?_) fun h1 h2 => ⟨fun k hk => ?_, fun hn => ?_⟩
 . rcases d with ⟨_, n⟩ | ⟨h1, h2, _⟩
   . exact n
   . omega
 . rcases d with ⟨h, _⟩ | ⟨_, _, k', hk', n⟩
   . omega
   . rw [hk] at hk'; cases hk'; exact n
 . rcases d with ⟨h, _⟩ | ⟨_, _, k', hk', _⟩
   . omega
   . rw [hn] at hk'; cases hk'
def jf (c : Int) (os : List On) : List V := if c < 1 \/ 500 < c then [.str "count", .non] else match fltA c c 0 os with
 | some k => [.str "round", .int k]
 | none => [.str "", .int (Bb c os)]
def Mn : Sp := fun vs H Q _ => ∃ (c : Int) (a : Addr) (ps : List Addr) (os : List On), vs = [.int c, .ref a] /\ TsAt onO H a ps os /\ os.length < 200 /\ ∀ (p : Addr) (H' : Hp), H p = none -> Same H H' -> H' p = some (.tup (jf c os)) -> Q (.ref p) H'
theorem Ln {c : Int} {a : Addr} {ps : List Addr} {os : List On} {H : Hp} {Q : VK} {E : XK} (R : TsAt onO H a ps os) (hl : os.length < 200) (q : ∀ (p : Addr) (H' : Hp), H p = none -> Same H H' -> H' p = some (.tup (jf c os)) -> Q (.ref p) H') : Mn [.int c, .ref a] H Q E := ⟨c, a, ps, os, rfl, R, hl, q⟩
def cn : Sp := fun vs H Q _ => ∃ (d l : Addr) (c s m : Nat), vs = [.ref d, .int c, .int s, .int m] /\ DrL H d l /\ 1 <= s /\ s <= 500 /\ 1 <= c /\ c <= 500 /\ 1 <= m /\ m <= 60 /\ ∀ (p : Addr) (H' : Hp) (r : Rn), DrL H' d l -> Fr1 d H H' -> H' p = some (rnO r) -> Q (.ref p) H'
theorem Ri {d l : Addr} {c s m : Nat} {H : Hp} {Q : VK} {E : XK} (D : DrL H d l) (h1 : 1 <= s) (h2 : s <= 500) (h0 : 1 <= c) (h3 : c <= 500) (h4 : 1 <= m) (h5 : m <= 60) (q : ∀ (p : Addr) (H' : Hp) (r : Rn), DrL H' d l -> Fr1 d H H' -> H' p = some (rnO r) -> Q (.ref p) H') : cn [.ref d, .int c, .int s, .int m] H Q E := ⟨d, l, c, s, m, rfl, D, h1, h2, h0, h3, h4, h5, q⟩
def Zs : Sp := fun vs H Q _ => ∃ (d l : Addr) (c s : Nat), vs = [.ref d, .int c, .int s] /\ DrL H d l /\ 1 <= s /\ s <= 500 /\ 1 <= c /\ c <= 500 /\ ∀ (p : Addr) (H' : Hp) (o : On), DrL H' d l -> Fr1 d H H' -> H' p = some (onO o) -> Q (.ref p) H'
theorem Lq {d l : Addr} {c s : Nat} {H : Hp} {Q : VK} {E : XK} (D : DrL H d l) (h1 : 1 <= s) (h2 : s <= 500) (h0 : 1 <= c) (h3 : c <= 500) (q : ∀ (p : Addr) (H' : Hp) (o : On), DrL H' d l -> Fr1 d H H' -> H' p = some (onO o) -> Q (.ref p) H') : Zs [.ref d, .int c, .int s] H Q E := ⟨d, l, c, s, rfl, D, h1, h2, h0, h3, q⟩
def Us : Sp := fun vs H Q _ => ∃ (d l : Addr) (c : Int), vs = [.ref d, .int c] /\ DrL H d l /\ -1 <= c /\ c <= 501 /\ ∀ (a : Addr) (H' : Hp) (ps : List Addr) (os : List On), TsAt onO H' a ps os -> os.length <= 5 -> DrL H' d l -> Fr1 d H H' -> H a = none -> Q (.ref a) H'
theorem Hq {d l : Addr} {c : Int} {H : Hp} {Q : VK} {E : XK} (D : DrL H d l) (h1 : -1 <= c) (h2 : c <= 501) (q : ∀ (a : Addr) (H' : Hp) (ps : List Addr) (os : List On), TsAt onO H' a ps os -> os.length <= 5 -> DrL H' d l -> Fr1 d H H' -> H a = none -> Q (.ref a) H') : Us [.ref d, .int c] H Q E := ⟨d, l, c, rfl, D, h1, h2, q⟩
def bt : Sp := fun vs H Q _ => ∃ (d l : Addr), vs = [.ref d] /\ DrL H d l /\ ∀ (c : Int) (H' : Hp), -1 <= c -> c <= 501 -> DrL H' d l -> Fr1 d H H' -> Q (.int c) H'
theorem Mq {d l : Addr} {H : Hp} {Q : VK} {E : XK} (D : DrL H d l) (q : ∀ (c : Int) (H' : Hp), -1 <= c -> c <= 501 -> DrL H' d l -> Fr1 d H H' -> Q (.int c) H') : bt [.ref d] H Q E := ⟨d, l, rfl, D, q⟩
def rnOn : Rn -> On
 | .lot n => .lt true n
 | .vote n q w => .vt true n q (wdS w)
theorem yo (r : Rn) : rnO r = onO (rnOn r) := by cases r <;> rfl
theorem vl (r : Rn) : (rnOn r).n = (r.n : Nat) := by cases r <;> rfl
theorem Ei {H : Hp} {d l p : Addr} {xs : List V} (D : DrL H d l) (h : H p = some (.tup xs)) : p ≠ d := by
 obtain ⟨⟨ys, hd⟩, _⟩ := D.some
 exact ag h hd Ef
theorem Wl {xs : List V} {g : Int} (h0 : 0 <= g) (h1 : g < (xs.length : Nat)) : ∃ v, atI xs g = some v /\ v ∈ xs := by
 obtain ⟨j, rfl⟩ : ∃ j : Nat, g = j := ⟨g.toNat, by omega⟩
 have hj : j < xs.length := by omega
 exact ⟨xs[j], Oc (List.getElem?_eq_getElem hj), List.getElem_mem hj⟩
theorem kq {xs : List V} {g : Int} (h0 : 0 <= g) (h1 : g < (xs.length : Nat)) (h : xs.all (fun v => match v with | .int _ => true | _ => false) = true) : ∃ n, atI xs g = some (.int n) := by
 obtain ⟨v, e, m⟩ := Wl h0 h1
 have := List.all_eq_true.mp h v m
 cases v <;> first | exact ⟨_, e⟩ | cases this
theorem Rv {xs : List V} {g : Int} (h0 : 0 <= g) (h1 : g < (xs.length : Nat)) (h : xs.all (fun v => match v with | .str _ => true | _ => false) = true) : ∃ n, atI xs g = some (.str n) := by
 obtain ⟨v, e, m⟩ := Wl h0 h1
 have := List.all_eq_true.mp h v m
 cases v <;> first | exact ⟨_, e⟩ | cases this
end BL
namespace BR
open MB
theorem sm_rev (g : Nat -> Nat) (b : Nat) : sm (b + 1) g = sm (b + 1) fun i => g (b - i) := by
 rw [<- jj, <- jj, <- kj, List.sum_reverse]
theorem yi {l : List Nat} {n t : Nat} (hl : l.length = n + 1) (ht : t <= n) : l.reverse.getD t 0 = l.getD (n - t) 0 := by
 rw [List.getD_eq_getElem?_getD, List.getD_eq_getElem?_getD, List.getElem?_reverse (by omega), hl]
 congr 2
theorem su {c f b : Nat} {h : List Nat} {r : Rn} (hf : f <= c) (hl : h.length = b + 1) (ft : Fit c b r) : ron c (c - f) b h.reverse r = (ron c f b h r).reverse := by
 unfold ron
 rw [kj]
 refine Lb fun t ht => ?_
 unfold rT
 rw [sm_rev]
 refine Cb fun i hi => ?_
 rw [yi hl (by omega), show b - (b - i) = i by omega, bh_rev hf (by omega) ft, yi (ug c f b i r) ht]
theorem zo {c f : Nat} (hf : f <= c) : ∀ (a : List Rn) {b : Nat} {h : List Nat}, h.length = b + 1 -> FitR c b a -> rdl c (c - f) b h.reverse a = (rdl c f b h a).reverse
 | [], _, _, _, _ => rfl
 | x :: a, b, h, hl, ft => by
  show rdl c (c - f) x.n (ron c (c - f) b h.reverse x) a = (rdl c f x.n (ron c f b h x) a).reverse
  rw [su hf hl ft.1]
  exact zo hf a (Rh _ _ _ _ _) ft.2
theorem Wt {l : List Nat} (h : l.length = 2) : l.sum = l.getD 0 0 + l.getD 1 0 := by
 match l, h with
 | [x, y], _ => simp
theorem Nl {c f : Nat} {rs : List Rn} (hf : f <= c) (ft : FitR c c rs) (hw : Pa c rs = 1) : frM c f rs + frM c (c - f) rs = allD c rs := by
 have hl := Oe c f rs (Tb c f 1)
 rw [hw] at hl
 have hs : (rdl c f c (one c f 1) rs).sum = allD c rs := by rw [Wj hf rs (Tb _ _ _) ft, Td hf, Nat.one_mul]; rfl
 have e : frM c (c - f) rs = (rdl c f c (one c f 1) rs).getD 0 0 := by
  unfold frM
  rw [<- di hf, zo hf rs (Tb _ _ _) ft, yi hl (by decide)]
 rw [e, <- hs, Wt hl]
 show (rdl c f c (one c f 1) rs).getD 1 0 + _ = _
 omega
theorem Ov {c b : Nat} : ∀ {r : Rn}, Fit c b r -> bh c 0 b 0 r = one r.n 0 (dr c b r)
 | .lot n, _ => by
  show lotN b 0 n = one n 0 (ch b n)
  unfold lotN one
  refine Lb fun k _ => ?_
  cases k with
  | zero => rw [if_pos rfl, ib, Nat.one_mul]; rfl
  | succ k => rw [Vp, Nat.zero_mul, if_neg (by omega)]
 | .vote n q w, h => by
  rw [Wb, if_neg (by have := h.2.2.2.1; omega), if_pos (by have := h.2.2.2.2.1; omega)]
  have := h.2.2.1
  congr 1
  show n - min (c - 0) n = 0
  omega
theorem kl {g : Nat -> Nat} : ∀ {k : Nat}, (∀ i, 0 < i -> g i = 0) -> sm (k + 1) g = g 0
 | 0, _ => by show 0 + g 0 = g 0; omega
 | k + 1, h => by
  show sm (k + 1) g + g (k + 1) = g 0
  rw [kl h, h (k + 1) (by omega), Nat.add_zero]
theorem Nb {n k v t : Nat} : (one n k v).getD t 0 = if t <= n then (if t = k then v else 0) else 0 := by
 rw [List.getD_eq_getElem?_getD]
 by_cases h : t <= n
 . unfold one
   rw [zb _ h, if_pos h]; rfl
 . unfold one
   rw [cg _ (by omega), if_neg h]; rfl
theorem Vq {c b S : Nat} {r : Rn} (ft : Fit c b r) : ron c 0 b (one b 0 S) r = one r.n 0 (S * dr c b r) := by
 unfold ron
 show _ = mr r.n fun j => if j = 0 then S * dr c b r else 0
 refine Lb fun t ht => ?_
 unfold rT
 rw [kl fun i hi => by rw [Nb, if_neg (show ¬ i = 0 by omega)]; simp]
 rw [Ov ft, Nb, Nb, if_pos (by omega), if_pos rfl, if_pos ht]
 by_cases z : t = 0
 . rw [if_pos z, if_pos z]
 . rw [if_neg z, if_neg z, Nat.mul_zero]
theorem xl {c : Nat} : ∀ (a : List Rn) {b S : Nat}, FitR c b a -> rdl c 0 b (one b 0 S) a = one (Pa b a) 0 (S * Kb (drs c b a))
 | [], b, S, _ => by show one b 0 S = one b 0 (S * 1); rw [Nat.mul_one]
 | x :: a, b, S, ft => by
  show rdl c 0 x.n (ron c 0 b (one b 0 S) x) a = one (Pa x.n a) 0 (S * (dr c b x * Kb (drs c x.n a)))
  rw [Vq ft.1, xl a ft.2, Nat.mul_assoc]
theorem Nr {c : Nat} {rs : List Rn} (ft : FitR c c rs) : frM c 0 rs = 0 := by
 unfold frM
 rw [xl rs ft, Nb, if_neg (show ¬ (1 : Nat) = 0 by decide)]
 simp
theorem Bv {c : Nat} {rs : List Rn} (ft : FitR c c rs) (hw : Pa c rs = 1) : frM c c rs = allD c rs := by
 have := Nl (f := 0) (Nat.zero_le c) ft hw
 rw [Nr ft, Nat.sub_zero] at this
 omega
theorem Ft {c f : Nat} {rs : List Rn} (hf : f <= c) (ft : FitR c c rs) (hw : Pa c rs = 1) : frM c f rs <= allD c rs := by
 have := Nl hf ft hw
 omega
end BR
namespace BL
open PySem PySem.Spec PyProof.Rows L2 BR
def chF (c f : Nat) (rs : List Rn) : Int × Int := (loT (frM c f rs : Nat) (allD c rs : Nat), loB (frM c f rs : Nat) (allD c rs : Nat))
def spChn : Sp := fun vs H Q _ => ∃ (c f : Nat) (a : Addr) (ps : List Addr) (rs : List Rn), vs = [.int c, .int f, .ref a] /\ CF H a ps c f rs /\ allD c rs < 2 ^ 9000 /\ ∀ (p : Addr) (H' : Hp), H p = none -> Same H H' -> H' p = some (tupF (chF c f rs)) -> Q (.ref p) H'
theorem Gj {c f : Nat} {a : Addr} {ps : List Addr} {rs : List Rn} {H : Hp} {Q : VK} {E : XK} (R : CF H a ps c f rs) (hl : allD c rs < 2 ^ 9000) (q : ∀ (p : Addr) (H' : Hp), H p = none -> Same H H' -> H' p = some (tupF (chF c f rs)) -> Q (.ref p) H') : spChn [.int c, .int f, .ref a] H Q E := ⟨c, f, a, ps, rs, rfl, R, hl, q⟩
theorem mv {b : Int} (hb : 0 < b) : loT 0 b = 0 /\ loB 0 b = 1 := by
 have := mj (t := 0) (b := b) (u := 0) (c := 1) hb (by decide) (by simp)
 exact ⟨this.1.trans (by decide), this.2.trans (by decide)⟩
theorem lo_one {b : Int} (hb : 0 < b) : loT b b = 1 /\ loB b b = 1 := by
 have := mj (t := b) (b := b) (u := 1) (c := 1) hb (by decide) (by omega)
 exact ⟨this.1.trans (by decide), this.2.trans (by decide)⟩
end BL
namespace BR
open MB
def dot (n : Nat) (l w : List Nat) : Nat := sm (n + 1) fun i => l.getD i 0 * w.getD i 0
def wah (c f b : Nat) (r : Rn) (w : List Nat) : List Nat := mr b fun on => dot r.n (bh c f b on r) w
def wB (c f : Nat) : Nat -> List Rn -> List Nat
 | _, [] => [0, 1]
 | b, r :: rs => wah c f b r (wB c f r.n rs)
def wths (c f : Nat) : List Rn -> List (List Nat)
 | [] => []
 | r :: rs => wB c f r.n rs :: wths c f rs
theorem Fs {c f : Nat} : ∀ {rs : List Rn} {b : Nat}, Pa b rs = 1 -> (wB c f b rs).length = b + 1
 | [], b, h => by
  have : b = 1 := h
  subst this; rfl
 | r :: rs, b, h => ub _ _
theorem qh (c f : Nat) : ∀ rs : List Rn, (wths c f rs).length = rs.length
 | [] => rfl
 | r :: rs => by show (wths c f rs).length + 1 = rs.length + 1; rw [qh c f rs]
theorem je {c f : Nat} : ∀ {rs : List Rn} {b i : Nat}, i < rs.length -> (wths c f rs)[i]? = some (wB c f (Pa b (rs.take (i + 1))) (rs.drop (i + 1)))
 | [], _, _, h => by simp at h
 | r :: rs, b, 0, _ => rfl
 | r :: rs, b, i + 1, h => by
  show (wths c f rs)[i]? = some (wB c f (Pa r.n (rs.take (i + 1))) (rs.drop (i + 1)))
  exact je (by simpa using h)
theorem dot_bd {n M : Nat} {l w : List Nat} (hl : l.length = n + 1) (hw : ∀ x ∈ w, x <= M) : dot n l w <= l.sum * M := by
 have e : ∀ k, (sm k fun i => l.getD i 0 * w.getD i 0) <= (sm k fun i => l.getD i 0) * M := by
  intro k
  induction k with
  | zero => simp [sm]
  | succ k ih =>
   show (sm k fun i => l.getD i 0 * w.getD i 0) + l.getD k 0 * w.getD k 0 <= ((sm k fun i => l.getD i 0) + l.getD k 0) * M
   rw [Nat.add_mul]
   have h1 : w.getD k 0 <= M := by
    rw [List.getD_eq_getElem?_getD]
    cases q : w[k]? with
    | none => exact Nat.zero_le _
    | some x => exact hw x (List.mem_of_getElem? q)
   exact Nat.add_le_add ih (Nat.mul_le_mul_left _ h1)
 have := e (n + 1)
 rw [<- hl, <- Ld] at this
 unfold dot
 rw [<- hl]
 exact this
theorem mem_mr {n x : Nat} {g : Nat -> Nat} (h : x ∈ mr n g) : ∃ k, k <= n /\ x = g k := by
 unfold mr at h
 obtain ⟨k, hk, e⟩ := List.mem_map.mp h
 exact ⟨k, by have := List.mem_range.mp hk; omega, e.symm⟩
theorem wB_bd {c f : Nat} (hf : f <= c) : ∀ {rs : List Rn} {b : Nat}, FitR c b rs -> ∀ x ∈ wB c f b rs, x <= Kb (drs c b rs)
 | [], _, _, x, h => by
  have : x = 0 \/ x = 1 := by simpa [wB] using h
  show x <= 1
  omega
 | r :: rs, b, ft, x, h => by
  obtain ⟨k, hk, rfl⟩ := mem_mr h
  have := dot_bd (n := r.n) (ug c f b k r) (wB_bd hf ft.2)
  rw [Bj hf hk ft.1] at this
  exact this
theorem dual {c f b : Nat} {h w : List Nat} {r : Rn} : dot r.n (ron c f b h r) w = dot b h (wah c f b r w) := by
 unfold dot
 have e1 : (sm (r.n + 1) fun t => (ron c f b h r).getD t 0 * w.getD t 0) = sm (r.n + 1) fun t => sm (b + 1) fun on => h.getD on 0 * ((bh c f b on r).getD t 0 * w.getD t 0) := Cb fun t ht => by
  have : (ron c f b h r).getD t 0 = rT c f b h r (b + 1) t := by
   unfold ron
   rw [List.getD_eq_getElem?_getD, zb _ (by omega)]; rfl
  rw [this, Nat.mul_comm]
  unfold rT
  rw [<- Kf]
  exact Cb fun on _ => by rw [Nat.mul_comm, Nat.mul_assoc]
 rw [e1, Jj]
 refine Cb fun on ho => ?_
 rw [Kf]
 have : (wah c f b r w).getD on 0 = dot r.n (bh c f b on r) w := by
  unfold wah
  rw [List.getD_eq_getElem?_getD, zb _ (by omega)]; rfl
 rw [this]
 rfl
theorem meet {c f : Nat} : ∀ (rs : List Rn) {b : Nat} {h : List Nat}, h.length = b + 1 -> Pa b rs = 1 -> (rdl c f b h rs).getD 1 0 = dot b h (wB c f b rs)
 | [], b, h, hl, hw => by
  have : b = 1 := hw
  subst this
  show h.getD 1 0 = sm 2 fun i => h.getD i 0 * [0, 1].getD i 0
  simp [sm]
 | r :: rs, b, h, hl, hw => by
  show (rdl c f r.n (ron c f b h r) rs).getD 1 0 = dot b h (wah c f b r (wB c f r.n rs))
  rw [meet rs (Rh _ _ _ _ _) hw, dual]
end BR
namespace BL
open PySem PySem.Spec PyProof.Rows L2 BR
def spWah : Sp := fun vs H Q _ => ∃ (c f b : Nat) (p la : Addr) (r : Rn) (w : List Nat), vs = [.int c, .int f, .int b, .ref p, .ref la] /\ H p = some (rnO r) /\ H la = some (lstN w) /\ w.length = r.n + 1 /\ f <= c /\ c < 512 /\ b < 512 /\ Fit c b r /\ (∀ x ∈ w, x < 2 ^ 60000) /\ NewL H Q (wah c f b r w)
theorem Yt {c f b : Nat} {p la : Addr} {r : Rn} {w : List Nat} {H : Hp} {Q : VK} {E : XK} (h1 : H p = some (rnO r)) (h2 : H la = some (lstN w)) (h3 : w.length = r.n + 1) (h4 : f <= c) (h5 : c < 512) (h6 : b < 512) (h7 : Fit c b r) (h8 : ∀ x ∈ w, x < 2 ^ 60000) (q : NewL H Q (wah c f b r w)) : spWah [.int c, .int f, .int b, .ref p, .ref la] H Q E := ⟨c, f, b, p, la, r, w, rfl, h1, h2, h3, h4, h5, h6, h7, h8, q⟩
def Js : Sp := fun vs H Q _ => ∃ (c f : Nat) (a : Addr) (ps : List Addr) (rs : List Rn), vs = [.int c, .int f, .ref a] /\ CF H a ps c f rs /\ Bs H Q (wths c f rs)
theorem Sk {c f : Nat} {a : Addr} {ps : List Addr} {rs : List Rn} {H : Hp} {Q : VK} {E : XK} (R : CF H a ps c f rs) (q : Bs H Q (wths c f rs)) : Js [.int c, .int f, .ref a] H Q E := ⟨c, f, a, ps, rs, rfl, R, q⟩
theorem TsAt.rev {α : Type} {ob : α -> HO} {H : Hp} {f g : Addr} {ps : List Addr} {qs : List α} (F : TsAt ob H f ps qs) (h : H g = none) : TsAt ob (upd H g (.lst (ps.reverse.map V.ref))) g ps.reverse qs.reverse := by
 refine ⟨ka, fun i p h' => ?_, by rw [List.length_reverse, List.length_reverse, F.ln]⟩
 have hi : i < ps.length := by
  have := (List.getElem?_eq_some_iff.mp h').1
  rw [List.length_reverse] at this; exact this
 rw [List.getElem?_reverse hi] at h'
 obtain ⟨q, a, b⟩ := F.it _ p h'
 exact ⟨q, by rw [List.getElem?_reverse (by rw [<- F.ln]; exact hi), <- F.ln]; exact a, by rw [Aa (da b h)]; exact b⟩
theorem we {α : Type} {l : List α} {k : Nat} {x : α} (h : l[k]? = some x) : (l.drop k).reverse = (l.drop (k + 1)).reverse ++ [x] := by
 have hlt := (List.getElem?_eq_some_iff.mp h).1
 rw [List.drop_eq_getElem_cons hlt, List.reverse_cons]
 congr 2
 exact (List.getElem?_eq_some_iff.mp h).2
end BL
namespace L2
open PySem PySem.Spec PyProof.Rows
end L2
namespace BR
def nzT (l : List Nat) (i : Nat) : List Nat := (List.range i).filter fun k => !decide (l.getD k 0 = 0)
theorem Jl (l : List Nat) (i : Nat) : nzT l (i + 1) = if l.getD i 0 = 0 then nzT l i else nzT l i ++ [i] := by
 unfold nzT
 rw [List.range_succ, List.filter_append]
 by_cases h : l.getD i 0 = 0
 . have e : (!decide (l.getD i 0 = 0)) = false := by rw [decide_eq_true h]; rfl
   rw [if_pos h, List.filter_cons, e, if_neg (by decide), List.filter_nil, List.append_nil]
 . have e : (!decide (l.getD i 0 = 0)) = true := by rw [decide_eq_false h]; rfl
   rw [if_neg h, List.filter_cons, e, if_pos rfl, List.filter_nil]
theorem dv (l : List Nat) (i : Nat) : (nzT l i).length <= i := by
 unfold nzT
 have := List.length_filter_le (fun k => !decide (l.getD k 0 = 0)) (List.range i)
 rw [List.length_range] at this
 exact this
theorem nzT_ne {l : List Nat} (h : 0 < l.sum) : nzT l l.length ≠ [] := by
 intro e
 have : ∀ k, k < l.length -> l.getD k 0 = 0 := fun k hk => by
  by_cases z : l.getD k 0 = 0
  . exact z
  . have : k ∈ nzT l l.length := by
     unfold nzT
     exact List.mem_filter.mpr ⟨List.mem_range.mpr hk, by rw [decide_eq_false z]; rfl⟩
    rw [e] at this
    cases this
 rw [Ld, Cb this, Ij] at h
 omega
def Dj (l : List Nat) : Int × Int := (((nzT l l.length).headD 0 : Nat), ((nzT l l.length).getLastD 0 : Nat))
end BR
namespace BL
open PySem PySem.Spec PyProof.Rows L2 BR
def Qs : Sp := fun vs H Q _ => ∃ (a : Addr) (l : List Nat), vs = [.ref a] /\ H a = some (lstN l) /\ 0 < l.sum /\ l.length <= 600 /\ ∀ (p : Addr) (H' : Hp), H p = none -> Same H H' -> H' p = some (tupF (Dj l)) -> Q (.ref p) H'
theorem Dq {a : Addr} {l : List Nat} {H : Hp} {Q : VK} {E : XK} (h1 : H a = some (lstN l)) (h2 : 0 < l.sum) (h3 : l.length <= 600) (q : ∀ (p : Addr) (H' : Hp), H p = none -> Same H H' -> H' p = some (tupF (Dj l)) -> Q (.ref p) H') : Qs [.ref a] H Q E := ⟨a, l, rfl, h1, h2, h3, q⟩
def NewFL (H : Hp) (Q : VK) (ls : List (Int × Int)) : Prop := ∀ (a : Addr) (H' : Hp) (ps : List Addr), H a = none -> Same H H' -> TsAt tupF H' a ps ls -> Q (.ref a) H'
def mn : Sp := fun vs H Q _ => ∃ (c f : Nat) (a : Addr) (ps : List Addr) (rs : List Rn), vs = [.int c, .int f, .ref a] /\ CF H a ps c f rs /\ NewFL H Q ((road c f rs).map Dj)
theorem kn {c f : Nat} {a : Addr} {ps : List Addr} {rs : List Rn} {H : Hp} {Q : VK} {E : XK} (R : CF H a ps c f rs) (q : NewFL H Q ((road c f rs).map Dj)) : mn [.int c, .int f, .ref a] H Q E := ⟨c, f, a, ps, rs, rfl, R, q⟩
theorem Wq {c f : Nat} {rs : List Rn} (hf : f <= c) (ft : FitR c c rs) {i : Nat} {l : List Nat} (h : (road c f rs)[i]? = some l) : 0 < l.sum /\ l.length = Pa c (rs.take (i + 1)) + 1 := by
 have e := Vj h
 refine ⟨?_, by rw [e]; exact Oe c f _ (Tb _ _ _)⟩
 rw [e, ml hf (ft.take (i + 1))]
 exact Od (ft.take (i + 1))
end BL
namespace BR
open MB
def Fe (c f n k : Nat) : Prop := k <= f /\ k <= n /\ n <= k + (c - f)
theorem Fd {f g : Nat -> Nat} : ∀ {k : Nat}, (∀ i, i < k -> f i <= g i) -> sm k f <= sm k g
 | 0, _ => Nat.le_refl _
 | k + 1, h => Nat.add_le_add (Fd fun i hi => h i (by omega)) (h k (by omega))
theorem zi {b on n k : Nat} (h : k <= n) : (lotN b on n).getD k 0 = ch on k * ch (b - on) (n - k) := by
 unfold lotN
 rw [List.getD_eq_getElem?_getD, zb _ h]; rfl
theorem vf {b on n k : Nat} (h : k <= n) (hz : (lotN b on n).getD k 0 ≠ 0) : k <= on /\ n - k <= b - on := by
 rw [zi h] at hz
 refine ⟨?_, ?_⟩
 . rcases Nat.lt_or_ge on k with z | z
   . rw [ze z, Nat.zero_mul] at hz; exact absurd rfl hz
   . exact z
 . rcases Nat.lt_or_ge (b - on) (n - k) with z | z
   . rw [ze z, Nat.mul_zero] at hz; exact absurd rfl hz
   . exact z
theorem Ot {n C : Nat} {p w : List Nat} (hl : p.length = n + 1) (h : ∀ k, k <= n -> p.getD k 0 ≠ 0 -> w.getD k 0 <= C) : dot n p w <= p.sum * C := by
 rw [Ld, hl, Nat.mul_comm, <- Kf]
 refine Fd fun k hk => ?_
 by_cases z : p.getD k 0 = 0
 . rw [z]; simp
 . rw [Nat.mul_comm]
   exact Nat.mul_le_mul_right _ (h k (by omega) z)
theorem Pt {n C : Nat} {p w : List Nat} (hl : p.length = n + 1) (h : ∀ k, k <= n -> p.getD k 0 ≠ 0 -> C <= w.getD k 0) : p.sum * C <= dot n p w := by
 rw [Ld, hl, Nat.mul_comm, <- Kf]
 refine Fd fun k hk => ?_
 by_cases z : p.getD k 0 = 0
 . rw [z]; simp
 . rw [Nat.mul_comm C]
   exact Nat.mul_le_mul_left _ (h k (by omega) z)
theorem jg {n k v : Nat} {w : List Nat} (h : k <= n) : dot n (one n k v) w = v * w.getD k 0 := by
 have e1 : dot n (one n k v) w <= (one n k v).sum * w.getD k 0 := Ot (Tb _ _ _) fun j hj hz => by
  rw [Nb, if_pos hj] at hz
  by_cases e : j = k
  . rw [e]; exact Nat.le_refl _
  . rw [if_neg e] at hz; exact absurd rfl hz
 have e2 : (one n k v).sum * w.getD k 0 <= dot n (one n k v) w := Pt (Tb _ _ _) fun j hj hz => by
  rw [Nb, if_pos hj] at hz
  by_cases e : j = k
  . rw [e]; exact Nat.le_refl _
  . rw [if_neg e] at hz; exact absurd rfl hz
 rw [Td h] at e1 e2
 omega
theorem Wr {n : Nat} {p w w' : List Nat} (h : ∀ k, k <= n -> p.getD k 0 ≠ 0 -> w.getD k 0 <= w'.getD k 0) : dot n p w <= dot n p w' := by
 refine Fd fun k hk => ?_
 by_cases z : p.getD k 0 = 0
 . rw [z]; simp
 . exact Nat.mul_le_mul_left _ (h k (by omega) z)
theorem jl (g : Nat -> Nat) : ∀ k : Nat, sm (k + 1) g = g 0 + sm k fun i => g (i + 1)
 | 0 => by show 0 + g 0 = g 0 + 0; omega
 | k + 1 => by
  show sm (k + 1) g + g (k + 1) = g 0 + ((sm k fun i => g (i + 1)) + g (k + 1))
  rw [jl g k]; omega
theorem Hr {b on n : Nat} {w w' : List Nat} (hb : on + 1 <= b)
 (h0 : ∀ k, k <= n -> k <= on -> n - k <= b - on - 1 -> w.getD k 0 <= w'.getD k 0) (h1 : ∀ k, k + 1 <= n -> k <= on -> n - (k + 1) <= b - on - 1 -> w.getD k 0 <= w'.getD (k + 1) 0) :
 dot n (lotN b on n) w <= dot n (lotN b (on + 1) n) w' := by
 obtain ⟨m, hm⟩ : ∃ m, b - on = m + 1 := ⟨b - on - 1, by omega⟩
 have hm' : b - (on + 1) = m := by omega
 rw [hm, Nat.add_sub_cancel] at h0 h1
 have L : dot n (lotN b on n) w = (sm (n + 1) fun k => ch on k * ch m (n - k) * w.getD k 0) + sm n fun k => ch on k * ch m (n - (k + 1)) * w.getD k 0 := by
  have e : dot n (lotN b on n) w = sm (n + 1) fun k => ch on k * ch m (n - k) * w.getD k 0 + (if k < n then ch on k * ch m (n - (k + 1)) * w.getD k 0 else 0) := Cb fun k hk => by
   rw [zi (by omega), hm]
   by_cases z : k < n
   . rw [if_pos z]
     obtain ⟨j, hj⟩ : ∃ j, n - k = j + 1 := ⟨n - k - 1, by omega⟩
     rw [hj, de, show n - (k + 1) = j by omega, Nat.mul_add, Nat.add_mul, Nat.add_comm]
   . have : n - k = 0 := by omega
     rw [if_neg z, this, ib, ib]; omega
  rw [e, ll]
  congr 1
  show (sm n fun k => if k < n then ch on k * ch m (n - (k + 1)) * w.getD k 0 else 0) + (if n < n then _ else 0) = _
  rw [if_neg (Nat.lt_irrefl _), Nat.add_zero]
  exact Cb fun k hk => by rw [if_pos hk]
 have R : dot n (lotN b (on + 1) n) w' = (sm (n + 1) fun k => ch on k * ch m (n - k) * w'.getD k 0) + sm n fun k => ch on k * ch m (n - (k + 1)) * w'.getD (k + 1) 0 := by
  have e : dot n (lotN b (on + 1) n) w' = sm (n + 1) fun k => ch on k * ch m (n - k) * w'.getD k 0 + (match k with | 0 => 0 | j + 1 => ch on j * ch m (n - (j + 1)) * w'.getD (j + 1) 0) := Cb fun k hk => by
   rw [zi (by omega), hm']
   cases k with
   | zero => rw [ib, ib]; rfl
   | succ j =>
    show ch (on + 1) (j + 1) * ch m (n - (j + 1)) * w'.getD (j + 1) 0 = ch on (j + 1) * ch m (n - (j + 1)) * w'.getD (j + 1) 0 + ch on j * ch m (n - (j + 1)) * w'.getD (j + 1) 0
    rw [de, Nat.add_mul, Nat.add_mul, Nat.add_comm]
  rw [e, ll]
  congr 1
  rw [jl]
  show 0 + _ = _
  rw [Nat.zero_add]
 rw [L, R]
 refine Nat.add_le_add (Fd fun k hk => ?_) (Fd fun k hk => ?_)
 . by_cases z : ch on k * ch m (n - k) = 0
   . rw [z]; simp
   . refine Nat.mul_le_mul_left _ (h0 k (by omega) ?_ ?_)
     . rcases Nat.lt_or_ge on k with y | y
       . rw [ze y, Nat.zero_mul] at z; exact absurd rfl z
       . exact y
     . rcases Nat.lt_or_ge m (n - k) with y | y
       . rw [ze y, Nat.mul_zero] at z; exact absurd rfl z
       . exact y
 . by_cases z : ch on k * ch m (n - (k + 1)) = 0
   . rw [z]; simp
   . refine Nat.mul_le_mul_left _ (h1 k (by omega) ?_ ?_)
     . rcases Nat.lt_or_ge on k with y | y
       . rw [ze y, Nat.zero_mul] at z; exact absurd rfl z
       . exact y
     . rcases Nat.lt_or_ge m (n - (k + 1)) with y | y
       . rw [ze y, Nat.mul_zero] at z; exact absurd rfl z
       . exact y
def Mon (c b : Nat) (w : Nat -> List Nat) : Prop := ∀ f f' on on', f <= f' -> f' <= c -> on <= on' -> Fe c f b on -> Fe c f' b on' -> (w f).getD on 0 <= (w f').getD on' 0
theorem mon_of {c b : Nat} {w : Nat -> List Nat} (st : ∀ f f' on on', f <= f' -> f' <= f + 1 -> f' <= c -> on <= on' -> on' <= on + 1 -> Fe c f b on -> Fe c f' b on' -> (w f).getD on 0 <= (w f').getD on' 0) : Mon c b w := by
 have key : ∀ (m f f' on on' : Nat), (f' - f) + (on' - on) <= m -> f <= f' -> f' <= c -> on <= on' -> Fe c f b on -> Fe c f' b on' -> (w f).getD on 0 <= (w f').getD on' 0 := by
  intro m
  induction m with
  | zero => intro f f' on on' hm h1 h2 h3 F F'; exact st f f' on on' h1 (by omega) h2 h3 (by omega) F F'
  | succ m ih =>
   intro f f' on on' hm h1 h2 h3 F F'
   obtain ⟨a1, a2, a3⟩ := F
   obtain ⟨b1, b2, b3⟩ := F'
   by_cases z1 : f = f'
   . by_cases z2 : on = on'
     . subst z1 z2; exact Nat.le_refl _
     . have F2 : Fe c f b (on + 1) := ⟨by omega, by omega, by omega⟩
       exact Nat.le_trans (st f f on (on + 1) (Nat.le_refl _) (by omega) (by omega) (by omega) (Nat.le_refl _) ⟨a1, a2, a3⟩ F2) (ih f f' (on + 1) on' (by omega) h1 h2 (by omega) F2 ⟨b1, b2, b3⟩)
   . by_cases z2 : on = on'
     . have F2 : Fe c (f + 1) b on := ⟨by omega, by omega, by omega⟩
       exact Nat.le_trans (st f (f + 1) on on (by omega) (Nat.le_refl _) (by omega) (Nat.le_refl _) (by omega) ⟨a1, a2, a3⟩ F2) (ih (f + 1) f' on on' (by omega) (by omega) h2 h3 F2 ⟨b1, b2, b3⟩)
     . have F2 : Fe c (f + 1) b (on + 1) := ⟨by omega, by omega, by omega⟩
       exact Nat.le_trans (st f (f + 1) on (on + 1) (by omega) (Nat.le_refl _) (by omega) (by omega) (Nat.le_refl _) ⟨a1, a2, a3⟩ F2) (ih (f + 1) f' (on + 1) on' (by omega) (by omega) h2 (by omega) F2 ⟨b1, b2, b3⟩)
 intro f f' on on' h1 h2 h3 F F'
 exact key _ f f' on on' (Nat.le_refl _) h1 h2 h3 F F'
theorem nk {c b n : Nat} {w : Nat -> List Nat} (M : Mon c n w) {f f' on on' : Nat} (h1 : f <= f') (h2 : f' <= c) (h3 : on <= on') (h4 : on' <= on + 1) (F : on <= f) (G : b - on <= c - f) (F' : on' <= f') (G' : b - on' <= c - f') (hb : on' <= b) : dot n (lotN b on n) (w f) <= dot n (lotN b on' n) (w f') := by
 by_cases e : on' = on
 . subst e
   refine Wr fun k hk hz => ?_
   obtain ⟨s1, s2⟩ := vf hk hz
   exact M f f' k k h1 h2 (Nat.le_refl _) ⟨by omega, hk, by omega⟩ ⟨by omega, hk, by omega⟩
 . have e' : on' = on + 1 := by omega
   subst e'
   refine Hr hb (fun k hk s1 s2 => ?_) (fun k hk s1 s2 => ?_)
   . exact M f f' k k h1 h2 (Nat.le_refl _) ⟨by omega, hk, by omega⟩ ⟨by omega, hk, by omega⟩
   . exact M f f' k (k + 1) h1 h2 (by omega) ⟨by omega, by omega, by omega⟩ ⟨by omega, hk, by omega⟩
theorem Tt {c f b on : Nat} {r : Rn} (hf : f <= c) (F : Fe c f b on) (ft : Fit c b r) {k : Nat} (hk : k <= r.n) (hz : (bh c f b on r).getD k 0 ≠ 0) : Fe c f r.n k := by
 obtain ⟨F1, F2, F3⟩ := F
 cases r with
 | lot n =>
  obtain ⟨s1, s2⟩ := vf (show k <= n from hk) hz
  have hk' : k <= n := hk
  exact ⟨by omega, hk, by show n <= _; omega⟩
 | vote n q w =>
  have hk' : k <= n := hk
  obtain ⟨g1, g2, g3, g4, g5, g6, g7⟩ := ft
  rw [Wb] at hz
  by_cases a1 : q <= on
  . rw [if_pos a1, Nb, if_pos hk'] at hz
    by_cases e : k = min f n
    . exact ⟨by omega, hk, by show n <= _; omega⟩
    . rw [if_neg e] at hz; exact absurd rfl hz
  . rw [if_neg a1] at hz
    by_cases a2 : q <= b - on
    . rw [if_pos a2, Nb, if_pos hk'] at hz
      by_cases e : k = n - min (c - f) n
      . exact ⟨by omega, hk, by show n <= _; omega⟩
      . rw [if_neg e] at hz; exact absurd rfl hz
    . rw [if_neg a2] at hz
      cases w with
      | council =>
       obtain ⟨s1, s2⟩ := vf hk' hz
       exact ⟨s1, hk, by show n <= _; omega⟩
      | bench =>
       obtain ⟨s1, s2⟩ := vf hk' hz
       exact ⟨by omega, hk, by show n <= _; omega⟩
      | stay =>
       have hz : (one n on 1).getD k 0 ≠ 0 := hz
       rw [Nb, if_pos hk'] at hz
       by_cases e : k = on
       . have := g7 rfl
         exact ⟨by omega, hk, by show n <= _; omega⟩
       . rw [if_neg e] at hz; exact absurd rfl hz
theorem bh_mon {c b : Nat} {r : Rn} {w : Nat -> List Nat} (hbc : b <= c) (ft : Fit c b r) (M : Mon c r.n w) {f f' on on' : Nat} (h1 : f <= f') (h1' : f' <= f + 1) (h2 : f' <= c) (h3 : on <= on') (h4 : on' <= on + 1) (F : Fe c f b on) (F' : Fe c f' b on') :
 dot r.n (bh c f b on r) (w f) <= dot r.n (bh c f' b on' r) (w f') := by
 have FF := F
 have FF' := F'
 obtain ⟨F1, F2, F3⟩ := F
 obtain ⟨G1, G2, G3⟩ := F'
 cases r with
 | lot n => exact nk M h1 h2 h3 h4 F1 (by omega) G1 (by omega) G2
 | vote n q wd =>
  have ft0 := ft
  obtain ⟨g1, g2, g3, g4, g5, g6, g7⟩ := ft
  have M' : Mon c n w := M
  have sL := Bj (f := f) (on := on) (show f <= c by omega) F2 ft0
  have sR := Bj (f := f') (on := on') h2 G2 ft0
  have lL := ug c f b on (.vote n q wd)
  have lR := ug c f' b on' (.vote n q wd)
  have T' : Fe c f' n (min f' n) := ⟨by omega, by omega, by omega⟩
  have B : Fe c f n (n - min (c - f) n) := ⟨by omega, by omega, by omega⟩
  by_cases a1 : q <= on'
  ·
   have eR : dot n (bh c f' b on' (.vote n q wd)) (w f') = dr c b (.vote n q wd) * (w f').getD (min f' n) 0 := by rw [Wb, if_pos a1, jg (by omega)]
   show dot n _ _ <= dot n _ _
   rw [eR, <- sL]
   refine Ot lL fun k hk hz => ?_
   have Fk := Tt (by omega) FF ft0 hk hz
   have Fk' : Fe c f n k := Fk
   exact M' f f' k (min f' n) h1 h2 (by obtain ⟨x1, x2, x3⟩ := Fk'; omega) Fk' T'
  . by_cases a2 : q <= b - on
    ·
     have eL : dot n (bh c f b on (.vote n q wd)) (w f) = dr c b (.vote n q wd) * (w f).getD (n - min (c - f) n) 0 := by rw [Wb, if_neg (by omega), if_pos a2, jg (by omega)]
     show dot n _ _ <= dot n _ _
     rw [eL, <- sR]
     refine Pt lR fun k hk hz => ?_
     have Fk := Tt h2 FF' ft0 hk hz
     have Fk' : Fe c f' n k := Fk
     exact M' f f' (n - min (c - f) n) k h1 h2 (by obtain ⟨x1, x2, x3⟩ := Fk'; omega) B Fk'
    . show dot n (bh c f b on (.vote n q wd)) _ <= dot n (bh c f' b on' (.vote n q wd)) _
      rw [Wb, Wb, if_neg (by omega), if_neg a2, if_neg a1, if_neg (by omega)]
      cases wd with
      | council => exact nk M' h1 h2 h1 h1' (Nat.le_refl _) (Nat.le_refl _) (Nat.le_refl _) (Nat.le_refl _) h2
      | bench => exact nk M' h1 h2 h3 h4 F1 (by omega) G1 (by omega) G2
      | stay =>
       have en := g7 rfl
       show dot n (one n on 1) _ <= dot n (one n on' 1) _
       rw [jg (by omega), jg (by omega), Nat.one_mul, Nat.one_mul]
       exact M' f f' on on' h1 h2 h3 (by rw [en]; exact FF) (by rw [en]; exact FF')
theorem Es {c : Nat} : ∀ {rs : List Rn} {b : Nat}, FitR c b rs -> b <= c -> Pa b rs = 1 -> Mon c b fun f => wB c f b rs
 | [], b, _, _, hw => by
  have : b = 1 := hw
  subst this
  intro f f' on on' h1 h2 h3 F F'
  obtain ⟨F1, F2, F3⟩ := F
  obtain ⟨G1, G2, G3⟩ := F'
  show [0, 1].getD on 0 <= [0, 1].getD on' 0
  have : (on = 0 \/ on = 1) /\ (on' = 0 \/ on' = 1) := by omega
  rcases this with ⟨rfl | rfl, rfl | rfl⟩ <;> simp at h3 ⊢
 | r :: rs, b, ft, hb, hw => by
  have M := Es (rs := rs) (b := r.n) ft.2 (ft.1.le hb) hw
  refine mon_of fun f f' on on' h1 h1' h2 h3 h4 F F' => ?_
  have e : ∀ g k, k <= b -> (wB c g b (r :: rs)).getD k 0 = dot r.n (bh c g b k r) (wB c g r.n rs) := fun g k hk => by
   show (wah c g b r (wB c g r.n rs)).getD k 0 = _
   unfold wah
   rw [List.getD_eq_getElem?_getD, zb _ hk]; rfl
  show (wB c f b (r :: rs)).getD on 0 <= (wB c f' b (r :: rs)).getD on' 0
  rw [e f on F.2.1, e f' on' F'.2.1]
  exact bh_mon (w := fun g => wB c g r.n rs) hb ft.1 M h1 h1' h2 h3 h4 F F'
theorem Et {c f : Nat} {rs : List Rn} (hf : f <= c) (hw : Pa c rs = 1) : frM c f rs = (wB c f c rs).getD f 0 := by
 unfold frM
 rw [meet rs (Tb _ _ _) hw, jg hf, Nat.one_mul]
theorem Pr {c f f' : Nat} {rs : List Rn} (ft : FitR c c rs) (hw : Pa c rs = 1) (h1 : f <= f') (h2 : f' <= c) : frM c f rs <= frM c f' rs := by
 rw [Et (by omega) hw, Et h2 hw]
 exact Es ft (Nat.le_refl _) hw f f' f f' h1 h2 h1 ⟨Nat.le_refl _, by omega, by omega⟩ ⟨Nat.le_refl _, h2, by omega⟩
end BR
namespace L2
open PySem
end L2
namespace BL
open PySem PySem.Spec PyProof.Rows L2 BR
def gnF (c f : Nat) (rs : List Rn) : Int × Int := (loT ((frM c (f + 1) rs : Nat) - (frM c f rs : Nat)) (allD c rs : Nat), loB ((frM c (f + 1) rs : Nat) - (frM c f rs : Nat)) (allD c rs : Nat))
def Ws : Sp := fun vs H Q _ => ∃ (c f : Nat) (a : Addr) (ps : List Addr) (rs : List Rn), vs = [.int c, .int f, .ref a] /\ CR H a ps c rs /\ Pa c rs = 1 /\ f + 1 <= c /\ allD c rs < 2 ^ 9000 /\ ∀ (p : Addr) (H' : Hp), H p = none -> Same H H' -> H' p = some (tupF (gnF c f rs)) -> Q (.ref p) H'
theorem Iq {c f : Nat} {a : Addr} {ps : List Addr} {rs : List Rn} {H : Hp} {Q : VK} {E : XK} (R : CR H a ps c rs) (hw : Pa c rs = 1) (hf : f + 1 <= c) (hl : allD c rs < 2 ^ 9000) (q : ∀ (p : Addr) (H' : Hp), H p = none -> Same H H' -> H' p = some (tupF (gnF c f rs)) -> Q (.ref p) H') : Ws [.int c, .int f, .ref a] H Q E := ⟨c, f, a, ps, rs, rfl, R, hw, hf, hl, q⟩
theorem Jv {c f N : Nat} {rs : List Rn} (hf : f <= c) (ft : FitR c c rs) (hw : Pa c rs = 1) (hl : allD c rs < 2 ^ N) : (chF c f rs).1.natAbs < 2 ^ N /\ (chF c f rs).2.natAbs < 2 ^ N := by
 have h1 := nv (frM c f rs : Nat) (allD c rs : Nat)
 have h2 := qv (frM c f rs : Nat) (allD c rs : Nat)
 have h3 := Ft hf ft hw
 rw [Int.natAbs_natCast] at h1 h2
 exact ⟨Nat.lt_of_le_of_lt (Nat.le_trans h1 h3) hl, Nat.lt_of_le_of_lt h2 hl⟩
end BL
namespace BL
open PySem PySem.Spec PyProof.Rows L2 BR
def Fn (K : PySem.W.Frag) : Sp := fun vs H Q _ => ∃ (a b : Addr) (p q : Int × Int), vs = [.ref a, .ref b] /\ SqT K H a [.int p.1, .int p.2] /\ SqT K H b [.int q.1, .int q.2] /\ Big p /\ Big q /\ Q (.bl (ltF p q)) H
theorem Wc {K : PySem.W.Frag} {a b : Addr} {p q : Int × Int} {H : Hp} {Q : VK} {E : XK} (h1 : SqT K H a [.int p.1, .int p.2]) (h2 : SqT K H b [.int q.1, .int q.2]) (h3 : Big p) (h4 : Big q) (k : Q (.bl (ltF p q)) H) : Fn K [.ref a, .ref b] H Q E := ⟨a, b, p, q, rfl, h1, h2, h3, h4, k⟩
def Few (c : Nat) (rs : List Rn) (p : Int × Int) (m : Nat) : Prop := (frM c m rs : Int) * p.2 < p.1 * (allD c rs : Nat)
theorem zp {c m : Nat} {rs : List Rn} {p : Int × Int} (ft : FitR c c rs) : ltF (chF c m rs) p = true ↔ Few c rs p m := by
 have ap := Od ft
 have hb : (0 : Int) < (allD c rs : Nat) := by omega
 have c1 := se (t := (frM c m rs : Nat)) hb
 have p1 := pk (t := (frM c m rs : Nat)) hb
 unfold ltF Few chF
 rw [decide_eq_true_eq]
 show loT (frM c m rs : Nat) (allD c rs : Nat) * p.2 < p.1 * loB (frM c m rs : Nat) (allD c rs : Nat) ↔ _
 generalize loT (frM c m rs : Nat) (allD c rs : Nat) = x at *
 generalize loB (frM c m rs : Nat) (allD c rs : Nat) = y at *
 have e1 : x * p.2 * (allD c rs : Nat) = (frM c m rs : Nat) * p.2 * y := by
  rw [Int.mul_right_comm, c1, Int.mul_right_comm]
 have e2 : p.1 * y * (allD c rs : Nat) = p.1 * (allD c rs : Nat) * y := Int.mul_right_comm _ _ _
 constructor
 . intro h
   have := Int.mul_lt_mul_of_pos_right h hb
   rw [e1, e2] at this
   exact Int.lt_of_mul_lt_mul_right this (by omega)
 . intro h
   have := Int.mul_lt_mul_of_pos_right h p1
   rw [<- e1, <- e2] at this
   exact Int.lt_of_mul_lt_mul_right this (by omega)
theorem Few.less {c m n : Nat} {rs : List Rn} {p : Int × Int} (ft : FitR c c rs) (hw : Pa c rs = 1) (hp : 0 < p.2) (h : Few c rs p n) (h1 : m <= n) (h2 : n <= c) : Few c rs p m := by
 have mo := Pr ft hw h1 h2
 unfold Few at *
 have : (frM c m rs : Int) * p.2 <= (frM c n rs : Int) * p.2 := Int.mul_le_mul_of_nonneg_right (by omega) (by omega)
 omega
theorem gk {c : Nat} {rs : List Rn} {p : Int × Int} (ft : FitR c c rs) (hw : Pa c rs = 1) (h : p.1 <= p.2) : ¬ Few c rs p c := by
 unfold Few
 rw [Bv ft hw, Int.mul_comm]
 have : p.1 * (allD c rs : Nat) <= p.2 * (allD c rs : Nat) := Int.mul_le_mul_of_nonneg_right h (by omega)
 omega
structure Wish (p : Int × Int) : Prop where
 p0 : 0 <= p.1
 p1 : p.1 <= p.2
 p2 : 0 < p.2
 bg : Big p
def Zk : Sp := fun vs H Q _ => ∃ (c : Nat) (a w : Addr) (ps : List Addr) (rs : List Rn) (p : Int × Int), vs = [.int c, .ref a, .ref w] /\ CR H a ps c rs /\ Pa c rs = 1 /\ H w = some (tupF p) /\ Wish p /\ allD c rs < 2 ^ 3900 /\ ∀ (n : Nat) (H' : Hp), Same H H' -> n <= c -> ¬ Few c rs p n -> (∀ m, m < n -> Few c rs p m) -> Q (.int (n : Nat)) H'
theorem km {c : Nat} {a w : Addr} {ps : List Addr} {rs : List Rn} {p : Int × Int} {H : Hp} {Q : VK} {E : XK} (R : CR H a ps c rs) (hw : Pa c rs = 1) (hp : H w = some (tupF p)) (W : Wish p) (hb : allD c rs < 2 ^ 3900) (q : ∀ (n : Nat) (H' : Hp), Same H H' -> n <= c -> ¬ Few c rs p n -> (∀ m, m < n -> Few c rs p m) -> Q (.int (n : Nat)) H') : Zk [.int c, .ref a, .ref w] H Q E := ⟨c, a, w, ps, rs, p, rfl, R, hw, hp, W, hb, q⟩
theorem Kv {c f : Nat} {rs : List Rn} (hf : f <= c) (ft : FitR c c rs) (hw : Pa c rs = 1) (hl : allD c rs < 2 ^ 3900) : Big (chF c f rs) := by
 obtain ⟨h1, h2⟩ := Jv hf ft hw hl
 have : (2 : Nat) ^ 3900 <= 2 ^ 4000 := Nat.pow_le_pow_right (by decide) (by decide)
 exact ⟨by omega, by omega⟩
end BL
namespace L2
open PySem PySem.Spec PyProof.Rows
section
variable {κ : Type} [DecidableEq κ]
def valV (kvs : List (κ × V)) (k : κ) : Option V := (kvs.find? fun kv => decide (kv.1 = k)).map (·.2)
def putK (kvs : List (κ × V)) (k : κ) (v : V) : List (κ × V) :=
 if (kvs.any fun kv => decide (kv.1 = k)) = true then kvs.map (fun kv => if kv.1 = k then (kv.1, v) else kv) else kvs ++ [(k, v)]
theorem RelO.getD {o : Option V} {u : Option Value} {d : V} {d' : Value} (r : RelO o u) (rd : RelV d d') : RelV (o.getD d) (u.getD d') := by
 cases o with
 | none => cases u with
  | none => exact rd
  | some _ => exact (show False from r).elim
 | some _ => cases u with
  | none => exact (show False from r).elim
  | some _ => exact r
theorem KV.any {kvs : List (κ × V)} {vs : List (κ × Value)} (r : KV kvs vs) (k : κ) : (kvs.any fun kv => decide (kv.1 = k)) = vs.any fun kv => decide (kv.1 = k) := by
 unfold KV at r
 induction r with
 | nil => rfl
 | cons h t ih => rw [List.any_cons, List.any_cons, ih, h.1]
theorem KV.length {kvs : List (κ × V)} {vs : List (κ × Value)} (r : KV kvs vs) : kvs.length = vs.length := Paired.length r
end
def DGet (H : Hp) (a : Addr) (y : V) (r : Option V) : Prop :=
 (∃ kvs k, Rd H a (.dK kvs) /\ y = kV k /\ r = valV kvs k) \/ ∃ kvs k b, Rd H a (.dT kvs) /\ y = .ref b /\ H b = some (.tup (k.map kV)) /\ r = valV kvs k
def DPut (H : Hp) (a : Addr) (y v : V) (H' : Hp) : Prop :=
 (∃ kvs k, H a = some (.dK kvs) /\ y = kV k /\ kvs.length < sizeLine /\ H' = upd H a (.dK (putK kvs k v))) \/
 ∃ kvs k b, H a = some (.dT kvs) /\ y = .ref b /\ H b = some (.tup (k.map kV)) /\ kvs.length < sizeLine /\ H' = upd H a (.dT (putK kvs k v))
theorem DGet.k {H : Hp} {a : Addr} {kvs : List (Key × V)} {k : Key} (e : H a = some (.dK kvs)) : DGet H a (kV k) (valV kvs k) := .inl ⟨kvs, k, .inl e, rfl, rfl⟩
theorem DGet.t {H : Hp} {a b : Addr} {kvs : List (List Key × V)} {k : List Key} (e : H a = some (.dT kvs)) (eb : H b = some (.tup (k.map kV))) : DGet H a (.ref b) (valV kvs k) := .inr ⟨kvs, k, b, .inl e, rfl, eb, rfl⟩
theorem DPut.k {H : Hp} {a : Addr} {kvs : List (Key × V)} {k : Key} {v : V} (e : H a = some (.dK kvs)) (hl : kvs.length < sizeLine) : DPut H a (kV k) v (upd H a (.dK (putK kvs k v))) := .inl ⟨kvs, k, e, rfl, hl, rfl⟩
theorem DPut.t {H : Hp} {a b : Addr} {kvs : List (List Key × V)} {k : List Key} {v : V} (e : H a = some (.dT kvs)) (eb : H b = some (.tup (k.map kV))) (hl : kvs.length < sizeLine) :
 DPut H a (.ref b) v (upd H a (.dT (putK kvs k v))) := .inr ⟨kvs, k, b, e, rfl, eb, hl, rfl⟩
section
variable {X : Cx} {pins : List (Addr × Obj)} {σ : St} {H : Hp} {s : Shared} {a : Addr} {y v : V} {u r : Value} {o : Option V} {A : Around} {E : Value -> Shared -> Prop}
end
end L2
namespace L2
open PySem PySem.Spec PyProof.Rows
end L2
namespace L2
open PySem PySem.Spec PyProof.Rows
theorem r_eqTS {K : PySem.W.Frag} {H : Hp} {Q : VK} {a b : Addr} {ns ms : List Int} (h1 : SqT K H a (ns.map V.int)) (h2 : SqT K H b (ms.map V.int)) (h : Q (.bl (decide (ns = ms))) H) : rEqA K (.ref a) (.ref b) H Q :=
 r_eqDt (.t (Zd ns)) (.t (Zd ms)) rfl (by unfold dep; rw [tj]; decide) (by unfold IsD; exact ⟨a, _, rfl, h1, fg ns⟩) (by unfold IsD; exact ⟨b, _, rfl, h2, fg ms⟩) (by unfold eqD; rw [qj]; exact h)
end L2
namespace BL
open PySem PySem.Spec PyProof.Rows L2 BR
def Qi (c f : Nat) (rs : List Rn) : Str := if frM c f rs = allD c rs then "sure" else if frM c f rs = 0 then "shut" else "open"
def jn : Sp := fun vs H Q _ => ∃ (c f : Nat) (a : Addr) (ps : List Addr) (rs : List Rn), vs = [.int c, .int f, .ref a] /\ CF H a ps c f rs /\ allD c rs < 2 ^ 9000 /\ ∀ H', Same H H' -> Q (.str (Qi c f rs)) H'
theorem gn {c f : Nat} {a : Addr} {ps : List Addr} {rs : List Rn} {H : Hp} {Q : VK} {E : XK} (R : CF H a ps c f rs) (hl : allD c rs < 2 ^ 9000) (q : ∀ H', Same H H' -> Q (.str (Qi c f rs)) H') : jn [.int c, .int f, .ref a] H Q E := ⟨c, f, a, ps, rs, rfl, R, hl, q⟩
theorem Ek {c f : Nat} {rs : List Rn} (ft : FitR c c rs) : [(chF c f rs).1, (chF c f rs).2] = [1, 1] ↔ frM c f rs = allD c rs := by
 have ap := Od ft
 have hb : (0 : Int) < (allD c rs : Nat) := by omega
 have c1 := se (t := (frM c f rs : Nat)) hb
 constructor
 . intro h
   have e1 : loT (frM c f rs : Nat) (allD c rs : Nat) = 1 := (List.cons.inj h).1
   have e2 : loB (frM c f rs : Nat) (allD c rs : Nat) = 1 := (List.cons.inj (List.cons.inj h).2).1
   rw [e1, e2] at c1
   omega
 . intro h
   have := lo_one hb
   show [loT (frM c f rs : Nat) (allD c rs : Nat), loB (frM c f rs : Nat) (allD c rs : Nat)] = _
   rw [h, this.1, this.2]
theorem Xp {c f : Nat} {rs : List Rn} (ft : FitR c c rs) : [(chF c f rs).1, (chF c f rs).2] = [0, 1] ↔ frM c f rs = 0 := by
 have ap := Od ft
 have hb : (0 : Int) < (allD c rs : Nat) := by omega
 have c1 := se (t := (frM c f rs : Nat)) hb
 constructor
 . intro h
   have e1 : loT (frM c f rs : Nat) (allD c rs : Nat) = 0 := (List.cons.inj h).1
   have e2 : loB (frM c f rs : Nat) (allD c rs : Nat) = 1 := (List.cons.inj (List.cons.inj h).2).1
   rw [e1, e2] at c1
   omega
 . intro h
   have := mv hb
   show [loT (frM c f rs : Nat) (allD c rs : Nat), loB (frM c f rs : Nat) (allD c rs : Nat)] = _
   rw [h]
   show [loT ((0 : Nat) : Int) (allD c rs : Nat), loB ((0 : Nat) : Int) (allD c rs : Nat)] = _
   rw [show ((0 : Nat) : Int) = 0 from rfl, this.1, this.2]
end BL
namespace L2
open PySem PySem.Spec PyProof.Rows
end L2
namespace BL
open PySem PySem.Spec PyProof.Rows L2 BR
end BL
namespace BR
open MB
def sfx : List Nat -> List Nat
 | [] => []
 | _ :: l => Kb l :: sfx l
theorem Kj : ∀ l : List Nat, (sfx l).length = l.length
 | [] => rfl
 | _ :: l => by show (sfx l).length + 1 = l.length + 1; rw [Kj l]
theorem Lj : ∀ {l : List Nat} {i : Nat}, i < l.length -> (sfx l)[i]? = some (Kb (l.drop (i + 1)))
 | [], _, h => by simp at h
 | _ :: l, 0, _ => rfl
 | _ :: l, i + 1, h => by
  show (sfx l)[i]? = some (Kb (l.drop (i + 1)))
  exact Lj (by simpa using h)
theorem Ko {l : List Nat} {i x : Nat} (h : l[i]? = some x) : Kb (l.drop i) = x * Kb (l.drop (i + 1)) := by
 have hi : i < l.length := (List.getElem?_eq_some_iff.mp h).1
 rw [List.drop_eq_getElem_cons hi]
 rw [List.getElem?_eq_getElem hi] at h
 rw [Option.some.inj h]
 rfl
def bsT (l w : List Nat) (m : Nat) : Nat -> List Bool
 | 0 => []
 | i + 1 => bsT l w m i ++ (if l.getD i 0 = 0 then [] else [decide (w.getD i 0 = 0) || decide (w.getD i 0 = m)])
theorem gq (l w : List Nat) (m : Nat) : ∀ i, (bsT l w m i).length <= i
 | 0 => Nat.le_refl _
 | i + 1 => by
  have := gq l w m i
  unfold bsT
  split
  . simp; omega
  . simp; omega
def SetT (l w : List Nat) (m i : Nat) : Prop := ∀ j, j < i -> l.getD j 0 = 0 \/ w.getD j 0 = 0 \/ w.getD j 0 = m
theorem iq (l w : List Nat) (m : Nat) : ∀ i, (bsT l w m i).all id = true ↔ SetT l w m i
 | 0 => ⟨fun _ j hj => absurd hj (Nat.not_lt_zero _), fun _ => rfl⟩
 | i + 1 => by
  have ih := iq l w m i
  have e : (bsT l w m (i + 1)).all id = ((bsT l w m i).all id && (if l.getD i 0 = 0 then true else (decide (w.getD i 0 = 0) || decide (w.getD i 0 = m)))) := by
   show (bsT l w m i ++ _).all id = _
   rw [List.all_append]
   congr 1
   split
   . rfl
   . simp
  rw [e, Bool.and_eq_true, ih]
  constructor
  . rintro ⟨h1, h2⟩ j hj
    rcases Nat.lt_or_ge j i with h | h
    . exact h1 j h
    . have : j = i := by omega
      subst this
      split at h2
      . next z => exact .inl z
      . rw [Bool.or_eq_true, decide_eq_true_eq, decide_eq_true_eq] at h2
        exact .inr h2
  . intro h
    refine ⟨fun j hj => h j (by omega), ?_⟩
    split
    . rfl
    . next z =>
      rw [Bool.or_eq_true, decide_eq_true_eq, decide_eq_true_eq]
      exact (h i (by omega)).resolve_left z
def stRd (c f : Nat) (rs : List Rn) (i : Nat) : List Nat := if i = 0 then [1] else rdl c f c (one c f 1) (rs.take i)
def stWt (c f : Nat) (rs : List Rn) (i : Nat) : List Nat := if i = 0 then [frM c f rs] else wB c f (Pa c (rs.take i)) (rs.drop i)
def stLt (c : Nat) (rs : List Rn) (i : Nat) : Nat := Kb ((drs c c rs).drop i)
def St (c f : Nat) (rs : List Rn) (i : Nat) : Prop := SetT (stRd c f rs i) (stWt c f rs i) (stLt c rs i) (stRd c f rs i).length
theorem Bq {c f : Nat} {rs : List Rn} {i : Nat} (h : i <= rs.length) : ([1] :: road c f rs)[i]? = some (stRd c f rs i) := by
 cases i with
 | zero => rfl
 | succ i =>
  show (road c f rs)[i]? = some (stRd c f rs (i + 1))
  have hl : i < (road c f rs).length := by unfold road; rw [Me]; omega
  obtain ⟨l, hl'⟩ : ∃ l, (road c f rs)[i]? = some l := ⟨_, List.getElem?_eq_getElem hl⟩
  rw [hl']
  have := Vj hl'
  rw [this]
  rfl
theorem zq {c f : Nat} {rs : List Rn} {i : Nat} (h : i <= rs.length) : ([frM c f rs] :: wths c f rs)[i]? = some (stWt c f rs i) := by
 cases i with
 | zero => rfl
 | succ i =>
  show (wths c f rs)[i]? = some (stWt c f rs (i + 1))
  exact je (b := c) (by omega)
theorem Cq {c : Nat} {rs : List Rn} {i : Nat} (h : i <= rs.length) : (allD c rs :: sfx (drs c c rs))[i]? = some (stLt c rs i) := by
 cases i with
 | zero => rfl
 | succ i =>
  show (sfx (drs c c rs))[i]? = some (stLt c rs (i + 1))
  exact Lj (by rw [wc]; omega)
theorem st_len {c f : Nat} {rs : List Rn} {i : Nat} (hw : Pa c rs = 1) : (stWt c f rs i).length = (stRd c f rs i).length := by
 unfold stWt stRd
 by_cases z : i = 0
 . rw [if_pos z, if_pos z]
   rfl
 . rw [if_neg z, if_neg z, Oe _ _ _ (Tb _ _ _), Fs]
   rw [<- bc, List.take_append_drop]
   exact hw
theorem Aq {c f : Nat} {rs : List Rn} {i : Nat} (ft : FitR c c rs) (hc : 1 <= c) : (stRd c f rs i).length <= c + 1 := by
 unfold stRd
 by_cases z : i = 0
 . rw [if_pos z]
   show 1 <= c + 1
   omega
 . rw [if_neg z, Oe _ _ _ (Tb _ _ _)]
   have := Nd (ft.take i) hc (Nat.le_refl _)
   omega
theorem st_end {c f : Nat} {rs : List Rn} (hf : f <= c) (ft : FitR c c rs) (hw : Pa c rs = 1) : St c f rs rs.length := by
 intro j hj
 right
 unfold stWt stLt
 have e0 : (drs c c rs).drop rs.length = [] := List.drop_eq_nil_of_le (by rw [wc]; exact Nat.le_refl _)
 rw [e0]
 by_cases z : rs.length = 0
 . rw [if_pos z]
   have : rs = [] := List.eq_nil_of_length_eq_zero z
   subst this
   have e := Ft hf ft hw
   have e2 : allD c [] = 1 := rfl
   cases j with
   | zero => show frM c f [] = 0 \/ frM c f [] = 1; omega
   | succ j => left; rfl
 . rw [if_neg z, List.drop_length]
   match j with
   | 0 => exact .inl rfl
   | 1 => exact .inr rfl
   | j + 2 => exact .inl rfl
end BR
namespace BL
open PySem PySem.Spec PyProof.Rows L2 BR
def spDrB : Sp := fun vs H Q _ => ∃ (c : Nat) (a : Addr) (ps : List Addr) (rs : List Rn), vs = [.int c, .ref a] /\ CR H a ps c rs /\ ∀ (p : Addr) (H' : Hp), H p = none -> Same H H' -> H' p = some (lstN (sfx (drs c c rs))) -> Q (.ref p) H'
theorem cu {c : Nat} {a : Addr} {ps : List Addr} {rs : List Rn} {H : Hp} {Q : VK} {E : XK} (R : CR H a ps c rs) (q : ∀ (p : Addr) (H' : Hp), H p = none -> Same H H' -> H' p = some (lstN (sfx (drs c c rs))) -> Q (.ref p) H') : spDrB [.int c, .ref a] H Q E := ⟨c, a, ps, rs, rfl, R, q⟩
def spIsS : Sp := fun vs H Q _ => ∃ (p w : Addr) (l v : List Nat) (m : Nat), vs = [.ref p, .ref w, .int m] /\ H p = some (lstN l) /\ H w = some (lstN v) /\ l.length = v.length /\ l.length < 1000 /\ ∀ H' k, Same H H' -> (k = true ↔ SetT l v m l.length) -> Q (.bl k) H'
theorem Zt {p w : Addr} {l v : List Nat} {m : Nat} {H : Hp} {Q : VK} {E : XK} (h1 : H p = some (lstN l)) (h2 : H w = some (lstN v)) (h3 : l.length = v.length) (h4 : l.length < 1000) (q : ∀ H' k, Same H H' -> (k = true ↔ SetT l v m l.length) -> Q (.bl k) H') : spIsS [.ref p, .ref w, .int m] H Q E := ⟨p, w, l, v, m, rfl, h1, h2, h3, h4, q⟩
def Ts : Sp := fun vs H Q _ => ∃ (c f : Nat) (a : Addr) (ps : List Addr) (rs : List Rn), vs = [.int c, .int f, .ref a] /\ CF H a ps c f rs /\ ∀ (H' : Hp) (n : Nat), Same H H' -> n <= rs.length -> St c f rs n -> (∀ m, m < n -> ¬ St c f rs m) -> Q (.int (n : Nat)) H'
theorem Gq {c f : Nat} {a : Addr} {ps : List Addr} {rs : List Rn} {H : Hp} {Q : VK} {E : XK} (R : CF H a ps c f rs) (q : ∀ (H' : Hp) (n : Nat), Same H H' -> n <= rs.length -> St c f rs n -> (∀ m, m < n -> ¬ St c f rs m) -> Q (.int (n : Nat)) H') : Ts [.int c, .int f, .ref a] H Q E := ⟨c, f, a, ps, rs, rfl, R, q⟩
theorem jq (a x : Int) : (a == x) = decide (x = a) := by
 by_cases h : a = x
 . subst h; simp
 . rw [decide_eq_false (fun z => h z.symm)]; simpa using h
theorem r_inT2 {K : PySem.W.Frag} {H : Hp} {Q : VK} {p : Addr} {x a b : Int} (h : H p = some (.tup [.int a, .int b])) (q : Q (.bl (decide (x = a) || decide (x = b))) H) : rIn K false (.int x) (.ref p) H Q := by
 refine ⟨p, _, rfl, .inr (SqT.of h), rfl, rfl, ?_⟩
 have e : inV (.int x) [.int a, .int b] = (decide (x = a) || decide (x = b)) := by
  show ((a == x) || ((b == x) || false)) = _
  rw [Bool.or_false]
  have e1 : (a == x) = decide (x = a) := BL.jq _ _
  have e2 : (b == x) = decide (x = b) := BL.jq _ _
  rw [e1, e2]
 rw [if_neg (by decide), e]
 exact q
theorem TsAt.cons {α : Type} {ob : α -> HO} {H : Hp} {f g p : Addr} {ps : List Addr} {qs : List α} {q : α} (F : TsAt ob H f ps qs) (hg : H g = some (.lst ([.ref p] ++ ps.map V.ref))) (hp : H p = some (ob q)) : TsAt ob H g (p :: ps) (q :: qs) := by
 refine ⟨hg, fun i r h => ?_, by simp [F.ln]⟩
 match i, h with
 | 0, h =>
  have e : p = r := Option.some.inj h
  subst e
  exact ⟨q, rfl, hp⟩
 | i + 1, h => exact F.it i r h
end BL
namespace BL
open PySem PySem.Spec PyProof.Rows L2 BR
theorem fit_on {c s : Nat} : ∀ {r : Rn}, Fit c s r -> fitO c s (rnOn r) = true
 | .lot n, h => decide_eq_true ⟨by have := h.1; omega, by have := h.2.1; omega, rfl, by have := h.2.2; omega⟩
 | .vote n q w, ⟨h1, h2, h3, h4, h5, h6, h7⟩ => by
  show fitO c s (.vt true n q (wdS w)) = true
  rw [Jp ⟨by omega, by omega⟩]
  refine decide_eq_true ⟨by omega, by omega, by omega, ?_⟩
  cases w with
  | council => rfl
  | bench => have := h6 rfl; show ((n : Int) <= s); omega
  | stay => have := h7 rfl; show ((n : Int) = s); omega
theorem wk {c : Nat} : ∀ {rs : List Rn} {s k : Nat}, FitR c s rs -> fltA c s k (rs.map rnOn) = none
 | [], _, _, _ => rfl
 | r :: rs, s, k, h => by
  show (if fitO c s (rnOn r) = true then fltA c (rnOn r).n (k + 1) (rs.map rnOn) else some k) = none
  rw [if_pos (fit_on h.1), vl]
  exact wk h.2
theorem vi : ∀ (rs : List Rn) (s : Nat), Bb s (rs.map rnOn) = (Pa s rs : Nat)
 | [], _ => rfl
 | r :: rs, s => by
  show Bb (rnOn r).n (rs.map rnOn) = (Pa r.n rs : Nat)
  rw [vl]
  exact vi rs r.n
theorem on_fit {c s : Nat} (hs : 1 <= s) : ∀ {o : On}, fitO c s o = true -> ∃ r, o = rnOn r /\ Fit c s r
 | .lt b n, h => by
  obtain ⟨h1, h2, h3, h4⟩ := of_decide_eq_true h
  subst h3
  exact ⟨.lot n.toNat, by show On.lt true n = .lt true (n.toNat : Nat); rw [show ((n.toNat : Nat) : Int) = n by omega], by omega, by omega, by omega⟩
 | .vt b n q w, h => by
  have h' : (decide (1 <= n /\ n <= 60 /\ b = true) && fitV c s n q w) = true := h
  obtain ⟨e1, e2⟩ := Bool.and_eq_true_iff.mp h'
  obtain ⟨h1, h2, h3⟩ := of_decide_eq_true e1
  obtain ⟨h4, h5, h6, h7⟩ := of_decide_eq_true e2
  subst h3
  have en : ((n.toNat : Nat) : Int) = n := by omega
  have eq : ((q.toNat : Nat) : Int) = q := by omega
  by_cases z1 : w = "bench"
  . subst z1
    rw [if_pos rfl] at h7
    exact ⟨.vote n.toNat q.toNat .bench, by show On.vt true n q "bench" = .vt true (n.toNat : Nat) (q.toNat : Nat) "bench"; rw [en, eq], by omega, by omega, by omega, by omega, by omega, fun _ => by omega, fun z => nomatch z⟩
  . rw [if_neg z1] at h7
    by_cases z2 : w = "stay"
    . subst z2
      rw [if_pos rfl] at h7
      exact ⟨.vote n.toNat q.toNat .stay, by show On.vt true n q "stay" = .vt true (n.toNat : Nat) (q.toNat : Nat) "stay"; rw [en, eq], by omega, by omega, by omega, by omega, by omega, fun z => (nomatch z), fun _ => by omega⟩
    . rw [if_neg z2] at h7
      subst h7
      exact ⟨.vote n.toNat q.toNat .council, by show On.vt true n q "council" = .vt true (n.toNat : Nat) (q.toNat : Nat) "council"; rw [en, eq], by omega, by omega, by omega, by omega, by omega, fun z => (nomatch z), fun z => nomatch z⟩
theorem Uo {c : Nat} : ∀ {os : List On} {s k : Nat}, 1 <= s -> fltA c s k os = none -> ∃ rs : List Rn, os = rs.map rnOn /\ FitR c s rs
 | [], _, _, _, _ => ⟨[], rfl, trivial⟩
 | o :: os, s, k, hs, h => by
  have h' : (if fitO c s o = true then fltA c o.n (k + 1) os else some k) = none := h
  by_cases z : fitO c s o = true
  . rw [if_pos z] at h'
    obtain ⟨r, rfl, hr⟩ := on_fit hs z
    rw [vl] at h'
    obtain ⟨rs, rfl, hrs⟩ := Uo hr.pos.1 h'
    exact ⟨r :: rs, rfl, hr, hrs⟩
  . rw [if_neg z] at h'; cases h'
theorem ts_on {H : Hp} {a : Addr} {ps : List Addr} {rs : List Rn} (R : RwAt H a ps rs) : TsAt onO H a ps (rs.map rnOn) :=
 ⟨R.ls, fun i p h => by
  obtain ⟨r, e, h'⟩ := R.it i p h
  exact ⟨rnOn r, by rw [List.getElem?_map, e]; rfl, by rw [<- yo]; exact h'⟩, by rw [List.length_map]; exact R.ln⟩
theorem ts_rn {H : Hp} {a : Addr} {ps : List Addr} {rs : List Rn} (R : TsAt onO H a ps (rs.map rnOn)) : RwAt H a ps rs :=
 ⟨R.ls, fun i p h => by
  obtain ⟨r, e, h'⟩ := R.it i p h
  rw [List.getElem?_map] at e
  cases w : rs[i]? with
  | none => rw [w] at e; cases e
  | some r' => rw [w] at e; cases e; exact ⟨r', rfl, by rw [yo]; exact h'⟩, by have := R.ln; rw [List.length_map] at this; exact this⟩
theorem on_cr {H : Hp} {a : Addr} {ps : List Addr} {os : List On} {c : Int} (R : TsAt onO H a ps os) (hl : os.length <= 100) (h1 : 1 <= c) (h2 : c <= 500) (hn : fltA c c 0 os = none) : ∃ (n : Nat) (rs : List Rn), c = n /\ CR H a ps n rs /\ os = rs.map rnOn /\ Bb c os = (Pa n rs : Nat) := by
 obtain ⟨n, rfl⟩ : ∃ n : Nat, c = n := ⟨c.toNat, by omega⟩
 obtain ⟨rs, rfl, ft⟩ := Uo (c := n) (s := n) (by omega) hn
 refine ⟨n, rs, rfl, ⟨ts_rn R, by omega, by omega, ft, by rw [List.length_map] at hl; exact hl⟩, rfl, vi rs n⟩
theorem jv (rs : List Rn) : lstO (rs.map rnOn) = (zs (szs rs)).map V.int := by
 unfold lstO zs szs
 rw [List.map_map, List.map_map, List.map_map]
 refine List.map_congr_left fun r _ => ?_
 show V.int (rnOn r).n = V.int (r.n : Nat)
 rw [vl]
section
variable {cC cR cN cW : Addr} {H : Hp} {Q : VK} {E : XK}
theorem Zg {c : Nat} {a : Addr} {ps : List Addr} {rs : List Rn} (R : CR H a ps c rs) (q : ∀ (p : Addr) (H' : Hp), H p = none -> Same H H' -> H' p = some (lstN (c :: szs rs)) -> Q (.ref p) H') : sf cC cR [.int c, .ref a] H Q E := by
 have c1 := R.c1
 have c2 := R.c2
 have ln := R.ln
 refine Je (ts_on R.rw) (by rw [List.length_map]; omega) (fun h => by omega) fun _ _ => ⟨fun k hk => ?_, fun _ p H' hp s h => q p H' hp s ?_⟩
 . rw [wk R.ft] at hk; cases hk
 . rw [jv] at h; exact h
theorem Vg {c : Nat} {a : Addr} {ps : List Addr} {rs : List Rn} (R : CR H a ps c rs) (q : ∀ H', Same H H' -> Q (.bl (decide (Pa c rs = 1))) H') : rf cC cR [.int c, .ref a] H Q E := by
 have c1 := R.c1
 have c2 := R.c2
 have ln := R.ln
 refine Ug (ts_on R.rw) (by rw [List.length_map]; omega) (fun h => by omega) fun _ _ => ⟨fun k hk => ?_, fun _ H' s => ?_⟩
 . rw [wk R.ft] at hk; cases hk
 . rw [vi, show decide (((Pa c rs : Nat) : Int) = 1) = decide (Pa c rs = 1) by by_cases z : Pa c rs = 1 <;> simp [z]; omega]
   exact q H' s
def BadR (cC cR : Addr) (c : Int) (a : Addr) (H : Hp) (E : XK) : Prop := ∃ (ps : List Addr) (os : List On), TsAt onO H a ps os /\ os.length < 200 /\ Due cC cR c os H E
theorem BadR.same {c : Int} {a : Addr} {H1 : Hp} (b : BadR cC cR c a H E) (s : Same H H1) : BadR cC cR c a H1 E := by
 obtain ⟨ps, os, R, hl, d⟩ := b
 exact ⟨ps, os, R.same s, hl, d.same s⟩
def BadW (cC cR cN : Addr) (c : Int) (a : Addr) (H : Hp) (E : XK) : Prop := BadR cC cR c a H E \/ ∃ (n : Nat) (ps : List Addr) (rs : List Rn), c = n /\ CR H a ps n rs /\ ¬ Pa n rs = 1 /\ NoC cN H E
theorem BadW.same {c : Int} {a : Addr} {H1 : Hp} (b : BadW cC cR cN c a H E) (s : Same H H1) : BadW cC cR cN c a H1 E := by
 rcases b with b | ⟨n, ps, rs, e, R, hn, x⟩
 . exact .inl (b.same s)
 . exact .inr ⟨n, ps, rs, e, R.same s, hn, x.same s⟩
def BadF (cC cR cN : Addr) (c f : Int) (a : Addr) (H : Hp) (E : XK) : Prop := BadW cC cR cN c a H E \/ ∃ (n : Nat) (ps : List Addr) (rs : List Rn), c = n /\ CR H a ps n rs /\ Pa n rs = 1 /\ (f < 0 \/ c < f) /\ NoC cC H E
theorem BadF.same {c f : Int} {a : Addr} {H1 : Hp} (b : BadF cC cR cN c f a H E) (s : Same H H1) : BadF cC cR cN c f a H1 E := by
 rcases b with b | ⟨n, ps, rs, e, R, hn, hf, x⟩
 . exact .inl (b.same s)
 . exact .inr ⟨n, ps, rs, e, R.same s, hn, hf, x.same s⟩
def BadG (cC cR cN : Addr) (c f : Int) (a : Addr) (H : Hp) (E : XK) : Prop := BadF cC cR cN c f a H E \/ ∃ (n : Nat) (ps : List Addr) (rs : List Rn), c = n /\ CR H a ps n rs /\ Pa n rs = 1 /\ f = c /\ NoC cC H E
def BadE (cC cR cN cW : Addr) (c : Int) (a w : Addr) (H : Hp) (E : XK) : Prop := BadW cC cR cN c a H E \/ ∃ (n : Nat) (ps : List Addr) (rs : List Rn) (p : Int × Int), c = n /\ CR H a ps n rs /\ Pa n rs = 1 /\ H w = some (tupF p) /\ Big p /\ 0 < p.2 /\ (p.1 < 0 \/ p.2 < p.1) /\ NoC cW H E
def orR (cC cR : Addr) (s : Sp) : Sp := fun vs H Q E => ∃ (c : Int) (a : Addr), vs = [.int c, .ref a] /\ (BadR cC cR c a H E \/ s [.int c, .ref a] H Q E)
def orW (cC cR cN : Addr) (s : Sp) : Sp := fun vs H Q E => ∃ (c : Int) (a : Addr), vs = [.int c, .ref a] /\ (BadW cC cR cN c a H E \/ s [.int c, .ref a] H Q E)
def orF (cC cR cN : Addr) (s : Sp) : Sp := fun vs H Q E => ∃ (c f : Int) (a : Addr), vs = [.int c, .int f, .ref a] /\ (BadF cC cR cN c f a H E \/ s [.int c, .int f, .ref a] H Q E)
def orG (cC cR cN : Addr) (s : Sp) : Sp := fun vs H Q E => ∃ (c f : Int) (a : Addr), vs = [.int c, .int f, .ref a] /\ (BadG cC cR cN c f a H E \/ s [.int c, .int f, .ref a] H Q E)
def orE (cC cR cN cW : Addr) (s : Sp) : Sp := fun vs H Q E => ∃ (c : Int) (a w : Addr), vs = [.int c, .ref a, .ref w] /\ (BadE cC cR cN cW c a w H E \/ s [.int c, .ref a, .ref w] H Q E)
variable {s : Sp} {c f : Int} {a w : Addr}
theorem vm (h : s [.int c, .ref a] H Q E) : orR cC cR s [.int c, .ref a] H Q E := ⟨c, a, rfl, .inr h⟩
theorem orR_b (h : BadR cC cR c a H E) : orR cC cR s [.int c, .ref a] H Q E := ⟨c, a, rfl, .inl h⟩
theorem kr (h : s [.int c, .ref a] H Q E) : orW cC cR cN s [.int c, .ref a] H Q E := ⟨c, a, rfl, .inr h⟩
theorem orW_b (h : BadW cC cR cN c a H E) : orW cC cR cN s [.int c, .ref a] H Q E := ⟨c, a, rfl, .inl h⟩
theorem Dc (h : s [.int c, .int f, .ref a] H Q E) : orF cC cR cN s [.int c, .int f, .ref a] H Q E := ⟨c, f, a, rfl, .inr h⟩
theorem Yd (h : BadF cC cR cN c f a H E) : orF cC cR cN s [.int c, .int f, .ref a] H Q E := ⟨c, f, a, rfl, .inl h⟩
theorem orG_g (h : s [.int c, .int f, .ref a] H Q E) : orG cC cR cN s [.int c, .int f, .ref a] H Q E := ⟨c, f, a, rfl, .inr h⟩
theorem orG_b (h : BadG cC cR cN c f a H E) : orG cC cR cN s [.int c, .int f, .ref a] H Q E := ⟨c, f, a, rfl, .inl h⟩
theorem orE_g (h : s [.int c, .ref a, .ref w] H Q E) : orE cC cR cN cW s [.int c, .ref a, .ref w] H Q E := ⟨c, a, w, rfl, .inr h⟩
theorem orE_b (h : BadE cC cR cN cW c a w H E) : orE cC cR cN cW s [.int c, .ref a, .ref w] H Q E := ⟨c, a, w, rfl, .inl h⟩
end
end BL
namespace L2
open PySem PySem.Spec PyProof.Rows
end L2
namespace L2
open PySem PySem.Spec PyProof.Rows
end L2
namespace L2
open PySem PySem.Spec PyProof.Rows
local macro_rules | `(tactic| walk_at "ad") => `(tactic| first | (intro q; have q' : @Eq Nat _ _ := q; omega) | omega)
end L2
namespace L2
open PySem PySem.Spec PyProof.Rows PySem.SeqAt
section
variable {X : Cx} {K : PySem.W.Frag}
def qt : V -> List V -> Hp -> VK -> Prop := fun x vs H Q => ∃ (l : Addr) (bs : List Bool) (k : Bool), x = .ref l /\ vs = [.bl k] /\ H l = some (.lst (bs.map V.bl)) /\ Q (.int ((bs.countP (· == k) : Nat) : Int)) H
theorem rh : ∀ {bs : List Bool} {us : List Value}, Vals (bs.map V.bl) us -> us = bs.map Value.bool
 | [], _, .nil => rfl
 | b :: bs, _, .cons r t => by
  have r' : _ = Value.bool b := r
  rw [r', rh t]
  rfl
theorem Gr : MtM X "list.count" qt := by
 intro pins s σ H x vs v us Q I rx rv h
 obtain ⟨l, bs, k, rfl, rfl, hH, q⟩ := h
 cases rx
 obtain ⟨u1, rfl, r1⟩ := vals1 rv
 obtain rfl : u1 = Value.bool k := r1
 obtain ⟨z, its, n, r, hl, e⟩ := I.lstM hH
 obtain rfl : its = bs.map Value.bool := rh r
 refine call_meets PySem.F.slot_list_count ⟨_, e, rfl⟩ PySem.F.entry_list_count (PySem.F.args_list_count_2 _ _) (list_countAt l (bs.map Value.bool).toArray n _ _ (.bool k) (isBoolOf k)) ⟨e, fun y hy => ?_, ?_⟩
 . have hy' : y ∈ bs.map Value.bool := by simpa using hy
   obtain ⟨b, _, rfl⟩ := List.mem_map.mp hy'
   exact EqAt.bool_bool b k
 . refine ⟨.int _, H, I.tok _, ⟨_, rfl⟩, ?_⟩
   rw [show (bs.map Value.bool).toArray.toList = bs.map Value.bool from rfl, List.countP_map]
   exact q
theorem Vh {H : Hp} {Q : VK} {l : Addr} {bs : List Bool} {k : Bool} (h1 : H l = some (.lst (bs.map V.bl))) (h : Q (.int ((bs.countP (· == k) : Nat) : Int)) H) : qt (.ref l) [.bl k] H Q := ⟨l, bs, k, rfl, rfl, h1, h⟩
end
end L2
namespace L2
open PySem PySem.Spec PyProof.Rows PySem.SeqAt
section
variable {X : Cx} {K : PySem.W.Frag}
def ot : V -> List V -> Hp -> VK -> Prop := fun x vs H Q => ∃ (l : Addr) (bs : List Bool) (k : Bool) (j : Nat), x = .ref l /\ vs = [.bl k] /\ H l = some (.lst (bs.map V.bl)) /\ bs[j]? = some k /\ (∀ m, m < j -> bs[m]? ≠ some k) /\ j < 100 /\ Q (.int (j : Int)) H
theorem Er : MtM X "list.index" ot := by
 intro pins s σ H x vs v us Q I rx rv h
 obtain ⟨l, bs, k, j, rfl, rfl, hH, hj, hno, hs, q⟩ := h
 cases rx
 obtain ⟨u1, rfl, r1⟩ := vals1 rv
 obtain rfl : u1 = Value.bool k := r1
 obtain ⟨z, its, n, r, hl, e⟩ := I.lstM hH
 obtain rfl : its = bs.map Value.bool := rh r
 obtain ⟨hjl, hje⟩ := List.getElem?_eq_some_iff.mp hj
 refine call_meets PySem.F.slot_list_index ⟨_, e, rfl⟩ PySem.F.entry_list_index (PySem.F.args_list_index_2 _ _) (list_indexAt l (bs.map Value.bool).toArray n _ _ (.bool k) (isBoolOf k) j (by simpa using hjl) (by omega) ?_ ?_) ⟨e, fun y hy => ?_, ?_⟩
 . simp [hje, isBoolOf]
 . intro m hm hlt
   have hml : m < bs.length := by simpa using hm
   have := hno m hlt
   rw [List.getElem?_eq_getElem hml] at this
   simp [isBoolOf]
   exact fun z => this (by rw [z])
 . have hy' : y ∈ bs.map Value.bool := by simpa using hy
   obtain ⟨b, _, rfl⟩ := List.mem_map.mp hy'
   exact EqAt.bool_bool b k
 . exact ⟨.int _, H, I.tok _, ⟨_, rfl⟩, q⟩
theorem Uh {H : Hp} {Q : VK} {l : Addr} {bs : List Bool} {k : Bool} (j : Nat) (h1 : H l = some (.lst (bs.map V.bl))) (hj : bs[j]? = some k) (hn : ∀ m, m < j -> bs[m]? ≠ some k) (hs : j < 100) (h : Q (.int (j : Int)) H) : ot (.ref l) [.bl k] H Q := ⟨l, bs, k, j, rfl, rfl, h1, hj, hn, hs, h⟩
end
section
variable {X : Cx} {o e : Expr} {es : List Expr} {to : TE} {t : TA} {name : Str} {apos cpos : Pos} {T id : String} {r : V -> List V -> Hp -> VK -> Prop}
theorem Bt {K : PySem.W.Frag} (hK : X.K = K) (pa : PlainAttrs T) (slot : Slot T name id) (hty : typeOf (.builtin id) = pure (.type "method_descriptor")) (hm : MtR X id r) (ho : PE X o to) (ha : PA X (e :: es) t)
 (hbase : attributeBase o name X.env (eval o X.env) = eval o X.env := by first | rfl | with_unfolding_all rfl)
 (hfew : ((backTo cpos (starEach (e :: es) X.env)).all (fun x => !x.1) && (backToKw cpos (keywordEach [] X.env)).all (fun x => x.1.isSome)
   && decide ((e :: es).length + ([] : List Keyword).length + (if ([] : List Keyword).isEmpty then 0 else 1) < 30)) = true := by first | rfl | with_unfolding_all rfl)
 (hline : (apos.endLine == cpos.line) = true := by first | rfl | with_unfolding_all rfl) (hs : starEach (e :: es) X.env = (false, eval e X.env) :: starEach es X.env := by first | rfl | with_unfolding_all rfl) (hplain : (backTo cpos (starEach es X.env)).any (·.1) = false := by first | rfl | with_unfolding_all rfl) :
 PE X (.Call (.Attribute o name apos) (e :: es) [] cpos) (tBM K T r to t) := by
 subst hK
 exact dj pa slot hty hm ho ha hbase hfew hline hs hplain
end
end L2
namespace BL
open PySem PySem.Spec PyProof.Rows L2 BR
def dueT (wy c f : Int) (p : Int × Int) : Str := if wy < 8 then (if f < 0 \/ c - (if wy = 7 then 1 else 0) < f then "count" else "told") else (if p.1 < 0 \/ p.2 < p.1 then "wish" else "told")
def dueS (wy c f : Int) (os : List On) (p : Int × Int) : Str := if c < 1 \/ 500 < c then "count" else match fltA c c 0 os with
 | some _ => "round"
 | none => if Bb c os = 1 then dueT wy c f p else "open"
def dueA (c : Int) (os : List On) : V := if c < 1 \/ 500 < c then .non else match fltA c c 0 os with
 | some k => .int (k : Nat)
 | none => .non
structure Pg (cC cR cN cW : Addr) (wy c f : Int) (a w : Addr) (ps : List Addr) (os : List On) (p : Int × Int) (H : Hp) (Q : VK) (E : XK) : Prop where
 row : TsAt onO H a ps os
 ln : os.length <= 6
 hp : H w = some (tupF p)
 bg : Big p
 p2 : 0 < p.2
 w0 : 0 <= wy
 w8 : wy <= 8
 hC : dueS wy c f os p = "count" -> NoC cC H E
 hR : ∀ k, 1 <= c -> c <= 500 -> fltA c c 0 os = some k -> NoR cR k H E
 hN : dueS wy c f os p = "open" -> NoC cN H E
 hW : dueS wy c f os p = "wish" -> NoC cW H E
 ok : dueS wy c f os p = "told" -> ∀ v H', Same H H' -> Q v H'
section
variable {cC cR cN cW : Addr} {wy c f : Int} {a w : Addr} {ps : List Addr} {os : List On} {p : Int × Int} {H : Hp} {Q : VK} {E : XK}
theorem ig (h1 : 1 <= c) (h2 : c <= 500) (hn : fltA c c 0 os = none) : dueS wy c f os p = (if Bb c os = 1 then dueT wy c f p else ("open" : Str)) := by
 unfold dueS
 rw [if_neg (by omega), hn]
theorem Pg.row' (C : Pg cC cR cN cW wy c f a w ps os p H Q E) : BadW cC cR cN c a H E \/ ∃ (n : Nat) (rs : List Rn), c = n /\ CR H a ps n rs /\ Pa n rs = 1 /\ allD n rs < 2 ^ 3900 /\ dueS wy c f os p = dueT wy c f p := by
 have ln := C.ln
 by_cases hc : c < 1 \/ 500 < c
 . exact .inl (.inl ⟨ps, os, C.row, by omega, .inl ⟨hc, C.hC (by unfold dueS; rw [if_pos hc])⟩⟩)
 . cases fl : fltA c c 0 os with
   | some k => exact .inl (.inl ⟨ps, os, C.row, by omega, .inr ⟨by omega, by omega, k, fl, C.hR k (by omega) (by omega) fl⟩⟩)
   | none =>
    have e := ig (wy := wy) (f := f) (p := p) (by omega) (by omega) fl
    obtain ⟨n, rs, hcn, R, ho, hl⟩ := on_cr C.row (by omega) (by omega) (by omega) fl
    by_cases z : Pa n rs = 1
    . rw [if_pos (by rw [hl]; omega)] at e
      refine .inr ⟨n, rs, hcn, R, z, ?_, e⟩
      have lr : rs.length <= 6 := by rw [ho, List.length_map] at ln; exact ln
      have b := Jd (b := 512) (drs n n rs) (sj R.ft (Nat.le_refl _) (by have := R.c2; omega))
      rw [wc] at b
      exact Nat.lt_of_lt_of_le b (Nat.pow_le_pow_right (by decide) (by omega))
    . rw [if_neg (by rw [hl]; omega)] at e
      exact .inl (.inr ⟨n, ps, rs, hcn, R, z, C.hN e⟩)
theorem Pg.F (C : Pg cC cR cN cW wy c f a w ps os p H Q E) (h : wy < 7) : BadF cC cR cN c f a H E \/ ∃ (n m : Nat) (rs : List Rn), c = n /\ f = m /\ CF H a ps n m rs /\ allD n rs < 2 ^ 9000 /\ ∀ v H', Same H H' -> Q v H' := by
 rcases C.row' with b | ⟨n, rs, hn, R, hw, hb, e⟩
 . exact .inl (.inl b)
 . unfold dueT at e
   rw [if_pos (by omega), if_neg (by omega : ¬ wy = 7)] at e
   by_cases z : f < 0 \/ c < f
   . rw [if_pos (by omega)] at e
     exact .inl (.inr ⟨n, ps, rs, hn, R, hw, z, C.hC e⟩)
   . rw [if_neg (by omega)] at e
     exact .inr ⟨n, f.toNat, rs, hn, by omega, ⟨R, hw, by omega⟩, Nat.lt_of_lt_of_le hb (Nat.pow_le_pow_right (by decide) (by decide)), C.ok e⟩
theorem Pg.G (C : Pg cC cR cN cW wy c f a w ps os p H Q E) (h : wy = 7) : BadG cC cR cN c f a H E \/ ∃ (n m : Nat) (rs : List Rn), c = n /\ f = m /\ CR H a ps n rs /\ Pa n rs = 1 /\ m + 1 <= n /\ allD n rs < 2 ^ 9000 /\ ∀ v H', Same H H' -> Q v H' := by
 rcases C.row' with b | ⟨n, rs, hn, R, hw, hb, e⟩
 . exact .inl (.inl (.inl b))
 . unfold dueT at e
   rw [if_pos (by omega), if_pos h] at e
   by_cases z : f < 0 \/ c < f
   . rw [if_pos (by omega)] at e
     exact .inl (.inl (.inr ⟨n, ps, rs, hn, R, hw, z, C.hC e⟩))
   . by_cases z2 : f = c
     . rw [if_pos (by omega)] at e
       exact .inl (.inr ⟨n, ps, rs, hn, R, hw, z2, C.hC e⟩)
     . rw [if_neg (by omega)] at e
       exact .inr ⟨n, f.toNat, rs, hn, by omega, R, hw, by omega, Nat.lt_of_lt_of_le hb (Nat.pow_le_pow_right (by decide) (by decide)), C.ok e⟩
theorem Pg.E8 (C : Pg cC cR cN cW wy c f a w ps os p H Q E) (h : wy = 8) : BadE cC cR cN cW c a w H E \/ ∃ (n : Nat) (rs : List Rn), c = n /\ CR H a ps n rs /\ Pa n rs = 1 /\ H w = some (tupF p) /\ Wish p /\ allD n rs < 2 ^ 3900 /\ ∀ v H', Same H H' -> Q v H' := by
 rcases C.row' with b | ⟨n, rs, hn, R, hw, hb, e⟩
 . exact .inl (.inl b)
 . unfold dueT at e
   rw [if_neg (by omega)] at e
   by_cases z : p.1 < 0 \/ p.2 < p.1
   . rw [if_pos z] at e
     exact .inl (.inr ⟨n, ps, rs, p, hn, R, hw, C.hp, C.bg, C.p2, z, C.hW e⟩)
   . rw [if_neg z] at e
     exact .inr ⟨n, rs, hn, R, hw, C.hp, ⟨by omega, by omega, C.p2, C.bg⟩, hb, C.ok e⟩
end
def Qn (cC cR cN cW : Addr) : Sp := fun vs H Q E => ∃ (wy c f : Int) (a w : Addr) (ps : List Addr) (os : List On) (p : Int × Int), vs = [.int wy, .int c, .int f, .ref a, .ref w] /\ Pg cC cR cN cW wy c f a w ps os p H Q E
theorem Ui {cC cR cN cW : Addr} {wy c f : Int} {a w : Addr} {ps : List Addr} {os : List On} {p : Int × Int} {H : Hp} {Q : VK} {E : XK} (C : Pg cC cR cN cW wy c f a w ps os p H Q E) : Qn cC cR cN cW [.int wy, .int c, .int f, .ref a, .ref w] H Q E := ⟨wy, c, f, a, w, ps, os, p, rfl, C⟩
structure Ask (wy : Int) (a w : Addr) (ps : List Addr) (os : List On) (p : Int × Int) (H : Hp) : Prop where
 row : TsAt onO H a ps os
 ln : os.length <= 6
 hp : H w = some (tupF p)
 bg : Big p
 p2 : 0 < p.2
 w0 : 0 <= wy
 w8 : wy <= 8
theorem Ask.same {wy : Int} {a w : Addr} {ps : List Addr} {os : List On} {p : Int × Int} {H H' : Hp} (A : Ask wy a w ps os p H) (s : Same H H') : Ask wy a w ps os p H' := ⟨A.row.same s, A.ln, s _ _ A.hp, A.bg, A.p2, A.w0, A.w8⟩
def yn : Sp := fun vs H Q _ => ∃ (wy c f : Int) (a w : Addr) (ps : List Addr) (os : List On) (p : Int × Int), vs = [.int wy, .int c, .int f, .ref a, .ref w] /\ Ask wy a w ps os p H /\ ∀ (t : Addr) (H' : Hp), H t = none -> Same H H' -> H' t = some (.tup [.str (dueS wy c f os p), .non]) -> Q (.ref t) H'
theorem vn {wy c f : Int} {a w : Addr} {ps : List Addr} {os : List On} {p : Int × Int} {H : Hp} {Q : VK} {E : XK} (A : Ask wy a w ps os p H) (q : ∀ (t : Addr) (H' : Hp), H t = none -> Same H H' -> H' t = some (.tup [.str (dueS wy c f os p), .non]) -> Q (.ref t) H') : yn [.int wy, .int c, .int f, .ref a, .ref w] H Q E := ⟨wy, c, f, a, w, ps, os, p, rfl, A, q⟩
def Xk : Sp := fun vs H Q _ => ∃ (wy c f : Int) (a w : Addr) (ps : List Addr) (os : List On) (p : Int × Int) (k : Nat), vs = [.int wy, .int c, .int f, .ref a, .ref w] /\ Ask wy a w ps os p H /\ 1 <= c /\ c <= 500 /\ fltA c c 0 os = some k /\ ∀ (H' : Hp), Same H H' -> Q (.int (k : Nat)) H'
theorem jm {wy c f : Int} {a w : Addr} {ps : List Addr} {os : List On} {p : Int × Int} {k : Nat} {H : Hp} {Q : VK} {E : XK} (A : Ask wy a w ps os p H) (h1 : 1 <= c) (h2 : c <= 500) (hk : fltA c c 0 os = some k) (q : ∀ (H' : Hp), Same H H' -> Q (.int (k : Nat)) H') : Xk [.int wy, .int c, .int f, .ref a, .ref w] H Q E := ⟨wy, c, f, a, w, ps, os, p, k, rfl, A, h1, h2, hk, q⟩
def Ys : Sp := fun vs H Q _ => ∃ (wy c f : Int) (a w : Addr) (ps : List Addr) (os : List On) (p : Int × Int), vs = [.int wy, .int c, .int f, .ref a, .ref w] /\ Ask wy a w ps os p H /\ ∀ (t : Addr) (H' : Hp), H t = none -> Same H H' -> H' t = some (.tup [.str (dueS wy c f os p), dueA c os]) -> Q (.ref t) H'
theorem Kq {wy c f : Int} {a w : Addr} {ps : List Addr} {os : List On} {p : Int × Int} {H : Hp} {Q : VK} {E : XK} (A : Ask wy a w ps os p H) (q : ∀ (t : Addr) (H' : Hp), H t = none -> Same H H' -> H' t = some (.tup [.str (dueS wy c f os p), dueA c os]) -> Q (.ref t) H') : Ys [.int wy, .int c, .int f, .ref a, .ref w] H Q E := ⟨wy, c, f, a, w, ps, os, p, rfl, A, q⟩
theorem vd {p : Int × Int} (h1 : p.1.natAbs <= 4) (h2 : p.2.natAbs <= 4) : Big p :=
 ⟨Nat.lt_of_le_of_lt h1 (Nat.lt_of_lt_of_le (by decide : 4 < 2 ^ 3) (Nat.pow_le_pow_right (by decide) (by decide))), Nat.lt_of_le_of_lt h2 (Nat.lt_of_lt_of_le (by decide : 4 < 2 ^ 3) (Nat.pow_le_pow_right (by decide) (by decide)))⟩
theorem Mp {wy c f : Int} {os : List On} {p : Int × Int} (h : dueS wy c f os p = "round") : 1 <= c /\ c <= 500 /\ ∃ k, fltA c c 0 os = some k /\ dueA c os = .int (k : Nat) := by
 by_cases hc : c < 1 \/ 500 < c
 . unfold dueS at h; rw [if_pos hc] at h; exact absurd h (by decide)
 . refine ⟨by omega, by omega, ?_⟩
   cases fl : fltA c c 0 os with
   | some k => exact ⟨k, rfl, by unfold dueA; rw [if_neg hc, fl]⟩
   | none =>
    rw [ig (by omega) (by omega) fl] at h
    unfold dueT at h
    exfalso
    by_cases y1 : Bb c os = 1
    . rw [if_pos y1] at h
      by_cases y2 : wy < 8
      . rw [if_pos y2] at h
        by_cases y3 : f < 0 \/ c - (if wy = 7 then 1 else 0) < f
        . rw [if_pos y3] at h; exact absurd h (by decide)
        . rw [if_neg y3] at h; exact absurd h (by decide)
      . rw [if_neg y2] at h
        by_cases y3 : p.1 < 0 \/ p.2 < p.1
        . rw [if_pos y3] at h; exact absurd h (by decide)
        . rw [if_neg y3] at h; exact absurd h (by decide)
    . rw [if_neg y1] at h; exact absurd h (by decide)
end BL
local macro_rules | `(‹$x›) => `(by with_unfolding_all exact $x)
local macro_rules | `(tactic| walk_at "ne") => `(tactic| first
 | with_reducible assumption
 | exact Ne.symm (by with_reducible assumption)
 | ((with_reducible apply L2.ne_fresh); (with_reducible assumption); walk_at "hp")
 | ((with_reducible apply Ne.symm); (with_reducible apply L2.ne_fresh); (with_reducible assumption); walk_at "hp"))
local macro_rules | `(tactic| walk_at "hp") => `(tactic| first
 | with_reducible assumption
 | with_reducible exact L2.ka
 | ((with_reducible apply L2.Oa); walk_at "ne"; walk_at "hp")
 | ((with_reducible apply L2.Fr1.get); (with_reducible assumption); walk_at "hp"; walk_at "ne"))
local macro_rules | `(tactic| walk_at "cond") => `(tactic| first
 | with_reducible assumption
 | exact L2.Jk.small (by omega) (by omega)
 | exact L2.qf.left (by omega) (by omega)
 | exact L2.qf.right (by omega) (by omega)
 | (show (0 : Int) < _; omega))
local macro_rules | `(tactic| walk_at "size") => `(tactic| first
 | (simp only [List.length_cons, List.length_nil]; decide)
 | (simp only [List.length_cons, List.length_nil, List.length_map, List.length_append, sizeLine_eq]; omega))
local macro_rules | `(tactic| walk_at "ty") => `(tactic| first
 | with_reducible exact L2.TyOf.int _
 | with_reducible exact L2.TyOf.bl _
 | with_reducible exact L2.TyOf.str _
 | with_reducible exact L2.TyOf.non
 | ((with_reducible apply L2.TyOf.tup); walk_at "hp")
 | ((with_reducible apply L2.TyOf.lst); walk_at "hp"))
local macro_rules | `(tactic| walk_at "rd") => `(tactic| repeat (first
 | with_reducible refine L2.r_seq ?_
 | with_reducible refine L2.r_asg ?_
 | with_reducible refine L2.Du ?_
 | with_reducible refine L2.r_op ?_
 | ((with_reducible apply L2.r_var); exact rfl)
 | with_reducible refine L2.r_c ?_
 | with_reducible refine L2.br ?_
 | with_reducible refine L2.Ju ?_
 | with_reducible refine L2.r_slice ?_
 | with_reducible refine L2.r_noPart ?_
 | with_reducible refine L2.r_part ?_
 | with_reducible refine L2.r_partI ?_
 | with_reducible refine L2.r_ltI ?_
 | with_reducible refine L2.r_leI ?_
 | with_reducible refine L2.r_eqI ?_
 | with_reducible refine L2.r_neI ?_
 | with_reducible refine L2.r_eqB ?_
 | with_reducible refine L2.r_neB ?_
 | with_reducible refine L2.r_eqS ?_
 | with_reducible refine L2.r_neS ?_
 | with_reducible refine L2.r_test ?_
 | with_reducible refine L2.r_bl ?_
 | with_reducible refine L2.r_ifs ?_
 | with_reducible refine L2.r_ret ?_
 | with_reducible refine L2.r_retN ?_
 | with_reducible refine L2.r_next ?_
 | with_reducible refine L2.r_cons ?_
 | with_reducible refine L2.r_nil ?_
 | with_reducible refine L2.r_cl ?_
 | with_reducible refine L2.r_cb ?_
 | with_reducible refine L2.r_clE ?_
 | with_reducible refine L2.r_try ?_
 | with_reducible refine L2.xu ?_
 | with_reducible refine L2.ar ?_
 | with_reducible refine L2.Fu ?_
 | with_reducible refine L2.r_and ?_
 | with_reducible refine L2.r_or ?_
 | with_reducible refine L2.r_not ?_
 | with_reducible refine L2.r_andV ?_
 | with_reducible refine L2.r_orV ?_
 | with_reducible refine L2.r_notV ?_
 | with_reducible refine L2.r_ifx ?_
 | with_reducible refine L2.r_tru ?_
 | with_reducible refine L2.r_truI ?_
 | with_reducible refine L2.r_truB ?_
 | with_reducible refine L2.r_tB ?_
 | with_reducible refine L2.yu ?_
 | with_reducible refine L2.r_pow6 ?_
 | ((with_reducible apply L2.r_rI); walk_at "cond")
 | ((with_reducible apply L2.ah); walk_at "cond")
 | with_reducible refine L2.r_abs ?_
 | with_reducible refine L2.r_min2 ?_
 | with_reducible refine L2.r_max2 ?_
 | with_reducible refine L2.r_int1 ?_
 | with_reducible refine L2.Cu ?_
 | ((with_reducible apply L2.r_isi); walk_at "ty"; exact rfl)
 | ((with_reducible apply L2.Co); walk_at "hp")
 | ((with_reducible apply L2.r_lenT); walk_at "hp")
 | ((with_reducible apply L2.Fb); walk_at "hp"; exact rfl)
 | ((with_reducible apply L2.Yb); walk_at "hp"; exact rfl)
 | with_reducible refine L2.r_gsub ?_
 | with_reducible refine L2.r_isNo0 ?_
 | with_reducible refine L2.r_isNoR ?_
 | with_reducible refine L2.r_isNoI ?_
 | with_reducible refine L2.r_isNoS ?_
 | with_reducible refine L2.r_notNo0 ?_
 | with_reducible refine L2.r_notNoR ?_
 | with_reducible refine L2.r_notNoI ?_
 | with_reducible refine L2.r_notNoS ?_
 | with_reducible refine L2.r_un ?_
 | with_reducible refine L2.r_rU ?_
 | ((with_reducible apply L2.Al); walk_at "hp"; exact rfl)
 | with_reducible refine L2.r_drop ?_
 | with_reducible refine L2.r_bmL ?_
 | ((with_reducible apply L2.um); walk_at "hp")
 | ((with_reducible apply L2.Zb); walk_at "hp"; walk_at "size")
 | with_reducible refine L2.r_tup ?_
 | with_reducible refine L2.r_lst ?_
 | ((with_reducible apply L2.wu); walk_at "size")
 | with_reducible refine L2.r_par ?_
 | with_reducible refine L2.r_par2 ?_
 | ((with_reducible apply L2.r_aug); exact rfl)
 | with_reducible refine L2.r_ipI ?_
 | with_reducible refine L2.r_forR ?_
 | with_reducible refine L2.r_compR ?_
 | with_reducible refine L2.Hu ?_
 | with_reducible refine L2.r_compT ?_
 | with_reducible refine L2.Iu ?_
 | with_reducible refine L2.r_bm0 ?_
 | with_reducible refine L2.Gu ?_
 | with_reducible refine L2.r_forE ?_
 | with_reducible refine L2.r_forZ ?_
 | with_reducible refine L2.r_forZ3 ?_
 | with_reducible refine L2.r_forD ?_
 | with_reducible refine L2.r_forR2 ?_
 | with_reducible refine L2.r_chain ?_
 | with_reducible refine L2.r_augS ?_
 | with_reducible refine L2.r_yes ?_
 | with_reducible refine L2.r_forL ?_
 | with_reducible refine L2.r_forT ?_
 | with_reducible refine L2.Eu ?_
 | with_reducible refine L2.r_gnil ?_
 | ((with_reducible apply L2.r_gtup); walk_at "hp"; exact rfl)
 | with_reducible refine L2.iteT ?_
 | with_reducible refine L2.iteF ?_
 | with_reducible refine L2.Au ?_
 | with_reducible refine L2.Bu ?_))
namespace K25
open PySem PySem.Spec PyProof.Rows L2
def top (i : Nat) : Stmt := PySem.Challenge.pw_ballotin_k25_what_chains_refuse.main.body.getD i (.Pass ⟨0, 0, 0, 0⟩)
abbrev qo : Stmt := top 7
abbrev Vd : Stmt := top 11
abbrev xo : Stmt := top 12
abbrev Qj : Stmt := top 13
abbrev Hc : Stmt := top 14
abbrev Oj : Stmt := top 15
abbrev Yc : Stmt := top 16
abbrev nc : Stmt := top 17
abbrev Ic : Stmt := top 18
abbrev Xd : Stmt := top 19
abbrev Uj : Stmt := top 20
abbrev qc : Stmt := top 21
abbrev Xc : Stmt := top 23
abbrev md : Stmt := top 24
abbrev uo : Stmt := top 25
abbrev Hh : Stmt := top 26
abbrev Lc : Stmt := top 27
abbrev Qh : Stmt := top 28
abbrev Kc : Stmt := top 30
abbrev Ih : Stmt := top 31
abbrev vo : Stmt := top 32
abbrev Le : Stmt := top 34
abbrev Rj : Stmt := top 35
abbrev kc : Stmt := top 36
abbrev Gh : Stmt := top 37
abbrev Rb : Stmt := top 38
abbrev Ph : Stmt := top 39
abbrev so : Stmt := top 40
abbrev Pj : Stmt := top 41
abbrev jd : Stmt := top 42
abbrev Of : Stmt := top 43
abbrev Ke : Stmt := top 47
abbrev Oh : Stmt := top 48
abbrev wo : Stmt := top 49
abbrev Rf : Stmt := top 51
abbrev Jh : Stmt := top 52
abbrev Sj : Stmt := top 53
abbrev Kh : Stmt := top 55
abbrev Zc : Stmt := top 56
abbrev Ud : Stmt := top 57
abbrev Mh : Stmt := top 58
abbrev Qf : Stmt := top 59
abbrev Jc : Stmt := top 60
abbrev Nh : Stmt := top 61
abbrev Lh : Stmt := top 62
abbrev Pf : Stmt := top 63
abbrev Tj : Stmt := top 64
abbrev Uq : Stmt := top 65
theorem du : Ga ["many", "few", "found", "at"] ["many", "few"] (ua qo) := ⟨rfl, rfl, rfl, by decide +kernel, rfl, by decide +kernel, by decide +kernel⟩
theorem Xi : Ga ["count", "sit", "seats", "needed", "word"] ["count", "sit", "seats", "needed", "word"] (ua Vd) := ⟨rfl, rfl, rfl, by decide +kernel, rfl, by decide +kernel, by decide +kernel⟩
theorem lu : Ga ["count", "sit", "step"] ["count", "sit", "step"] (ua xo) := ⟨rfl, rfl, rfl, by decide +kernel, rfl, by decide +kernel, by decide +kernel⟩
theorem Pq : Ga ["count", "row", "sit", "found", "at", "step"] ["count", "row"] (ua Qj) := ⟨rfl, rfl, rfl, by decide +kernel, rfl, by decide +kernel, by decide +kernel⟩
theorem Bg : Ga ["count", "row"] ["count", "row"] (ua Hc) := ⟨rfl, rfl, rfl, by decide +kernel, rfl, by decide +kernel, by decide +kernel⟩
theorem Nq : Ga ["count", "row"] ["count", "row"] (ua Oj) := ⟨rfl, rfl, rfl, by decide +kernel, rfl, by decide +kernel, by decide +kernel⟩
theorem Bh : Ga ["count", "row"] ["count", "row"] (ua Yc) := ⟨rfl, rfl, rfl, by decide +kernel, rfl, by decide +kernel, by decide +kernel⟩
theorem Mf : Ga ["count", "friends", "row"] ["count", "friends", "row"] (ua nc) := ⟨rfl, rfl, rfl, by decide +kernel, rfl, by decide +kernel, by decide +kernel⟩
theorem Cg : Ga ["count", "sit", "step"] ["count", "sit", "step"] (ua Ic) := ⟨rfl, rfl, rfl, by decide +kernel, rfl, by decide +kernel, by decide +kernel⟩
theorem Yi : Ga ["count", "row"] ["count", "row"] (ua Xd) := ⟨rfl, rfl, rfl, by decide +kernel, rfl, by decide +kernel, by decide +kernel⟩
theorem Tq : Ga ["count", "row", "found", "many"] ["count", "row"] (ua Uj) := ⟨rfl, rfl, rfl, by decide +kernel, rfl, by decide +kernel, by decide +kernel⟩
theorem Nf : Ga ["count", "row", "found", "many", "own"] ["count", "row"] (ua qc) := ⟨rfl, rfl, rfl, by decide +kernel, rfl, by decide +kernel, by decide +kernel⟩
theorem Ah : Ga ["many", "few", "found", "taken"] ["many", "few"] (ua Xc) := ⟨rfl, rfl, rfl, by decide +kernel, rfl, by decide +kernel, by decide +kernel⟩
theorem Fh : Ga ["bench", "on", "few", "friendly", "others"] ["bench", "on", "few"] (ua md) := ⟨rfl, rfl, rfl, by decide +kernel, rfl, by decide +kernel, by decide +kernel⟩
theorem iu : Ga ["bench", "on", "needed"] ["bench", "on", "needed"] (ua uo) := ⟨rfl, rfl, rfl, by decide +kernel, rfl, by decide +kernel, by decide +kernel⟩
theorem Xn : Ga ["count", "friends", "seats", "who"] ["count", "friends", "seats", "who"] (ua Hh) := ⟨rfl, rfl, rfl, by decide +kernel, rfl, by decide +kernel, by decide +kernel⟩
theorem Fg : Ga ["seats", "on", "many", "found"] ["seats", "on", "many"] (ua Lc) := ⟨rfl, rfl, rfl, by decide +kernel, rfl, by decide +kernel, by decide +kernel⟩
theorem oo : Ga ["count", "friends", "bench", "on", "step", "seats", "who"] ["count", "friends", "bench", "on", "step"] (ua Qh) := ⟨rfl, rfl, rfl, by decide +kernel, rfl, by decide +kernel, by decide +kernel⟩
theorem Eg : Ga ["one", "other"] ["one", "other"] (ua Kc) := ⟨rfl, rfl, rfl, by decide +kernel, rfl, by decide +kernel, by decide +kernel⟩
theorem Yn : Ga ["top", "bottom", "part"] ["top", "bottom"] (ua Ih) := ⟨rfl, rfl, rfl, by decide +kernel, rfl, by decide +kernel, by decide +kernel⟩
theorem ju : Ga ["one", "other"] ["one", "other"] (ua vo) := ⟨rfl, rfl, rfl, by decide +kernel, rfl, by decide +kernel, by decide +kernel⟩
theorem Nj : Ga ["count", "friends", "roads_here", "step", "sit", "found", "on", "many", "to", "leading"] ["count", "friends", "roads_here", "step"] (ua Le) := ⟨rfl, rfl, rfl, by decide +kernel, rfl, by decide +kernel, by decide +kernel⟩
theorem Qq : Ga ["count", "friends", "row", "here", "found", "step"] ["count", "friends", "row"] (ua Rj) := ⟨rfl, rfl, rfl, by decide +kernel, rfl, by decide +kernel, by decide +kernel⟩
theorem Lf : Ga ["count", "friends", "sit", "step", "later", "found", "on", "leading"] ["count", "friends", "sit", "step", "later"] (ua kc) := ⟨rfl, rfl, rfl, by decide +kernel, rfl, by decide +kernel, by decide +kernel⟩
theorem Wn : Ga ["count", "friends", "row", "sat", "found", "at"] ["count", "friends", "row"] (ua Gh) := ⟨rfl, rfl, rfl, by decide +kernel, rfl, by decide +kernel, by decide +kernel⟩
theorem kf : Ga ["count", "friends", "row", "found"] ["count", "friends", "row"] (ua Rb) := ⟨rfl, rfl, rfl, by decide +kernel, rfl, by decide +kernel, by decide +kernel⟩
theorem ko : Ga ["count", "friends", "row"] ["count", "friends", "row"] (ua Ph) := ⟨rfl, rfl, rfl, by decide +kernel, rfl, by decide +kernel, by decide +kernel⟩
theorem gu : Ga ["roads_here", "led_to"] ["roads_here"] (ua so) := ⟨rfl, rfl, rfl, by decide +kernel, rfl, by decide +kernel, by decide +kernel⟩
theorem Oq : Ga ["count", "friends", "row"] ["count", "friends", "row"] (ua Pj) := ⟨rfl, rfl, rfl, by decide +kernel, rfl, by decide +kernel, by decide +kernel⟩
theorem Eh : Ga ["roads_here", "worths_here", "later"] ["roads_here", "worths_here", "later"] (ua jd) := ⟨rfl, rfl, rfl, by decide +kernel, rfl, by decide +kernel, by decide +kernel⟩
theorem om : Ga ["count", "friends", "row", "reached", "worthy", "later", "over"] ["count", "friends", "row"] (ua Of) := ⟨rfl, rfl, rfl, by decide +kernel, rfl, by decide +kernel, by decide +kernel⟩
theorem Mj : Ga ["count", "friends", "row", "found"] ["count", "friends", "row"] (ua Ke) := ⟨rfl, rfl, rfl, by decide +kernel, rfl, by decide +kernel, by decide +kernel⟩
theorem jo : Ga ["count", "row", "wish", "low", "high", "middle"] ["count", "row", "wish"] (ua Oh) := ⟨rfl, rfl, rfl, by decide +kernel, rfl, by decide +kernel, by decide +kernel⟩
theorem ku : Ga ["count", "friends", "row", "now"] ["count", "friends", "row"] (ua wo) := ⟨rfl, rfl, rfl, by decide +kernel, rfl, by decide +kernel, by decide +kernel⟩
theorem tm : Ga ["_law_script"] ["_law_script"] (ua Rf) := ⟨rfl, rfl, rfl, by decide +kernel, rfl, by decide +kernel, by decide +kernel⟩
theorem Zn : Ga ["_law_draw", "_law_many", "_law_number", "_law_got"] ["_law_draw", "_law_many"] (ua Jh) := ⟨rfl, rfl, rfl, by decide +kernel, rfl, by decide +kernel, by decide +kernel⟩
theorem Rq : Ga ["_law_thing"] ["_law_thing"] (ua Sj) := ⟨rfl, rfl, rfl, by decide +kernel, rfl, by decide +kernel, by decide +kernel⟩
theorem ao : Ga ["_law_draw", "_law_count", "_law_bench", "_law_most", "_law_word", "_law_lot", "_law_needed", "_law_n"] ["_law_draw", "_law_count", "_law_bench", "_law_most"] (ua Kh) := ⟨rfl, rfl, rfl, by decide +kernel, rfl, by decide +kernel, by decide +kernel⟩
theorem Dh : Ga ["_law_draw", "_law_count", "_law_bench", "_law_step_here", "_law_way", "_law_n", "_law_needed", "_law_word"] ["_law_draw", "_law_count", "_law_bench"] (ua Zc) := ⟨rfl, rfl, rfl, by decide +kernel, rfl, by decide +kernel, by decide +kernel⟩
theorem Wi : Ga ["_law_draw", "_law_count", "_law_seats", "_law_bench", "_law_row", "_law_k", "_law_step_here"] ["_law_draw", "_law_count"] (ua Ud) := ⟨rfl, rfl, rfl, by decide +kernel, rfl, by decide +kernel, by decide +kernel⟩
theorem eo : Ga ["_law_count", "_law_bench", "_law_step_here"] ["_law_count", "_law_bench", "_law_step_here"] (ua Mh) := ⟨rfl, rfl, rfl, by decide +kernel, rfl, by decide +kernel, by decide +kernel⟩
theorem rm : Ga ["_law_count", "_law_row", "_law_bench", "_law_k"] ["_law_count", "_law_row"] (ua Qf) := ⟨rfl, rfl, rfl, by decide +kernel, rfl, by decide +kernel, by decide +kernel⟩
theorem Dg : Ga ["_law_draw"] ["_law_draw"] (ua Jc) := ⟨rfl, rfl, rfl, by decide +kernel, rfl, by decide +kernel, by decide +kernel⟩
theorem fo : Ga ["_law_way", "_law_count", "_law_friends", "_law_row", "_law_wish"] ["_law_way", "_law_count", "_law_friends", "_law_row", "_law_wish"] (ua Nh) := ⟨rfl, rfl, rfl, by decide +kernel, rfl, by decide +kernel, by decide +kernel⟩
theorem bo : Ga ["_law_way", "_law_count", "_law_friends", "_law_row", "_law_wish", "_law_said_here", "e", "_law_kinds"] ["_law_way", "_law_count", "_law_friends", "_law_row", "_law_wish"] (ua Lh) := ⟨rfl, rfl, rfl, by decide +kernel, rfl, by decide +kernel, by decide +kernel⟩
theorem qm : Ga ["_law_way", "_law_count", "_law_friends", "_law_row", "_law_wish", "_law_at", "e"] ["_law_way", "_law_count", "_law_friends", "_law_row", "_law_wish"] (ua Pf) := ⟨rfl, rfl, rfl, by decide +kernel, rfl, by decide +kernel, by decide +kernel⟩
theorem Sq : Ga ["_law_way", "_law_count", "_law_friends", "_law_row", "_law_wish", "_law_fault_here", "_law_at", "_law_most"] ["_law_way", "_law_count", "_law_friends", "_law_row", "_law_wish"] (ua Tj) := ⟨rfl, rfl, rfl, by decide +kernel, rfl, by decide +kernel, by decide +kernel⟩
theorem sc_law : Ga ["_law_script", "_law_draw", "_law_count", "_law_row", "_law_friends", "_law_wish", "_law_way", "_law_fault_here", "_law_at", "_law_found"] ["_law_script"] (ua Uq) := ⟨rfl, rfl, rfl, by decide +kernel, rfl, by decide +kernel, by decide +kernel⟩
open BL BR
structure Txt (K : PySem.W.Frag) (mg : Str -> Option Value) (C_BallotError C_BadCount C_NotWhole C_BadChance C_BadRound : Addr) : Prop where
 b_ValueError : mg "ValueError" = none
 b_abs : mg "abs" = none
 b_all : mg "all" = none
 b_bool : mg "bool" = none
 b_enumerate : mg "enumerate" = none
 b_int : mg "int" = none
 b_isinstance : mg "isinstance" = none
 b_len : mg "len" = none
 b_list : mg "list" = none
 b_max : mg "max" = none
 b_min : mg "min" = none
 b_range : mg "range" = none
 b_sum : mg "sum" = none
 b_zip : mg "zip" = none
 m_MOST_PEOPLE : ∃ t, mg "MOST_PEOPLE" = some (.int 500 t)
 m_MOST_SEATS : ∃ t, mg "MOST_SEATS" = some (.int 60 t)
 m_ALL : ∃ a, mg "ALL" = some (.ref a) /\ GTup K a [.int 1, .int 1]
 m_NONE : ∃ a, mg "NONE" = some (.ref a) /\ GTup K a [.int 0, .int 1]
 c_BallotError : mg "BallotError" = some (.ref C_BallotError)
 e_BallotError : ErrK K C_BallotError
 q_BallotError : PySem.W.excIn K C_BallotError bmV "ValueError.__new__" = true
 c_BadCount : mg "BadCount" = some (.ref C_BadCount)
 e_BadCount : ErrK K C_BadCount
 q_BadCount : PySem.W.excIn K C_BadCount bmV "ValueError.__new__" = true
 c_NotWhole : mg "NotWhole" = some (.ref C_NotWhole)
 e_NotWhole : ErrK K C_NotWhole
 q_NotWhole : PySem.W.excIn K C_NotWhole bmV "ValueError.__new__" = true
 c_BadChance : mg "BadChance" = some (.ref C_BadChance)
 e_BadChance : ErrK K C_BadChance
 q_BadChance : PySem.W.excIn K C_BadChance bmV "ValueError.__new__" = true
 c_BadRound : mg "BadRound" = some (.ref C_BadRound)
 e_BadRound : ErrK K C_BadRound
 I_BadRound : Nm K C_BadRound C_BallotError
 f_BadRound : PySem.W.findIn K (.ref C_BadRound) "at" = some none
 d_BadRound : PySem.W.hasDictIn K C_BadRound = true
 x_BallotError_BadRound : PySem.W.exmOne K (.ref C_BallotError) (.ref C_BadRound) = some false
 x_BallotError_BallotError : PySem.W.exmOne K (.ref C_BallotError) (.ref C_BallotError) = some true
 i_BallotError_BadChance : PySem.W.kitOne K (.ref C_BallotError) (.ref C_BadChance) = some false
 i_BallotError_BadCount : PySem.W.kitOne K (.ref C_BallotError) (.ref C_BadCount) = some false
 i_BallotError_BadRound : PySem.W.kitOne K (.ref C_BallotError) (.ref C_BadRound) = some false
 i_BallotError_NotWhole : PySem.W.kitOne K (.ref C_BallotError) (.ref C_NotWhole) = some false
 i_BallotError_ValueError : PySem.W.kitOne K (.ref C_BallotError) (.type "ValueError") = some true
 x_BadCount_BadRound : PySem.W.exmOne K (.ref C_BadCount) (.ref C_BadRound) = some false
 x_BadCount_BallotError : PySem.W.exmOne K (.ref C_BadCount) (.ref C_BallotError) = some true
 i_BadCount_BadChance : PySem.W.kitOne K (.ref C_BadCount) (.ref C_BadChance) = some false
 i_BadCount_BadCount : PySem.W.kitOne K (.ref C_BadCount) (.ref C_BadCount) = some true
 i_BadCount_BadRound : PySem.W.kitOne K (.ref C_BadCount) (.ref C_BadRound) = some false
 i_BadCount_NotWhole : PySem.W.kitOne K (.ref C_BadCount) (.ref C_NotWhole) = some false
 i_BadCount_ValueError : PySem.W.kitOne K (.ref C_BadCount) (.type "ValueError") = some true
 x_NotWhole_BadRound : PySem.W.exmOne K (.ref C_NotWhole) (.ref C_BadRound) = some false
 x_NotWhole_BallotError : PySem.W.exmOne K (.ref C_NotWhole) (.ref C_BallotError) = some true
 i_NotWhole_BadChance : PySem.W.kitOne K (.ref C_NotWhole) (.ref C_BadChance) = some false
 i_NotWhole_BadCount : PySem.W.kitOne K (.ref C_NotWhole) (.ref C_BadCount) = some false
 i_NotWhole_BadRound : PySem.W.kitOne K (.ref C_NotWhole) (.ref C_BadRound) = some false
 i_NotWhole_NotWhole : PySem.W.kitOne K (.ref C_NotWhole) (.ref C_NotWhole) = some true
 i_NotWhole_ValueError : PySem.W.kitOne K (.ref C_NotWhole) (.type "ValueError") = some true
 x_BadChance_BadRound : PySem.W.exmOne K (.ref C_BadChance) (.ref C_BadRound) = some false
 x_BadChance_BallotError : PySem.W.exmOne K (.ref C_BadChance) (.ref C_BallotError) = some true
 i_BadChance_BadChance : PySem.W.kitOne K (.ref C_BadChance) (.ref C_BadChance) = some true
 i_BadChance_BadCount : PySem.W.kitOne K (.ref C_BadChance) (.ref C_BadCount) = some false
 i_BadChance_BadRound : PySem.W.kitOne K (.ref C_BadChance) (.ref C_BadRound) = some false
 i_BadChance_NotWhole : PySem.W.kitOne K (.ref C_BadChance) (.ref C_NotWhole) = some false
 i_BadChance_ValueError : PySem.W.kitOne K (.ref C_BadChance) (.type "ValueError") = some true
 x_BadRound_BadRound : PySem.W.exmOne K (.ref C_BadRound) (.ref C_BadRound) = some true
 x_BadRound_BallotError : PySem.W.exmOne K (.ref C_BadRound) (.ref C_BallotError) = some true
 i_BadRound_BadChance : PySem.W.kitOne K (.ref C_BadRound) (.ref C_BadChance) = some false
 i_BadRound_BadCount : PySem.W.kitOne K (.ref C_BadRound) (.ref C_BadCount) = some false
 i_BadRound_BadRound : PySem.W.kitOne K (.ref C_BadRound) (.ref C_BadRound) = some true
 i_BadRound_NotWhole : PySem.W.kitOne K (.ref C_BadRound) (.ref C_NotWhole) = some false
 i_BadRound_ValueError : PySem.W.kitOne K (.ref C_BadRound) (.type "ValueError") = some true
section
variable (P : Program) (w : World) (K : PySem.W.Frag) (mg : Str -> Option Value) (base : Heap)
abbrev nq : Prop := Callee P w K mg base 1 "ways" ["many", "few"] (Ks)
abbrev ie : Prop := Callee P w K mg base 1 "fits_vote" ["count", "sit", "seats", "needed", "word"] (Xs)
abbrev vq : Prop := Callee P w K mg base 2 "fits" ["count", "sit", "step"] (Kn)
abbrev Mk (C_BadCount C_BadRound : Addr) : Prop := Ka P w K mg base 3 "sizes" ["count", "row"] (Vk C_BadCount C_BadRound)
abbrev yb (C_BadCount C_BadRound : Addr) : Prop := Ka P w K mg base 4 "sizes_ahead" ["count", "row"] (sf C_BadCount C_BadRound)
abbrev Kk (C_BadCount C_BadRound : Addr) : Prop := Ka P w K mg base 5 "whole" ["count", "row"] (rf C_BadCount C_BadRound)
abbrev cc (C_BadCount C_BadRound C_NotWhole : Addr) : Prop := Ka P w K mg base 6 "need_whole" ["count", "row"] (orW C_BadCount C_BadRound C_NotWhole (Bn))
abbrev Eb (C_BadCount C_BadRound C_NotWhole : Addr) : Prop := Ka P w K mg base 7 "need_friends" ["count", "friends", "row"] (orF C_BadCount C_BadRound C_NotWhole (Cn))
abbrev Pb : Prop := Callee P w K mg base 2 "round_draws" ["count", "sit", "step"] (bf)
abbrev Rc (C_BadCount C_BadRound : Addr) : Prop := Ka P w K mg base 5 "draws_row" ["count", "row"] (orR C_BadCount C_BadRound (Xg))
abbrev Ag (C_BadCount C_BadRound : Addr) : Prop := Ka P w K mg base 6 "draws" ["count", "row"] (orR C_BadCount C_BadRound (Pn))
abbrev Ac (C_BadCount C_BadRound : Addr) : Prop := Ka P w K mg base 6 "draws_behind" ["count", "row"] (orR C_BadCount C_BadRound (spDrB))
abbrev zd : Prop := Callee P w K mg base 1 "ways_up_to" ["many", "few"] (Ls)
abbrev Cd : Prop := Callee P w K mg base 2 "behind_lot" ["bench", "on", "few"] (spLot)
abbrev pq : Prop := Callee P w K mg base 1 "side" ["bench", "on", "needed"] (Ss)
abbrev Gi : Prop := Callee P w K mg base 1 "seated" ["count", "friends", "seats", "who"] (Wk)
abbrev Uc : Prop := Callee P w K mg base 1 "all_lead_to" ["seats", "on", "many"] (Vs)
abbrev Df : Prop := Callee P w K mg base 3 "behind" ["count", "friends", "bench", "on", "step"] (il)
abbrev Tc : Prop := Callee P w K mg base 1 "common_part" ["one", "other"] (spGcd)
abbrev Af : Prop := Callee P w K mg base 2 "lowest" ["top", "bottom"] (spLow)
abbrev rq : Prop := Callee P w K mg base 1 "less" ["one", "other"] (Fn K)
abbrev Xe : Prop := Callee P w K mg base 4 "roads_on" ["count", "friends", "roads_here", "step"] (Si)
abbrev Ye (C_BadCount C_BadRound C_NotWhole : Addr) : Prop := Ka P w K mg base 8 "roads" ["count", "friends", "row"] (orF C_BadCount C_BadRound C_NotWhole (An))
abbrev zc : Prop := Callee P w K mg base 4 "worths_ahead" ["count", "friends", "sit", "step", "later"] (spWah)
abbrev yf (C_BadCount C_BadRound C_NotWhole : Addr) : Prop := Ka P w K mg base 8 "worths" ["count", "friends", "row"] (orF C_BadCount C_BadRound C_NotWhole (Js))
abbrev Za (C_BadCount C_BadRound C_NotWhole : Addr) : Prop := Ka P w K mg base 9 "friendly_many" ["count", "friends", "row"] (orF C_BadCount C_BadRound C_NotWhole (spFrM))
abbrev De (C_BadCount C_BadRound C_NotWhole : Addr) : Prop := Ka P w K mg base 10 "chance" ["count", "friends", "row"] (orF C_BadCount C_BadRound C_NotWhole (spChn))
abbrev oq : Prop := Callee P w K mg base 1 "span" ["roads_here"] (Qs)
abbrev Lk (C_BadCount C_BadRound C_NotWhole : Addr) : Prop := Ka P w K mg base 9 "spans" ["count", "friends", "row"] (orF C_BadCount C_BadRound C_NotWhole (mn))
abbrev Bd : Prop := Callee P w K mg base 1 "is_settled" ["roads_here", "worths_here", "later"] (spIsS)
abbrev wg (C_BadCount C_BadRound C_NotWhole : Addr) : Prop := Ka P w K mg base 10 "settled" ["count", "friends", "row"] (orF C_BadCount C_BadRound C_NotWhole (Ts))
abbrev We (C_BadCount C_BadRound C_NotWhole : Addr) : Prop := Ka P w K mg base 11 "standing" ["count", "friends", "row"] (orF C_BadCount C_BadRound C_NotWhole (jn))
abbrev Ji (C_BadChance C_BadCount C_BadRound C_NotWhole : Addr) : Prop := Ka P w K mg base 11 "fewest" ["count", "row", "wish"] (orE C_BadCount C_BadRound C_NotWhole C_BadChance (Zk))
abbrev uq (C_BadCount C_BadRound C_NotWhole : Addr) : Prop := Ka P w K mg base 10 "gain" ["count", "friends", "row"] (orG C_BadCount C_BadRound C_NotWhole (Ws))
abbrev zg : Prop := Callee P w K mg base 1 "_law_begin" ["_law_script"] (Tn K)
abbrev Pc : Prop := Callee P w K mg base 1 "_law_take" ["_law_draw", "_law_many"] (Ms)
abbrev Nk : Prop := Callee P w K mg base 1 "_law_int" ["_law_thing"] (spInt)
abbrev Bf : Prop := Callee P w K mg base 2 "_law_step" ["_law_draw", "_law_count", "_law_bench", "_law_most"] (cn)
abbrev Ad : Prop := Callee P w K mg base 3 "_law_any_step" ["_law_draw", "_law_count", "_law_bench"] (Zs)
abbrev fe : Prop := Callee P w K mg base 4 "_law_odd_row" ["_law_draw", "_law_count"] (Us)
abbrev Ii : Prop := Callee P w K mg base 1 "_law_fits" ["_law_count", "_law_bench", "_law_step_here"] (Kn)
abbrev yg : Prop := Callee P w K mg base 2 "_law_fault" ["_law_count", "_law_row"] (Mn)
abbrev Qc : Prop := Callee P w K mg base 2 "_law_any_count" ["_law_draw"] (bt)
abbrev Cf (C_BadChance C_BadCount C_BadRound C_NotWhole : Addr) : Prop := Ka P w K mg base 12 "_law_call" ["_law_way", "_law_count", "_law_friends", "_law_row", "_law_wish"] (Qn C_BadCount C_BadRound C_NotWhole C_BadChance)
abbrev Hi : Prop := Callee P w K mg base 13 "_law_said" ["_law_way", "_law_count", "_law_friends", "_law_row", "_law_wish"] (yn)
abbrev xg : Prop := Callee P w K mg base 13 "_law_named" ["_law_way", "_law_count", "_law_friends", "_law_row", "_law_wish"] (Xk)
abbrev Pk : Prop := Callee P w K mg base 3 "_law_due" ["_law_way", "_law_count", "_law_friends", "_law_row", "_law_wish"] (Ys)
end
variable {P : Program} {w : World} {K : PySem.W.Frag} {mg : Str -> Option Value} {base : Heap}
local macro_rules | `(tactic| left) => `(tactic| walk_at "rd")
theorem Uu {C_BallotError C_BadCount C_NotWhole C_BadChance C_BadRound : Addr} (T : Txt K mg C_BallotError C_BadCount C_NotWhole C_BadChance C_BadRound) (U : Up K mg "ways" qo ["many", "few"]) : nq P w K mg base := by
 have sc := du
 refine Callee.of (k := 0) U sc (fun vs H Q E h => ?_) (fun f cdv A outer s H vs Q E hr h => ?_)
 . obtain ⟨m, k, rfl, _⟩ := h; rfl
 . obtain ⟨m, k, rfl, hm, q⟩ := h
   have hu := hr.units
   conv in (Ba _) => whnf
   with_reducible refine ⟨_, (ba (Sa (PW.pt (Pe (ya (ltK (K := K) ‹rfl› ‹hu›) (pv 1) ia ‹za _›) (Pd (ya Se (pv 1) (pv 0) ‹za _›)))) (ma (xa ia)) Ca) (ba (Ea (i := 2) ‹sc.nd› ‹rfl› ‹Or.inl rfl› ia) (ba (Vc PassesOwn.never ‹rfl› (pd ‹rfl› ‹T.b_range› (aa (Ma (ae ‹rfl›) ‹rfl› ‹T.b_min› rg (aa (pv 1) (aa (La Ec (pv 0) (pv 1)) ja))) ja)) (Qa (i := 3) ‹sc.nd› ‹rfl› ‹Or.inl rfl›) (ma (Ea (i := 2) ‹sc.nd› ‹rfl› ‹Or.inl rfl› (La xb (La wb (pv 2) (La Ec (pv 0) (pv 3))) (La (addK (K := K) ‹rfl›) (pv 3) ia))))) (ma (xa (pv 2)))))), ?_⟩
   rw [show L2.start ["many", "few", "found", "at"] [V.int m, V.int k] = [some (V.int m), some (V.int k), none, none] from rfl]
   left
   refine va (fun h1 => ?_) (fun h1 => ?_)
   . left
     rw [MB.mq (.inl h1)] at q
     exact q
   . left
     refine va (fun h2 => ?_) (fun h2 => ?_)
     . left
       rw [MB.mq (.inr h2)] at q
       exact q
     . left
       obtain ⟨j, hj, hj1, hj2, hj3⟩ : ∃ j : Int, (if m - k < k then m - k else k) = j /\ 0 <= j /\ j <= m /\ (j = k \/ j = m - k) := by
        by_cases z : m - k < k
        . exact ⟨m - k, if_pos z, by omega, by omega, .inr rfl⟩
        . exact ⟨k, if_neg z, by omega, by omega, .inl rfl⟩
       rw [hj]
       refine forR (fun i σ' H' => H' = H /\ ∃ x, σ' = [some (.int m), some (.int k), some (.int (MB.ch m.toNat i)), x]) (by omega) (by omega) ⟨rfl, none, by rw [MB.ib]; rfl⟩ ?_ ?_
       . rintro i σ' H' hi ⟨rfl, x, rfl⟩
         left
         refine ⟨rfl, some (.int i), ?_⟩
         have e := MB.Rt m.toNat i (by omega)
         have e2 : ((m.toNat : Nat) : Int) = m := by omega
         rw [e2] at e
         rw [e]
         rfl
       . rintro σ' H' ⟨rfl, x, rfl⟩
         left
         rw [<- MB.ch_min (j := j) (by omega) (by omega) hj3] at q
         exact q
theorem gj {C_BallotError C_BadCount C_NotWhole C_BadChance C_BadRound : Addr} (T : Txt K mg C_BallotError C_BadCount C_NotWhole C_BadChance C_BadRound) (U : Up K mg "fits_vote" Vd ["count", "sit", "seats", "needed", "word"]) : ie P w K mg base := by
 have sc := Xi
 refine Callee.of (k := 0) U sc (fun vs H Q E h => ?_) (fun f cdv A outer s H vs Q E hr h => ?_)
 . obtain ⟨c, s, n, q, w, rfl, _⟩ := h; rfl
 . obtain ⟨c, s, n, q, w, rfl, k⟩ := h
   have hu := hr.units
   conv in (Ba _) => whnf
   with_reducible refine ⟨_, (ba (Sa (PW.pt (Pe (ya Se (pv 2) (pv 0) ‹za _›) (Pe (ya (leK (K := K) ‹rfl› ‹hu›) (La wb (pv 3) ia) (pv 1) ‹za _›) (Pd (ya Se (pv 3) (pv 1) ‹za _›))))) (ma (xa ai)) Ca) (ba (Sa (ya (eqK (K := K) ‹rfl› ‹hu›) (pv 4) Ha ‹za _›) (ma (xa (Xa (leK (K := K) ‹rfl› ‹hu›) (pv 2) (pv 1) ‹za _›))) Ca) (ba (Sa (ya (eqK (K := K) ‹rfl› ‹hu›) (pv 4) Ha ‹za _›) (ma (xa (Xa (eqK (K := K) ‹rfl› ‹hu›) (pv 2) (pv 1) ‹za _›))) Ca) (ma (xa (Xa (eqK (K := K) ‹rfl› ‹hu›) (pv 4) Ha ‹za _›)))))), ?_⟩
   rw [show L2.start ["count", "sit", "seats", "needed", "word"] [V.int c, V.int s, V.int n, V.int q, V.str w] = [some (V.int c), some (V.int s), some (V.int n), some (V.int q), some (V.str w)] from rfl]
   left
   refine va (fun h1 => ?_) (fun h1 => ?_)
   . left
     rw [show fitV c s n q w = false from decide_eq_false fun z => by have := z.1; omega] at k
     exact k
   left
   refine va (fun h2 => ?_) (fun h2 => ?_)
   . left
     rw [show fitV c s n q w = false from decide_eq_false fun z => by have := z.2.1; omega] at k
     exact k
   left
   refine va (fun h3 => ?_) (fun h3 => ?_)
   . left
     rw [show fitV c s n q w = false from decide_eq_false fun z => by have := z.2.2.1; omega] at k
     exact k
   left
   refine va (fun h4 => ?_) (fun h4 => ?_)
   . left
     rw [Kt h4 (by omega) (by omega) (by omega)] at k
     exact k
   left
   refine va (fun h5 => ?_) (fun h5 => ?_)
   . left
     rw [Ht h4 h5 (by omega) (by omega) (by omega)] at k
     exact k
   left
   rw [Jt h4 h5 (by omega) (by omega) (by omega)] at k
   exact k
theorem Zu {C_BallotError C_BadCount C_NotWhole C_BadChance C_BadRound : Addr} (T : Txt K mg C_BallotError C_BadCount C_NotWhole C_BadChance C_BadRound) (U : Up K mg "fits" xo ["count", "sit", "step"]) (C_fits_vote : ie P w K mg base) : vq P w K mg base := by
 have sc := lu
 refine Callee.of (k := 1) U sc (fun vs H Q E h => ?_) (fun f cdv A outer s H vs Q E hr h => ?_)
 . obtain ⟨c, s, p, o, rfl, _⟩ := h; rfl
 . obtain ⟨c, s, p, o, rfl, hp, k⟩ := h
   have hu := hr.units
   conv in (Ba _) => whnf
   with_reducible refine ⟨_, (ba (Sa (PW.pt (Pe (ya (ltK (K := K) ‹rfl› ‹hu›) (Ia (ixK (K := K) ‹rfl›) (pv 2) ia ‹fun _ _ => rfl›) ia ‹za _›) (Pd (ya Se (Ia (ixK (K := K) ‹rfl›) (pv 2) ia ‹fun _ _ => rfl›) (Hl ‹rfl› ‹T.m_MOST_SEATS›) ‹za _›)))) (ma (xa ai)) Ca) (ba (Sa (PW.pt (bj (ya (eqK (K := K) ‹rfl› ‹hu›) (Ia (ixK (K := K) ‹rfl›) (pv 2) ia ‹fun _ _ => rfl›) Ha ‹za _›) (Tf (ya (eqK (K := K) ‹rfl› ‹hu›) (Ma (lenK (K := K) ‹rfl›) ‹rfl› ‹T.b_len› oh (aa (pv 2) ja)) ia ‹za _›)))) (ma (xa (Xa (leK (K := K) ‹rfl› ‹hu›) (Ia (ixK (K := K) ‹rfl›) (pv 2) ia ‹fun _ _ => rfl›) (pv 1) ‹za _›))) Ca) (ba (Sa (PW.pt (bj (ya (eqK (K := K) ‹rfl› ‹hu›) (Ia (ixK (K := K) ‹rfl›) (pv 2) ia ‹fun _ _ => rfl›) Ha ‹za _›) (Tf (ya (eqK (K := K) ‹rfl› ‹hu›) (Ma (lenK (K := K) ‹rfl›) ‹rfl› ‹T.b_len› oh (aa (pv 2) ja)) ia ‹za _›)))) (ma (xa (pe_c ‹C_fits_vote› ‹hr.mono (by decide)› ‹rfl› (aa (pv 0) (aa (pv 1) (aa (Ia (ixK (K := K) ‹rfl›) (pv 2) ia ‹fun _ _ => rfl›) (aa (Ia (ixK (K := K) ‹rfl›) (pv 2) ia ‹fun _ _ => rfl›) (aa (Ia (ixK (K := K) ‹rfl›) (pv 2) ia ‹fun _ _ => rfl›) ja)))))))) Ca) (ma (xa ai))))), ?_⟩
   rw [show L2.start ["count", "sit", "step"] [V.int c, V.int s, V.ref p] = [some (V.int c), some (V.int s), some (V.ref p)] from rfl]
   cases o with
   | lt b n =>
    have hp' : H p = some (.tup [.str (if b = true then "lot" else "lots"), .int n]) := hp
    left
    refine va (fun h1 => ?_) (fun h1 => ?_)
    . left
      rw [show fitO c s (.lt b n) = false from decide_eq_false fun z => by have := z.1; omega] at k
      exact k
    left
    refine va (fun h2 => ?_) (fun h2 => ?_)
    . left
      rw [show fitO c s (.lt b n) = false from decide_eq_false fun z => by have := z.2.1; omega] at k
      exact k
    cases b with
    | true =>
     left
     refine va (fun _ => ?_) (fun h1 => absurd rfl h1)
     left
     refine va (fun _ => ?_) (fun h1 => absurd rfl h1)
     left
     rw [show fitO c s (.lt true n) = decide (n <= s) from decide_eq_decide.mpr ⟨fun z => z.2.2.2, fun z => ⟨by omega, by omega, rfl, z⟩⟩] at k
     exact k
    | false =>
     left
     refine va (fun h1 => absurd h1 (by decide)) (fun _ => ?_)
     left
     refine va (fun h1 => absurd h1 (by decide)) (fun _ => ?_)
     left
     rw [show fitO c s (.lt false n) = false from decide_eq_false fun z => by cases z.2.2.1] at k
     exact k
   | vt b n q w =>
    have hp' : H p = some (.tup [.str (if b = true then "vote" else "votes"), .int n, .int q, .str w]) := hp
    left
    refine va (fun h1 => ?_) (fun h1 => ?_)
    . left
      rw [nh (fun z => by have := z.1; omega)] at k
      exact k
    left
    refine va (fun h2 => ?_) (fun h2 => ?_)
    . left
      rw [nh (fun z => by have := z.2.1; omega)] at k
      exact k
    cases b with
    | true =>
     left
     refine va (fun h1 => absurd h1 (by decide)) (fun _ => ?_)
     left
     refine va (fun _ => ?_) (fun h1 => absurd rfl h1)
     left
     refine va (fun _ => ?_) (fun h1 => absurd rfl h1)
     left
     rw [Jp ⟨by omega, by omega⟩] at k
     exact Jq k
    | false =>
     left
     refine va (fun h1 => absurd h1 (by decide)) (fun _ => ?_)
     left
     refine va (fun h1 => absurd h1 (by decide)) (fun _ => ?_)
     left
     rw [nh (fun z => by cases z.2.2)] at k
     exact k
theorem xr {C_BallotError C_BadCount C_NotWhole C_BadChance C_BadRound : Addr} (T : Txt K mg C_BallotError C_BadCount C_NotWhole C_BadChance C_BadRound) (U : Up K mg "sizes" Qj ["count", "row"]) (C_fits : vq P w K mg base) : Mk P w K mg base C_BadCount C_BadRound := by
 have sc := Pq
 refine Ka.of (k := 2) U sc (fun vs H Q E h => ?_) (fun f cdv A outer s H vs Q E hr h => ?_)
 . obtain ⟨c, a, ps, os, rfl, _⟩ := h; rfl
 . obtain ⟨c, a, ps, os, rfl, R, hl, q1, q2⟩ := h
   have hu := hr.units
   have pl := R.ln
   conv in (Ba _) => whnf
   with_reducible refine ⟨_, (ba (Sa (PW.pt (Pe (ya (ltK (K := K) ‹rfl› ‹hu›) (pv 0) ia ‹za _›) (Pd (ya Se (pv 0) (Hl ‹rfl› ‹T.m_MOST_PEOPLE›) ‹za _›)))) (ma (qe Gd ‹rfl› ‹rfl› ‹T.c_BadCount› ‹T.q_BadCount› (aa Ha ja))) Ca) (ba (Ea (i := 2) ‹sc.nd› ‹rfl› ‹Or.inl rfl› (pv 0)) (ba (Ea (i := 3) ‹sc.nd› ‹rfl› ‹Or.inl rfl› (vb ja)) (ba (Vc PassesOwn.leaving ‹rfl› (Yh ‹rfl› ‹T.b_enumerate› (aa (pv 1) ja)) (Og (K := K) (n := 2) ‹rfl› ‹rfl› (Va (Qa (i := 4) ‹sc.nd› ‹rfl› ‹Or.inl rfl›) (Va (Qa (i := 5) ‹sc.nd› ‹rfl› ‹Or.inl rfl›) vc))) (ba (Sa (dh (truK (K := K) ‹rfl› (pe_c ‹C_fits› ‹hr.mono (by decide)› ‹rfl› (aa (pv 0) (aa (pv 2) (aa (pv 5) ja)))))) (ma (Ho Gd ‹rfl› ‹hr› ‹rfl› ‹T.c_BadRound› ‹T.I_BadRound› ‹T.c_BallotError› (aa (pv 4) ja))) Ca) (ba (Ea (i := 2) ‹sc.nd› ‹rfl› ‹Or.inl rfl› (Ia (ixK (K := K) ‹rfl›) (pv 5) ia ‹fun _ _ => rfl›)) (ma (Ab (dj ‹PySem.F.plainAttrs_list› ‹PySem.F.slot_list_append› ‹PySem.F.type_list_append› ‹Ub› (pv 3) (aa (pv 2) ja))))))) (ma (xa (pv 3))))))), ?_⟩
   rw [show L2.start ["count", "row", "sit", "found", "at", "step"] [V.int c, V.ref a] = [some (V.int c), some (V.ref a), none, none, none, none] from rfl]
   left
   refine va (fun h1 => ?_) (fun h1 => ?_)
   . left
     exact fun ea hea => q1 (by omega) _ ea (Same.refl _) hea
   left
   refine va (fun h2 => ?_) (fun h2 => ?_)
   . left
     exact fun ea hea => q1 (by omega) _ ea (Same.refl _) hea
   obtain ⟨qa, qb⟩ := q2 (by omega) (by omega)
   left
   intro f hf
   left
   have haf : a ≠ f := da R.ls hf
   refine forE (a := a) (xs := ps.map V.ref) (fun i σ' H' => ∃ x y : Option V, okTo c os i /\ Fr1 f H H' /\ H' f = some (.lst (lstO (os.take i))) /\ σ' = [some (.int c), some (.ref a), some (.int (Bb c (os.take i))), some (.ref f), x, y]) ⟨none, none, fun j o hj => absurd hj (Nat.not_lt_zero _), (Fr1.refl f H).new hf, ka, rfl⟩ (fun i σ' H' _ h => by obtain ⟨_, _, _, fr, _⟩ := h; exact fr.get R.ls haf) ?_ ?_
   . rintro i x σ' H' T hi ⟨x1, y1, ok, fr, hf', rfl⟩ hT
     obtain ⟨p, o, rfl, hp, ho, hob⟩ := R.get hi
     have hil : i < os.length := (List.getElem?_eq_some_iff.mp ho).1
     have hpf : p ≠ f := da hob hf
     have ho' : H' p = some (onO o) := fr.get hob hpf
     have hpT : p ≠ T := da ho' hT
     have hfT : f ≠ T := da hf' hT
     have hoT := Oa (o := .tup [.int i, .ref p]) hpT ho'
     have sS : Same H (upd H' T (.tup [.int i, .ref p])) := fun b u hb => by rw [Aa (da (fr b u hb (da hb hf)) hT)]; exact fr b u hb (da hb hf)
     left
     refine Yk hoT ?_
     cases ft : fitO c (Bb c (os.take i)) o with
     | false =>
      left
      refine ⟨i, rfl, by omega, by omega, fun ea dx h1 h2 h3 => ?_⟩
      have e := Bi (k := 0) ok ho ft
      rw [Nat.zero_add] at e
      exact qa i e _ ea dx sS h1 h2 h3
     | true =>
      left
      obtain ⟨xs, e1, e2⟩ := on_n o
      refine Yb (xs := xs) (by rw [<- e1]; exact hoT) e2 ?_
      left
      refine Zb (xs := lstO (os.take i)) (Oa hfT hf') (by unfold lstO; rw [List.length_map, List.length_take, sizeLine_eq]; omega) ?_
      left
      have en := BR.rb ho
      refine ⟨some (.int i), some (.ref p), fun j o' hj hj' => ?_, ((fr.new hT).upd), ?_, ?_⟩
      . by_cases z : j = i
        . subst z
          rw [ho] at hj'
          cases hj'
          exact ft
        . exact ok j o' (by omega) hj'
      . rw [ka, en]
        unfold lstO
        rw [List.map_append]
        rfl
      . rw [en, Ue]; rfl
   . rintro σ' H' ⟨x1, y1, ok, fr, hf', rfl⟩
     left
     rw [List.length_map, pl] at ok hf'
     rw [List.take_length] at hf'
     exact qb (Ci fun j o hj => ok j o (List.getElem?_eq_some_iff.mp hj).1 hj) f H' hf (fun b o z => fr b o z (da z hf)) hf'
theorem Gg {C_BallotError C_BadCount C_NotWhole C_BadChance C_BadRound : Addr} (T : Txt K mg C_BallotError C_BadCount C_NotWhole C_BadChance C_BadRound) (U : Up K mg "sizes_ahead" Hc ["count", "row"]) (C_sizes : Mk P w K mg base C_BadCount C_BadRound) : yb P w K mg base C_BadCount C_BadRound := by
 have sc := Bg
 refine Ka.of (k := 3) U sc (fun vs H Q E h => ?_) (fun f cdv A outer s H vs Q E hr h => ?_)
 . obtain ⟨c, a, ps, os, rfl, _⟩ := h; rfl
 . obtain ⟨c, a, ps, os, rfl, R, hl, q1, q2⟩ := h
   have hu := hr.units
   conv in (Ba _) => whnf
   with_reducible refine ⟨_, (ma (xa (La (addK (K := K) ‹rfl›) (vb (aa (pv 0) ja)) (jb ‹C_sizes› Na ‹hr.mono (by decide)› ‹rfl› (aa (pv 0) (aa (pv 1) ja)))))), ?_⟩
   rw [show L2.start ["count", "row"] [V.int c, V.ref a] = [some (V.int c), some (V.ref a)] from rfl]
   left
   intro f hf
   have s1 : Same H (upd H f (.lst [.int c])) := (Same.refl H).new hf
   left
   refine gm (R.same s1) hl (fun h => (q1 h).same s1) fun h1 h2 => ⟨fun k hk => ((q2 h1 h2).1 k hk).same s1, fun hn p H' hp s2 hp' => ?_⟩
   refine Sf (xs := [.int c]) (ys := lstO os) (s2 _ _ ka) hp' (by unfold lstO; rw [List.length_map, sizeLine_eq]; simp only [List.length_cons, List.length_nil]; omega) ?_
   intro p2 hp2
   exact (q2 h1 h2).2 hn p2 _ (s1.free (s2.free hp2)) ((s1.tr s2).new hp2) ka
theorem sr {C_BallotError C_BadCount C_NotWhole C_BadChance C_BadRound : Addr} (T : Txt K mg C_BallotError C_BadCount C_NotWhole C_BadChance C_BadRound) (U : Up K mg "whole" Oj ["count", "row"]) (C_sizes_ahead : yb P w K mg base C_BadCount C_BadRound) : Kk P w K mg base C_BadCount C_BadRound := by
 have sc := Nq
 refine Ka.of (k := 4) U sc (fun vs H Q E h => ?_) (fun f cdv A outer s H vs Q E hr h => ?_)
 . obtain ⟨c, a, ps, os, rfl, _⟩ := h; rfl
 . obtain ⟨c, a, ps, os, rfl, R, hl, q1, q2⟩ := h
   have hu := hr.units
   conv in (Ba _) => whnf
   with_reducible refine ⟨_, (ma (xa (Xa (eqK (K := K) ‹rfl› ‹hu›) (Ia (ixK (K := K) ‹rfl›) (jb ‹C_sizes_ahead› Na ‹hr.mono (by decide)› ‹rfl› (aa (pv 0) (aa (pv 1) ja))) (Qe Bc ia) ‹fun _ _ => rfl›) ia ‹za _›))), ?_⟩
   rw [show L2.start ["count", "row"] [V.int c, V.ref a] = [some (V.int c), some (V.ref a)] from rfl]
   left
   refine Je R hl q1 fun h1 h2 => ⟨(q2 h1 h2).1, fun hn p H' hp s2 hp' => ?_⟩
   left
   refine Fb hp' (Lm c os) ?_
   left
   exact (q2 h1 h2).2 hn _ s2
theorem fi {C_BallotError C_BadCount C_NotWhole C_BadChance C_BadRound : Addr} (T : Txt K mg C_BallotError C_BadCount C_NotWhole C_BadChance C_BadRound) (U : Up K mg "need_whole" Yc ["count", "row"]) (C_whole : Kk P w K mg base C_BadCount C_BadRound) : cc P w K mg base C_BadCount C_BadRound C_NotWhole := by
 have sc := Bh
 refine Ka.of (k := 5) U sc (fun vs H Q E h => ?_) (fun f cdv A outer s H vs Q E hr h => ?_)
 . obtain ⟨c0, a, rfl, _⟩ := h; rfl
 . obtain ⟨c0, a, rfl, h⟩ := h
   have hu := hr.units
   conv in (Ba _) => whnf
   with_reducible refine ⟨_, (ma (Sa (dh (truK (K := K) ‹rfl› (jb ‹C_whole› Na ‹hr.mono (by decide)› ‹rfl› (aa (pv 0) (aa (pv 1) ja))))) (ma (qe Gd ‹rfl› ‹rfl› ‹T.c_NotWhole› ‹T.q_NotWhole› (aa Ha ja))) Ca)), ?_⟩
   rw [show L2.start ["count", "row"] [V.int c0, V.ref a] = [some (V.int c0), some (V.ref a)] from rfl]
   rcases h with h | h
   . left
     rcases h with ⟨ps, os, R, hl, d⟩ | ⟨n, ps, rs, rfl, R, hn, x⟩
     . exact fm R hl d
     . refine Vg R fun H1 s1 => ?_
       rw [decide_eq_false hn]
       left
       exact fun ea hea => x _ ea s1 hea
   . obtain ⟨c, a, ps, rs, e, R, hw, q⟩ := h
     cases e
     left
     refine Vg R fun H1 s1 => ?_
     rw [decide_eq_true hw]
     left
     exact q _ s1
theorem Yf {C_BallotError C_BadCount C_NotWhole C_BadChance C_BadRound : Addr} (T : Txt K mg C_BallotError C_BadCount C_NotWhole C_BadChance C_BadRound) (U : Up K mg "need_friends" nc ["count", "friends", "row"]) (C_need_whole : cc P w K mg base C_BadCount C_BadRound C_NotWhole) : Eb P w K mg base C_BadCount C_BadRound C_NotWhole := by
 have sc := Mf
 refine Ka.of (k := 6) U sc (fun vs H Q E h => ?_) (fun f cdv A outer s H vs Q E hr h => ?_)
 . obtain ⟨c0, f0, a, rfl, _⟩ := h; rfl
 . obtain ⟨c0, f0, a, rfl, h⟩ := h
   have hu := hr.units
   conv in (Ba _) => whnf
   with_reducible refine ⟨_, (ba (Ab (jb ‹C_need_whole› Na ‹hr.mono (by decide)› ‹rfl› (aa (pv 0) (aa (pv 2) ja)))) (ma (Sa (PW.pt (Pe (ya (ltK (K := K) ‹rfl› ‹hu›) (pv 1) ia ‹za _›) (Pd (ya Se (pv 1) (pv 0) ‹za _›)))) (ma (qe Gd ‹rfl› ‹rfl› ‹T.c_BadCount› ‹T.q_BadCount› (aa Ha ja))) Ca))), ?_⟩
   rw [show L2.start ["count", "friends", "row"] [V.int c0, V.int f0, V.ref a] = [some (V.int c0), some (V.int f0), some (V.ref a)] from rfl]
   rcases h with h | h
   . left
     rcases h with h | ⟨n, ps, rs, rfl, R, hn, hf, x⟩
     . exact orW_b h
     . refine kr (pe R hn fun H1 s1 => ?_)
       left
       refine va (fun h1 => ?_) (fun h1 => ?_)
       . left
         exact fun ea hea => x _ ea s1 hea
       . left
         refine va (fun h2 => ?_) (fun h2 => by omega)
         left
         exact fun ea hea => x _ ea s1 hea
   . obtain ⟨c, f, a, ps, rs, e, R, hw, hf, q⟩ := h
     cases e
     left
     refine kr (pe R hw fun H1 s1 => ?_)
     left
     refine va (fun h1 => by omega) (fun _ => ?_)
     left
     refine va (fun h1 => by omega) (fun _ => ?_)
     left
     exact q _ s1
theorem Hg {C_BallotError C_BadCount C_NotWhole C_BadChance C_BadRound : Addr} (T : Txt K mg C_BallotError C_BadCount C_NotWhole C_BadChance C_BadRound) (U : Up K mg "round_draws" Ic ["count", "sit", "step"]) (C_ways : nq P w K mg base) : Pb P w K mg base := by
 have sc := Cg
 refine Callee.of (k := 1) U sc (fun vs H Q E h => ?_) (fun f cdv A outer s H vs Q E hr h => ?_)
 . obtain ⟨c, s, p, r, rfl, _⟩ := h; rfl
 . obtain ⟨c, s, p, r, rfl, hp, h1, h2, k⟩ := h
   have hu := hr.units
   conv in (Ba _) => whnf
   with_reducible refine ⟨_, (ba (Sa (PW.pt (Pe (ya (eqK (K := K) ‹rfl› ‹hu›) (Ia (ixK (K := K) ‹rfl›) (pv 2) ia ‹fun _ _ => rfl›) Ha ‹za _›) (Pd (ya (eqK (K := K) ‹rfl› ‹hu›) (Ia (ixK (K := K) ‹rfl›) (pv 2) ia ‹fun _ _ => rfl›) Ha ‹za _›)))) (ma (xa (pe_c ‹C_ways› ‹hr.mono (by decide)› ‹rfl› (aa (pv 1) (aa (Ia (ixK (K := K) ‹rfl›) (pv 2) ia ‹fun _ _ => rfl›) ja))))) Ca) (ba (Sa (ya (eqK (K := K) ‹rfl› ‹hu›) (Ia (ixK (K := K) ‹rfl›) (pv 2) ia ‹fun _ _ => rfl›) Ha ‹za _›) (ma (xa (pe_c ‹C_ways› ‹hr.mono (by decide)› ‹rfl› (aa (pv 0) (aa (Ia (ixK (K := K) ‹rfl›) (pv 2) ia ‹fun _ _ => rfl›) ja))))) Ca) (ma (xa ia)))), ?_⟩
   rw [show L2.start ["count", "sit", "step"] [V.int c, V.int s, V.ref p] = [some (V.int c), some (V.int s), some (V.ref p)] from rfl]
   cases r with
   | lot n =>
    have hp' : H p = some (.tup [.str "lot", .int n]) := hp
    left
    refine va (fun _ => ?_) (fun h1 => absurd rfl h1)
    left
    refine yh (by omega) ?_
    rw [MB.Uv]
    exact k
   | vote n q w =>
    have hp' : H p = some (.tup [.str "vote", .int n, .int q, .str (wdS w)]) := hp
    left
    refine va (fun h1 => absurd h1 (by decide)) (fun _ => ?_)
    left
    cases w with
    | council =>
     refine va (fun h1 => absurd h1 (by decide)) (fun _ => ?_)
     left
     refine va (fun _ => ?_) (fun h1 => absurd rfl h1)
     left
     refine yh (by omega) ?_
     rw [MB.Uv]
     exact k
    | bench =>
     refine va (fun _ => ?_) (fun h1 => absurd rfl h1)
     left
     refine yh (by omega) ?_
     rw [MB.Uv]
     exact k
    | stay =>
     refine va (fun h1 => absurd h1 (by decide)) (fun _ => ?_)
     left
     refine va (fun h1 => absurd h1 (by decide)) (fun _ => ?_)
     left
     exact k
theorem ij {C_BallotError C_BadCount C_NotWhole C_BadChance C_BadRound : Addr} (T : Txt K mg C_BallotError C_BadCount C_NotWhole C_BadChance C_BadRound) (U : Up K mg "draws_row" Xd ["count", "row"]) (C_sizes_ahead : yb P w K mg base C_BadCount C_BadRound) (C_round_draws : Pb P w K mg base) : Rc P w K mg base C_BadCount C_BadRound := by
 have sc := Yi
 refine Ka.of (k := 4) U sc (fun vs H Q E h => ?_) (fun f cdv A outer s H vs Q E hr h => ?_)
 . obtain ⟨c0, a, rfl, _⟩ := h; rfl
 . obtain ⟨c0, a, rfl, h⟩ := h
   have hu := hr.units
   conv in (Ba _) => whnf
   with_reducible refine ⟨_, (ma (xa (zt ["count"] ["step", "sit"] [0] (by with_unfolding_all rfl) ‹rfl› (El ‹rfl› ‹T.b_zip› (aa (pv 1) (aa (jb ‹C_sizes_ahead› Na ‹hr.mono (by decide)› ‹rfl› (aa (pv 0) (aa (pv 1) ja))) ja))) (by decide) ‹rfl› (by decide) ‹⟨rfl, trivial⟩› (by with_unfolding_all rfl) (fun _ => ‹⟨cap1 rfl rfl rfl rfl, trivial⟩›) (fun _ _ _ _ => (Og (K := K) (n := 2) ‹rfl› ‹rfl› (Va (Qa (i := 1) ‹show List.Nodup (["count", "step", "sit"] : List Str) from by decide +kernel› ‹rfl› ‹Or.inl rfl› ‹.inr rfl›) (Va (Qa (i := 2) ‹show List.Nodup (["count", "step", "sit"] : List Str) from by decide +kernel› ‹rfl› ‹Or.inl rfl› ‹.inr rfl›) vc)))) (fun _ _ _ _ => Wh) (fun _ _ _ _ => (pe_c ‹C_round_draws› ‹hr.mono (by decide)› ‹rfl› (aa (pv 0) (aa (pv 2) (aa (pv 1) ja)))))))), ?_⟩
   rw [show L2.start ["count", "row"] [V.int c0, V.ref a] = [some (V.int c0), some (V.ref a)] from rfl]
   rcases h with h | h
   . obtain ⟨ps, os, R, hl, d⟩ := h
     left
     exact mm R hl d
   . obtain ⟨c, a, ps, rs, e, R, q⟩ := h
     cases e
     left
     refine Zg R fun p H1 hp s1 hp1 => ?_
     have R1 := R.same s1
     have c2 := R.c2
     have ln := R.ln
     have rl := R.rw.ln
     refine Xr (a1 := a) (a2 := p) (xs := ps.map V.ref) (ws := (zs (c :: szs rs)).map V.int) [some (.int c)] (fun i ys H' => Same H1 H' /\ ys = (zs (drs c c (rs.take i))).map V.int) rfl (by rw [List.length_map, sizeLine_eq]; omega) ⟨fun _ _ z => z, rfl⟩
      (fun i ys H' _ _ ⟨s, _⟩ => ⟨s _ _ R1.rw.ls, s _ _ hp1⟩) (fun i ys H' ⟨_, e⟩ => by rw [e, Ja, wc, List.length_take]; omega) ?_ ?_
     . rintro i x w ys z1 z2 H' T hi hw ⟨s, rfl⟩ hT
       obtain ⟨p2, r, rfl, _, hr', ho⟩ := R1.rw.get hi
       have hil : i < rs.length := (List.getElem?_eq_some_iff.mp hr').1
       have ew : w = .int (Pa c (rs.take i) : Nat) := by
        have := vg (s := c) (rs := rs) (i := i) (by omega)
        unfold zs at hw
        rw [List.getElem?_map, List.getElem?_map, this] at hw
        exact (Option.some.inj hw).symm
       subst ew
       have lb := Nd (R.ft.take i) R.c1 (Nat.le_refl _)
       left
       refine jc (r := r) (Oa (da (s _ _ ho) hT) (s _ _ ho)) (by omega) (by omega) ?_
       refine ⟨⟨s.new hT, ?_⟩, _, _, rfl⟩
       rw [BR.rb hr', Rl, <- lst_snoc]
     . rintro ys H' ⟨s, rfl⟩ D hD
       have e : min (ps.map V.ref).length ((zs (c :: szs rs)).map V.int).length = rs.length := by
        rw [Ja, List.length_map, List.length_cons]; unfold szs; rw [List.length_map]; omega
       rw [e, List.take_length]
       exact q D _ (s1.free (s.free hD)) ((s1.tr s).new hD) ka
theorem Br {C_BallotError C_BadCount C_NotWhole C_BadChance C_BadRound : Addr} (T : Txt K mg C_BallotError C_BadCount C_NotWhole C_BadChance C_BadRound) (U : Up K mg "draws" Uj ["count", "row"]) (C_draws_row : Rc P w K mg base C_BadCount C_BadRound) : Ag P w K mg base C_BadCount C_BadRound := by
 have sc := Tq
 refine Ka.of (k := 5) U sc (fun vs H Q E h => ?_) (fun f cdv A outer s H vs Q E hr h => ?_)
 . obtain ⟨c0, a, rfl, _⟩ := h; rfl
 . obtain ⟨c0, a, rfl, h⟩ := h
   have hu := hr.units
   conv in (Ba _) => whnf
   with_reducible refine ⟨_, (ba (Ea (i := 2) ‹sc.nd› ‹rfl› ‹Or.inl rfl› ia) (ba (Vc PassesOwn.leaving ‹rfl› (piLK (K := K) ‹rfl› (jb ‹C_draws_row› Na ‹hr.mono (by decide)› ‹rfl› (aa (pv 0) (aa (pv 1) ja)))) (Qa (i := 3) ‹sc.nd› ‹rfl› ‹Or.inl rfl›) (ma (Jo (i := 2) ‹sc.nd› ‹rfl› ‹Or.inl rfl› (pv 3) Ct))) (ma (xa (pv 2))))), ?_⟩
   rw [show L2.start ["count", "row", "found", "many"] [V.int c0, V.ref a] = [some (V.int c0), some (V.ref a), none, none] from rfl]
   rcases h with h | h
   . left
     exact orR_b h
   . obtain ⟨c, a, ps, rs, e, R, q⟩ := h
     cases e
     left
     refine vm (cf R fun p H1 hp s1 hp1 => ?_)
     have lt := sj R.ft (Nat.le_refl _) (by have := R.c2; omega)
     have ln := R.ln
     have dl := wc c rs c
     refine forL (a := p) (xs := (zs (drs c c rs)).map V.int) (fun i σ' H' => H' = H1 /\ ∃ x : Option V, σ' = [some (.int c), some (.ref a), some (.int (Kb ((drs c c rs).take i) : Nat)), x]) ⟨rfl, none, rfl⟩ (fun i σ' H' _ ⟨e, _⟩ => by subst e; exact SqL.of hp1) ?_ ?_
     . rintro i x σ' H' hi ⟨rfl, x1, rfl⟩
       obtain ⟨n, hn, rfl⟩ : ∃ n, (drs c c rs)[i]? = some n /\ V.int (n : Nat) = x := by
        unfold zs at hi
        rw [List.getElem?_map, List.getElem?_map] at hi
        cases w : (drs c c rs)[i]? with
        | none => rw [w] at hi; cases hi
        | some n => rw [w] at hi; exact ⟨n, rfl, Option.some.inj hi⟩
       have hil : i < (drs c c rs).length := (List.getElem?_eq_some_iff.mp hn).1
       have b1 := Jd (b := 512) ((drs c c rs).take i) fun y hy => lt y (List.mem_of_mem_take hy)
       have b2 := lt n (List.mem_of_getElem? hn)
       left
       refine r_ipC (.of _ 512 (by rw [Int.natAbs_natCast]; exact b1) (by rw [Int.natAbs_natCast]; exact b2) (by rw [List.length_take]; omega)) ?_
       refine ⟨rfl, some (.int n), ?_⟩
       rw [BR.rb hn, eh, Int.natCast_mul]
       rfl
     . rintro σ' H' ⟨rfl, x1, rfl⟩
       left
       rw [Ja, List.take_length]
       exact q _ s1
theorem Zf {C_BallotError C_BadCount C_NotWhole C_BadChance C_BadRound : Addr} (T : Txt K mg C_BallotError C_BadCount C_NotWhole C_BadChance C_BadRound) (U : Up K mg "draws_behind" qc ["count", "row"]) (C_draws_row : Rc P w K mg base C_BadCount C_BadRound) : Ac P w K mg base C_BadCount C_BadRound := by
 have sc := Nf
 refine Ka.of (k := 5) U sc (fun vs H Q E h => ?_) (fun f cdv A outer s H vs Q E hr h => ?_)
 . obtain ⟨c0, a, rfl, _⟩ := h; rfl
 . obtain ⟨c0, a, rfl, h⟩ := h
   have hu := hr.units
   conv in (Ba _) => whnf
   with_reducible refine ⟨_, (ba (Ea (i := 2) ‹sc.nd› ‹rfl› ‹Or.inl rfl› (vb ja)) (ba (Ea (i := 3) ‹sc.nd› ‹rfl› ‹Or.inl rfl› ia) (ba (Vc PassesOwn.leaving ‹rfl› (piLK (K := K) ‹rfl› (Zh (K := K) ‹rfl› (jb ‹C_draws_row› Na ‹hr.mono (by decide)› ‹rfl› (aa (pv 0) (aa (pv 1) ja))) (Qe Bc ia))) (Qa (i := 4) ‹sc.nd› ‹rfl› ‹Or.inl rfl›) (ba (Ab (dj ‹PySem.F.plainAttrs_list› ‹PySem.F.slot_list_append› ‹PySem.F.type_list_append› ‹Ub› (pv 2) (aa (pv 3) ja))) (ma (Jo (i := 3) ‹sc.nd› ‹rfl› ‹Or.inl rfl› (pv 4) Ct)))) (ma (xa (Zh (K := K) ‹rfl› (pv 2) (Qe Bc ia))))))), ?_⟩
   rw [show L2.start ["count", "row", "found", "many", "own"] [V.int c0, V.ref a] = [some (V.int c0), some (V.ref a), none, none, none] from rfl]
   rcases h with h | h
   . left
     intro fa hfa
     have s1 := (Same.refl H).new (o := .lst []) hfa
     left
     exact orR_b (h.same s1)
   . obtain ⟨c, a, ps, rs, e, R, q⟩ := h
     cases e
     left
     intro fa hfa
     have s0 := (Same.refl H).new (o := .lst []) hfa
     have R0 := R.same s0
     have a0 : upd H fa (.lst []) fa = some (.lst []) := ka
     generalize upd H fa (.lst []) = H0 at s0 R0 a0 ⊢
     left
     refine vm (cf R0 fun p H1 hp s1 hp1 => ?_)
     have a1 := s1 _ _ a0
     left
     have lt := sj R.ft (Nat.le_refl _) (by have := R.c2; omega)
     have ln := R.ln
     have dl := wc c rs c
     generalize hD : drs c c rs = L at *
     refine Bl (xs := (zs L).map V.int) hp1 ?_
     intro pr hpr
     have s2 := (Same.refl H1).new (o := .lst ((zs L).map V.int).reverse) hpr
     have a2 := s2 _ _ a1
     have h2 : upd H1 pr (.lst ((zs L).map V.int).reverse) pr = some (.lst ((zs L).map V.int).reverse) := ka
     have nfp : fa ≠ pr := da a1 hpr
     have S2 := (s0.tr s1).tr s2
     generalize upd H1 pr (.lst ((zs L).map V.int).reverse) = H2 at s2 a2 h2 S2 ⊢
     have sl := Kj L
     refine forL (a := pr) (xs := ((zs L).map V.int).reverse) (fun i σ' H' => i <= L.length /\ Fr1 fa H2 H' /\ H' fa = some (.lst ((zs ((sfx L).drop (L.length - i)).reverse).map V.int)) /\ ∃ x : Option V, σ' = [some (.int c), some (.ref a), some (.ref fa), some (.int (Kb (L.drop (L.length - i)) : Nat)), x]) ⟨Nat.zero_le _, Fr1.refl _ _, by rw [Nat.sub_zero, List.drop_eq_nil_of_le (by omega)]; exact a2, none, by rw [Nat.sub_zero, List.drop_length]; rfl⟩ (fun i σ' H' _ h => by obtain ⟨_, fr, _⟩ := h; exact SqL.of (fr.get h2 nfp.symm)) ?_ ?_
     . rintro i x σ' H' hi ⟨_, fr, hf, x1, rfl⟩
       have hil : i < L.length := by
        have := (List.getElem?_eq_some_iff.mp hi).1
        rw [List.length_reverse, Ja] at this
        exact this
       obtain ⟨j, hj⟩ : ∃ j, j = L.length - 1 - i := ⟨_, rfl⟩
       obtain ⟨n, hn, rfl⟩ : ∃ n, L[j]? = some n /\ V.int (n : Nat) = x := by
        rw [List.getElem?_reverse (by rw [Ja]; exact hil), Ja, <- hj] at hi
        unfold zs at hi
        rw [List.getElem?_map, List.getElem?_map] at hi
        cases w : L[j]? with
        | none => rw [w] at hi; cases hi
        | some n => rw [w] at hi; exact ⟨n, rfl, Option.some.inj hi⟩
       have b1 := Jd (b := 512) (L.drop (L.length - i)) fun y hy => lt y (List.mem_of_mem_drop hy)
       have b2 := lt n (List.mem_of_getElem? hn)
       have e1 : L.length - (i + 1) = j := by omega
       have e2 : L.length - i = j + 1 := by omega
       have sg : (sfx L)[j]? = some (Kb (L.drop (j + 1))) := Lj (by omega)
       left
       refine Zb hf (by rw [Ja, List.length_reverse, List.length_drop, sl, sizeLine_eq]; omega) ?_
       left
       refine r_ipC (.of _ 512 (by rw [Int.natAbs_natCast]; exact b1) (by rw [Int.natAbs_natCast]; exact b2) (by rw [List.length_drop]; omega)) ?_
       refine ⟨by omega, fr.upd, ?_, some (.int n), ?_⟩
       . rw [ka, e1, e2, we sg, <- lst_snoc]
       . rw [e1, e2, Ko hn, Int.natCast_mul, Int.mul_comm]
         rfl
     . rintro σ' H' ⟨_, fr, hf, x1, rfl⟩
       rw [List.length_reverse, Ja, Nat.sub_self, List.drop_zero] at hf
       left
       refine Bl hf ?_
       intro pz hpz
       have SS : Same H H' := fun b o hb => fr.get (S2 _ _ hb) (da hb hfa)
       refine q pz _ (SS.free hpz) (SS.new hpz) ?_
       rw [ka, <- List.map_reverse]
       unfold lstN zs
       rw [<- List.map_reverse, List.reverse_reverse]
theorem ei {C_BallotError C_BadCount C_NotWhole C_BadChance C_BadRound : Addr} (T : Txt K mg C_BallotError C_BadCount C_NotWhole C_BadChance C_BadRound) (U : Up K mg "ways_up_to" Xc ["many", "few"]) : zd P w K mg base := by
 have sc := Ah
 refine Callee.of (k := 0) U sc (fun vs H Q E h => ?_) (fun f cdv A outer s H vs Q E hr h => ?_)
 . obtain ⟨m, k, rfl, _⟩ := h; rfl
 . obtain ⟨m, k, rfl, hm, hk, q⟩ := h
   have hu := hr.units
   conv in (Ba _) => whnf
   with_reducible refine ⟨_, (ba (Ea (i := 2) ‹sc.nd› ‹rfl› ‹Or.inl rfl› (vb (aa ia ja))) (ba (Vc PassesOwn.never ‹rfl› (pd ‹rfl› ‹T.b_range› (aa (pv 1) ja)) (Qa (i := 3) ‹sc.nd› ‹rfl› ‹Or.inl rfl›) (ma (Ab (dj ‹PySem.F.plainAttrs_list› ‹PySem.F.slot_list_append› ‹PySem.F.type_list_append› ‹Ub› (pv 2) (aa (La xb (La wb (Ia (ixK (K := K) ‹rfl›) (pv 2) (Qe Bc ia) ‹fun _ _ => rfl›) (La Ec (pv 0) (pv 3))) (La (addK (K := K) ‹rfl›) (pv 3) ia)) ja))))) (ma (xa (pv 2))))), ?_⟩
   rw [show L2.start ["many", "few", "found", "taken"] [V.int m, V.int k] = [some (V.int m), some (V.int k), none, none] from rfl]
   left
   intro f hf
   left
   refine forR (fun i σ' H' => ∃ x : Option V, Fr1 f H H' /\ H' f = some (lstN (mr i (MB.ch m))) /\ σ' = [some (.int m), some (.int k), some (.ref f), x]) (by omega) (by omega) ⟨none, (Fr1.refl f H).upd, by rw [ka]; simp [mr, lstN, zs, MB.ib], rfl⟩ ?_ ?_
   . rintro i σ' H' hi ⟨x1, fr, hf', rfl⟩
     left
     refine um (xs := (zs (mr i (MB.ch m))).map V.int) hf' ?_
     left
     have hat : atI ((zs (mr i (MB.ch m))).map V.int) (-1) = some (.int (MB.ch m i : Nat)) := by
      cases i with
      | zero => rfl
      | succ i =>
       rw [qd, <- lst_snoc]
       exact Ce _ _
     refine Fb (xs := (zs (mr i (MB.ch m))).map V.int) hf' hat ?_
     left
     rw [Iv m i]
     refine Zb (xs := (zs (mr i (MB.ch m))).map V.int) hf' (by rw [Ja, sizeLine_eq, ub]; omega) ?_
     refine ⟨some (.int i), fr.upd, ?_, rfl⟩
     rw [ka, lst_snoc, qd]
     rfl
   . rintro σ' H' ⟨x1, fr, hf', rfl⟩
     left
     exact q f H' hf (fun b o z => fr b o z (da z hf)) hf'
theorem ki {C_BallotError C_BadCount C_NotWhole C_BadChance C_BadRound : Addr} (T : Txt K mg C_BallotError C_BadCount C_NotWhole C_BadChance C_BadRound) (U : Up K mg "behind_lot" md ["bench", "on", "few"]) (C_ways_up_to : zd P w K mg base) : Cd P w K mg base := by
 have sc := Fh
 refine Callee.of (k := 1) U sc (fun vs H Q E h => ?_) (fun f cdv A outer s H vs Q E hr h => ?_)
 . obtain ⟨b, on, k, rfl, _⟩ := h; rfl
 . obtain ⟨b, on, k, rfl, hb, ho, hk, q⟩ := h
   have hu := hr.units
   conv in (Ba _) => whnf
   with_reducible refine ⟨_, (ba (Ea (i := 3) ‹sc.nd› ‹rfl› ‹Or.inl rfl› (pe_c ‹C_ways_up_to› ‹hr.mono (by decide)› ‹rfl› (aa (pv 1) (aa (pv 2) ja)))) (ba (Ea (i := 4) ‹sc.nd› ‹rfl› ‹Or.inl rfl› (pe_c ‹C_ways_up_to› ‹hr.mono (by decide)› ‹rfl› (aa (La Ec (pv 0) (pv 1)) (aa (pv 2) ja)))) (ma (xa (Pu [] ["one", "other"] [] (by with_unfolding_all rfl) ‹rfl› ‹rfl› (El ‹rfl› ‹T.b_zip› (aa (pv 3) (aa (Zh (K := K) ‹rfl› (pv 4) (Qe Bc ia)) ja))) (by decide) ‹rfl› (by decide) ‹trivial› (by with_unfolding_all rfl) (fun _ => ‹trivial›) (fun _ _ _ _ => (Og (K := K) (n := 2) ‹rfl› ‹rfl› (Va (Qa (i := 0) ‹show List.Nodup (["one", "other"] : List Str) from by decide +kernel› ‹rfl› ‹Or.inl rfl› ‹.inr rfl›) (Va (Qa (i := 1) ‹show List.Nodup (["one", "other"] : List Str) from by decide +kernel› ‹rfl› ‹Or.inl rfl› ‹.inr rfl›) vc)))) (fun _ _ _ _ => Wh) (fun _ _ _ _ => (La wb (pv 0) (pv 1)))))))), ?_⟩
   rw [show L2.start ["bench", "on", "few", "friendly", "others"] [V.int b, V.int on, V.int k] = [some (V.int b), some (V.int on), some (V.int k), none, none] from rfl]
   left
   refine Uk (by omega) hk fun p H1 hp s1 hp1 => ?_
   left
   rw [show (b : Int) - (on : Int) = ((b - on : Nat) : Int) by omega]
   refine Uk (by omega) hk fun p2 H2 hp2 s2 hp22 => ?_
   left
   refine Bl (xs := (zs (mr k (MB.ch (b - on)))).map V.int) hp22 fun p3 hp3 => ?_
   rw [zs_rev, kj]
   have s3 : Same H2 (upd H2 p3 (.lst ((zs (mr k fun j => MB.ch (b - on) (k - j))).map V.int))) := (Same.refl H2).new hp3
   have h3 : (upd H2 p3 (.lst ((zs (mr k fun j => MB.ch (b - on) (k - j))).map V.int))) p3 = some (lstN (mr k fun j => MB.ch (b - on) (k - j))) := ka
   generalize upd H2 p3 (.lst ((zs (mr k fun j => MB.ch (b - on) (k - j))).map V.int)) = H3 at s3 h3 ⊢
   left
   refine Xr (a1 := p) (a2 := p3) (xs := (zs (mr k (MB.ch on))).map V.int) (ws := (zs (mr k fun j => MB.ch (b - on) (k - j))).map V.int) [] (fun i ys H' => Same H3 H' /\ ys = (zs ((lotN b on k).take i)).map V.int) rfl (by rw [Ja, ub, sizeLine_eq]; omega) ⟨Same.refl H3, rfl⟩
    (fun i ys H' _ _ ⟨s, _⟩ => ⟨s _ _ (s3 _ _ (s2 _ _ hp1)), s _ _ h3⟩) (fun i ys H' ⟨_, e⟩ => by rw [e, Ja, List.length_take]; omega) ?_ ?_
   . rintro i x w ys z1 z2 H' T hi hw ⟨s, rfl⟩ hT
     obtain ⟨x', hx, rfl⟩ := Mb hi
     obtain ⟨w', hw', rfl⟩ := Mb hw
     have hil : i < k + 1 := by
      have := (List.getElem?_eq_some_iff.mp hx).1
      rw [ub] at this; exact this
     rw [zb _ (by omega)] at hx hw'
     have ex := Option.some.inj hx
     have ew := Option.some.inj hw'
     subst ex ew
     left
     have b1 := Nat.lt_of_le_of_lt (MB.fb on i) (Nat.pow_lt_pow_right (by decide) (show on < 512 by omega))
     have b2 := Nat.lt_of_le_of_lt (MB.fb (b - on) (k - i)) (Nat.pow_lt_pow_right (by decide) (show b - on < 512 by omega))
     refine ah (.of 512 512 (by rw [Int.natAbs_natCast]; exact b1) (by rw [Int.natAbs_natCast]; exact b2)) ?_
     refine ⟨⟨s.new hT, ?_⟩, _, _, rfl⟩
     have hl : (lotN b on k)[i]? = some (MB.ch on i * MB.ch (b - on) (k - i)) := zb (fun k' => MB.ch on k' * MB.ch (b - on) (k - k')) (by omega)
     rw [BR.rb hl, <- lst_snoc, Int.natCast_mul]
   . rintro ys H' ⟨s, rfl⟩ D hD
     have e : min ((zs (mr k (MB.ch on))).map V.int).length ((zs (mr k fun j => MB.ch (b - on) (k - j))).map V.int).length = (lotN b on k).length := by
      rw [Ja, Ja, ub, ub]; unfold lotN; rw [ub]; omega
     rw [e, List.take_length]
     have t := ((s1.tr s2).tr s3).tr s
     exact q D _ (t.free hD) (t.new hD) ka
theorem Wu {C_BallotError C_BadCount C_NotWhole C_BadChance C_BadRound : Addr} (T : Txt K mg C_BallotError C_BadCount C_NotWhole C_BadChance C_BadRound) (U : Up K mg "side" uo ["bench", "on", "needed"]) : pq P w K mg base := by
 have sc := iu
 refine Callee.of (k := 0) U sc (fun vs H Q E h => ?_) (fun f cdv A outer s H vs Q E hr h => ?_)
 . obtain ⟨b, on, q', rfl, _⟩ := h; rfl
 . obtain ⟨b, on, q', rfl, ho, q⟩ := h
   have hu := hr.units
   conv in (Ba _) => whnf
   with_reducible refine ⟨_, (ba (Sa (ya nr (pv 1) (pv 2) ‹za _›) (ma (xa Ha)) Ca) (ba (Sa (ya nr (La Ec (pv 0) (pv 1)) (pv 2) ‹za _›) (ma (xa Ha)) Ca) (ma (xa Ha)))), ?_⟩
   rw [show L2.start ["bench", "on", "needed"] [V.int b, V.int on, V.int q'] = [some (V.int b), some (V.int on), some (V.int q')] from rfl]
   left
   refine va (fun h1 => ?_) (fun h1 => ?_)
   . left
     rw [show Vi b on q' = "friends" from if_pos (by omega)] at q
     exact q
   . left
     refine va (fun h2 => ?_) (fun h2 => ?_)
     . left
       rw [show Vi b on q' = "foes" from (if_neg (by omega)).trans (if_pos (by omega))] at q
       exact q
     . left
       rw [show Vi b on q' = "hung" from (if_neg (by omega)).trans (if_neg (by omega))] at q
       exact q
theorem Wo {C_BallotError C_BadCount C_NotWhole C_BadChance C_BadRound : Addr} (T : Txt K mg C_BallotError C_BadCount C_NotWhole C_BadChance C_BadRound) (U : Up K mg "seated" Hh ["count", "friends", "seats", "who"]) : Gi P w K mg base := by
 have sc := Xn
 refine Callee.of (k := 0) U sc (fun vs H Q E h => ?_) (fun f cdv A outer s H vs Q E hr h => ?_)
 . obtain ⟨c, f, n, w, rfl, _⟩ := h; rfl
 . obtain ⟨c, f, n, w, rfl, hf, q⟩ := h
   have hu := hr.units
   conv in (Ba _) => whnf
   with_reducible refine ⟨_, (ba (Sa (ya (eqK (K := K) ‹rfl› ‹hu›) (pv 3) Ha ‹za _›) (ma (xa (Ma (ae ‹rfl›) ‹rfl› ‹T.b_min› rg (aa (pv 1) (aa (pv 2) ja))))) Ca) (ma (xa (La Ec (pv 2) (Ma (ae ‹rfl›) ‹rfl› ‹T.b_min› rg (aa (La Ec (pv 0) (pv 1)) (aa (pv 2) ja))))))), ?_⟩
   cases w with
   | true =>
    rw [show L2.start ["count", "friends", "seats", "who"] [V.int c, V.int f, V.int n, V.str (if true then "friends" else "foes")] = [some (V.int c), some (V.int f), some (V.int n), some (V.str (if true then "friends" else "foes"))] from rfl]
    left
    refine va (fun _ => ?_) (fun z => absurd rfl z)
    left
    have e : (if (n : Int) < (f : Int) then (n : Int) else (f : Int)) = ((min f n : Nat) : Int) := by split <;> omega
    rw [e]
    exact q
   | false =>
    rw [show L2.start ["count", "friends", "seats", "who"] [V.int c, V.int f, V.int n, V.str (if false then "friends" else "foes")] = [some (V.int c), some (V.int f), some (V.int n), some (V.str (if false then "friends" else "foes"))] from rfl]
    left
    refine va (fun z => absurd z (by decide)) (fun _ => ?_)
    left
    have e : (n : Int) - (if (n : Int) < (c : Int) - (f : Int) then (n : Int) else (c : Int) - (f : Int)) = ((n - min (c - f) n : Nat) : Int) := by split <;> omega
    rw [e]
    exact q
theorem Kg {C_BallotError C_BadCount C_NotWhole C_BadChance C_BadRound : Addr} (T : Txt K mg C_BallotError C_BadCount C_NotWhole C_BadChance C_BadRound) (U : Up K mg "all_lead_to" Lc ["seats", "on", "many"]) : Uc P w K mg base := by
 have sc := Fg
 refine Callee.of (k := 0) U sc (fun vs H Q E h => ?_) (fun f cdv A outer s H vs Q E hr h => ?_)
 . obtain ⟨n, k, v, rfl, _⟩ := h; rfl
 . obtain ⟨n, k, v, rfl, hk, hn, q⟩ := h
   have hu := hr.units
   conv in (Ba _) => whnf
   with_reducible refine ⟨_, (ba (Ea (i := 3) ‹sc.nd› ‹rfl› ‹Or.inl rfl› (La wb (vb (aa ia ja)) (La (addK (K := K) ‹rfl›) (pv 0) ia))) (ba (Qd (pv 2) (df (pv 3) (pv 1) set_list)) (ma (xa (pv 3))))), ?_⟩
   rw [show L2.start ["seats", "on", "many", "found"] [V.int n, V.int k, V.int v] = [some (V.int n), some (V.int k), some (V.int v), none] from rfl]
   left
   intro p hp
   left
   refine Bo ka (by omega) (by omega) fun p2 hp2 => ?_
   rw [show ((n : Int) + 1).toNat = n + 1 by omega, Pm]
   have s1 := ((Same.refl H).new (o := .lst [.int 0]) hp)
   have n0 := s1.free hp2
   have s2 := s1.new (o := .lst ((zs (List.replicate (n + 1) 0)).map V.int)) hp2
   left
   refine Al (xs := (zs (List.replicate (n + 1) 0)).map V.int) ka (by rw [Ja, List.length_replicate]; exact qk (by omega)) ?_
   left
   rw [Om, To hk]
   refine q p2 _ n0 (fun b o z => ?_) ka
   rw [Aa (da z n0)]
   exact s2 b o z
theorem rp {C_BallotError C_BadCount C_NotWhole C_BadChance C_BadRound : Addr} (T : Txt K mg C_BallotError C_BadCount C_NotWhole C_BadChance C_BadRound) (U : Up K mg "behind" Qh ["count", "friends", "bench", "on", "step"]) (C_round_draws : Pb P w K mg base) (C_behind_lot : Cd P w K mg base) (C_side : pq P w K mg base) (C_seated : Gi P w K mg base) (C_all_lead_to : Uc P w K mg base) : Df P w K mg base := by
 have sc := oo
 refine Callee.of (k := 2) U sc (fun vs H Q E h => ?_) (fun f cdv A outer s H vs Q E hr h => ?_)
 . obtain ⟨c, f, b, on, p, r, rfl, _⟩ := h; rfl
 . obtain ⟨c, f, b, on, p, r, rfl, hp, hf, ho, hc, hb, ft, q⟩ := h
   have hu := hr.units
   conv in (Ba _) => whnf
   with_reducible refine ⟨_, (ba (Ea (i := 5) ‹sc.nd› ‹rfl› ‹Or.inl rfl› (Ia (ixK (K := K) ‹rfl›) (pv 4) ia ‹fun _ _ => rfl›)) (ba (Sa (ya (eqK (K := K) ‹rfl› ‹hu›) (Ia (ixK (K := K) ‹rfl›) (pv 4) ia ‹fun _ _ => rfl›) Ha ‹za _›) (ma (xa (pe_c ‹C_behind_lot› ‹hr.mono (by decide)› ‹rfl› (aa (pv 2) (aa (pv 3) (aa (pv 5) ja)))))) Ca) (ba (Ea (i := 6) ‹sc.nd› ‹rfl› ‹Or.inl rfl› (pe_c ‹C_side› ‹hr.mono (by decide)› ‹rfl› (aa (pv 2) (aa (pv 3) (aa (Ia (ixK (K := K) ‹rfl›) (pv 4) ia ‹fun _ _ => rfl›) ja))))) (ba (Sa (ya (neK (K := K) ‹rfl› ‹hu›) (pv 6) Ha ‹za _›) (ma (xa (pe_c ‹C_all_lead_to› ‹hr.mono (by decide)› ‹rfl› (aa (pv 5) (aa (pe_c ‹C_seated› ‹hr.mono (by decide)› ‹rfl› (aa (pv 0) (aa (pv 1) (aa (pv 5) (aa (pv 6) ja))))) (aa (pe_c ‹C_round_draws› ‹hr.mono (by decide)› ‹rfl› (aa (pv 0) (aa (pv 2) (aa (pv 4) ja)))) ja)))))) Ca) (ba (Sa (ya (eqK (K := K) ‹rfl› ‹hu›) (Ia (ixK (K := K) ‹rfl›) (pv 4) ia ‹fun _ _ => rfl›) Ha ‹za _›) (ma (xa (pe_c ‹C_behind_lot› ‹hr.mono (by decide)› ‹rfl› (aa (pv 0) (aa (pv 1) (aa (pv 5) ja)))))) Ca) (ba (Sa (ya (eqK (K := K) ‹rfl› ‹hu›) (Ia (ixK (K := K) ‹rfl›) (pv 4) ia ‹fun _ _ => rfl›) Ha ‹za _›) (ma (xa (pe_c ‹C_behind_lot› ‹hr.mono (by decide)› ‹rfl› (aa (pv 2) (aa (pv 3) (aa (pv 5) ja)))))) Ca) (ma (xa (pe_c ‹C_all_lead_to› ‹hr.mono (by decide)› ‹rfl› (aa (pv 5) (aa (pv 3) (aa ia ja)))))))))))), ?_⟩
   rw [show L2.start ["count", "friends", "bench", "on", "step", "seats", "who"] [V.int c, V.int f, V.int b, V.int on, V.ref p] = [some (V.int c), some (V.int f), some (V.int b), some (V.int on), some (V.ref p), none, none] from rfl]
   have fp := ft.pos
   cases r with
   | lot n =>
    have hp' : H p = some (.tup [.str "lot", .int n]) := hp
    have fp' : 1 <= n /\ n <= 60 := fp
    left
    refine va (fun _ => ?_) (fun z => absurd rfl z)
    left
    exact Fj hb ho (by omega) q
   | vote n q' w =>
    have hp' : H p = some (.tup [.str "vote", .int n, .int q', .str (wdS w)]) := hp
    have fp' : 1 <= n /\ n <= 60 := fp
    rw [Wb] at q
    left
    refine va (fun z => absurd z (by decide)) (fun _ => ?_)
    left
    refine Fq ho ?_
    left
    by_cases a1 : q' <= on
    . rw [show Vi b on q' = (if true then "friends" else "foes" : Str) from if_pos a1]
      rw [if_pos a1] at q
      refine Gb (fun _ => ?_) (fun z => absurd z (by decide))
      left
      refine Wg hf ?_
      left
      refine jc (r := .vote n q' w) hp hc hb ?_
      left
      exact zh (show min f n <= n by omega) (by omega) q
    . rw [if_neg a1] at q
      by_cases a2 : q' <= b - on
      . rw [show Vi b on q' = (if false then "friends" else "foes" : Str) from (if_neg a1).trans (if_pos a2)]
        rw [if_pos a2] at q
        refine Gb (fun _ => ?_) (fun z => absurd z (by decide))
        left
        refine Wg hf ?_
        left
        refine jc (r := .vote n q' w) hp hc hb ?_
        left
        exact zh (show n - min (c - f) n <= n by omega) (by omega) q
      . rw [show Vi b on q' = "hung" from (if_neg a1).trans (if_neg a2)]
        rw [if_neg a2] at q
        refine Gb (fun z => absurd rfl z) (fun _ => ?_)
        left
        cases w with
        | council =>
         refine va (fun _ => ?_) (fun z => absurd rfl z)
         left
         exact Fj hc hf (by omega) q
        | bench =>
         refine va (fun z => absurd z (by decide)) (fun _ => ?_)
         left
         refine va (fun _ => ?_) (fun z => absurd rfl z)
         left
         exact Fj hb ho (by omega) q
        | stay =>
         refine va (fun z => absurd z (by decide)) (fun _ => ?_)
         left
         refine va (fun z => absurd z (by decide)) (fun _ => ?_)
         left
         exact zh (v := 1) (by have := ft.2.2.2.2.2.2 rfl; omega) (by omega) q
theorem Jg {C_BallotError C_BadCount C_NotWhole C_BadChance C_BadRound : Addr} (T : Txt K mg C_BallotError C_BadCount C_NotWhole C_BadChance C_BadRound) (U : Up K mg "common_part" Kc ["one", "other"]) : Tc P w K mg base := by
 have sc := Eg
 refine Callee.of (k := 0) U sc (fun vs H Q E h => ?_) (fun f cdv A outer s H vs Q E hr h => ?_)
 . obtain ⟨a, b, rfl, _⟩ := h; rfl
 . obtain ⟨a, b, rfl, ha, hb, q⟩ := h
   have hu := hr.units
   conv in (Ba _) => whnf
   with_reducible refine ⟨_, (ba (Xh PassesOwn.never (truK (K := K) ‹rfl› (pv 1)) (ma (ps_par (i := 0) (j := 1) ‹rfl› ‹sc.nd› ‹rfl› ‹rfl› (by decide) ‹rfl› ‹rfl› (aa (pv 1) (aa (La gh (pv 0) (pv 1)) ja)) ‹rfl›))) (ma (xa (pv 0)))), ?_⟩
   rw [show L2.start ["one", "other"] [V.int a, V.int b] = [some (V.int a), some (V.int b)] from rfl]
   refine r_seq ?_
   refine Xj (fun m σ' H' => ∃ x y : Int, m = y.toNat /\ 0 <= x /\ 0 <= y /\ gI x y = gI a b /\ H' = H /\ σ' = [some (.int x), some (.int y)]) b.toNat ⟨a, b, rfl, ha, hb, rfl, rfl, rfl⟩ ?_
   rintro m σ' H' ⟨x, y, rfl, hx, hy, e, rfl, rfl⟩
   left
   refine Gb (fun h1 => ?_) (fun h1 => ?_)
   . refine ⟨_, fun _ _ z => z, ?_⟩
     left
     have l1 := Int.emod_lt_of_pos x (show 0 < y by omega)
     have l2 := Int.emod_nonneg x (show y ≠ 0 by omega)
     exact ⟨_, by omega, y, x % y, rfl, hy, l2, (gI_rec hx (by omega)).trans e, rfl, rfl⟩
   . left
     subst h1
     rw [Av] at e
     rw [<- e] at q
     have e2 : (x.natAbs : Int) = x := by omega
     rw [e2] at q
     exact q
theorem Xo {C_BallotError C_BadCount C_NotWhole C_BadChance C_BadRound : Addr} (T : Txt K mg C_BallotError C_BadCount C_NotWhole C_BadChance C_BadRound) (U : Up K mg "lowest" Ih ["top", "bottom"]) (C_common_part : Tc P w K mg base) : Af P w K mg base := by
 have sc := Yn
 refine Callee.of (k := 1) U sc (fun vs H Q E h => ?_) (fun f cdv A outer s H vs Q E hr h => ?_)
 . obtain ⟨t, b, rfl, _⟩ := h; rfl
 . obtain ⟨t, b, rfl, hb, ⟨n, hn, hn2⟩, q⟩ := h
   have hu := hr.units
   conv in (Ba _) => whnf
   with_reducible refine ⟨_, (ba (Ea (i := 2) ‹sc.nd› ‹rfl› ‹Or.inl rfl› (pe_c ‹C_common_part› ‹hr.mono (by decide)› ‹rfl› (aa (Ma Tp ‹rfl› ‹T.b_abs› fq (aa (pv 0) ja)) (aa (pv 1) ja)))) (ma (xa (Ua (aa (La xb (pv 0) (pv 2)) (aa (La xb (pv 1) (pv 2)) ja)))))), ?_⟩
   rw [show L2.start ["top", "bottom", "part"] [V.int t, V.int b] = [some (V.int t), some (V.int b), none] from rfl]
   left
   refine bu (by split <;> omega) (by omega) ?_
   rw [gI_abs]
   have g0 := Ll (a := t) hb
   have gd : Jk 0 (gI t b) := .of n g0 (Nat.lt_of_le_of_lt (gI_le hb) hn) hn2
   left
   refine r_rI gd ?_
   left
   refine r_rI gd ?_
   left
   exact q
theorem Xu {C_BallotError C_BadCount C_NotWhole C_BadChance C_BadRound : Addr} (T : Txt K mg C_BallotError C_BadCount C_NotWhole C_BadChance C_BadRound) (U : Up K mg "less" vo ["one", "other"]) : rq P w K mg base := by
 have sc := ju
 refine Callee.of (k := 0) U sc (fun vs H Q E h => ?_) (fun f cdv A outer s H vs Q E hr h => ?_)
 . obtain ⟨a, b, p, q, rfl, _⟩ := h; rfl
 . obtain ⟨a, b, p, q, rfl, h1, h2, ⟨p1, p2⟩, ⟨q1, q2⟩, k⟩ := h
   have hu := hr.units
   conv in (Ba _) => whnf
   with_reducible refine ⟨_, (ma (xa (Xa (ltK (K := K) ‹rfl› ‹hu›) (La wb (Ia (ixK (K := K) ‹rfl›) (pv 0) ia ‹fun _ _ => rfl›) (Ia (ixK (K := K) ‹rfl›) (pv 1) ia ‹fun _ _ => rfl›)) (La wb (Ia (ixK (K := K) ‹rfl›) (pv 1) ia ‹fun _ _ => rfl›) (Ia (ixK (K := K) ‹rfl›) (pv 0) ia ‹fun _ _ => rfl›)) ‹za _›))), ?_⟩
   rw [show L2.start ["one", "other"] [V.ref a, V.ref b] = [some (V.ref a), some (V.ref b)] from rfl]
   left
   refine Dl h1 rfl ?_
   left
   refine Dl h2 rfl ?_
   left
   refine ah (.of 4000 4000 p1 q2) ?_
   left
   refine Dl h2 rfl ?_
   left
   refine Dl h1 rfl ?_
   left
   refine ah (.of 4000 4000 q1 p2) ?_
   left
   exact k
theorem ck {C_BallotError C_BadCount C_NotWhole C_BadChance C_BadRound : Addr} (T : Txt K mg C_BallotError C_BadCount C_NotWhole C_BadChance C_BadRound) (U : Up K mg "roads_on" Le ["count", "friends", "roads_here", "step"]) (C_behind : Df P w K mg base) : Xe P w K mg base := by
 have sc := Nj
 refine Callee.of (k := 3) U sc (fun vs H Q E h => ?_) (fun f cdv A outer s H vs Q E hr h => ?_)
 . obtain ⟨c, f, b, ha, p, h0, r, rfl, _⟩ := h; rfl
 . obtain ⟨c, f, b, ha, p, h0, r, rfl, hh, hp, hl, hf, hc, hb, ft, hsum, q⟩ := h
   have hu := hr.units
   conv in (Ba _) => whnf
   with_reducible refine ⟨_, (ba (Ea (i := 4) ‹sc.nd› ‹rfl› ‹Or.inl rfl› (La Ec (Ma (lenK (K := K) ‹rfl›) ‹rfl› ‹T.b_len› oh (aa (pv 2) ja)) ia)) (ba (Ea (i := 5) ‹sc.nd› ‹rfl› ‹Or.inl rfl› (La wb (vb (aa ia ja)) (La (addK (K := K) ‹rfl›) (Ia (ixK (K := K) ‹rfl›) (pv 3) ia ‹fun _ _ => rfl›) ia))) (ba (Vc PassesOwn.never ‹rfl› (Yh ‹rfl› ‹T.b_enumerate› (aa (pv 2) ja)) (Og (K := K) (n := 2) ‹rfl› ‹rfl› (Va (Qa (i := 6) ‹sc.nd› ‹rfl› ‹Or.inl rfl›) (Va (Qa (i := 7) ‹sc.nd› ‹rfl› ‹Or.inl rfl›) vc))) (ma (Sa (truK (K := K) ‹rfl› (pv 7)) (ma (Vc PassesOwn.never ‹rfl› (Yh ‹rfl› ‹T.b_enumerate› (aa (pe_c ‹C_behind› ‹hr.mono (by decide)› ‹rfl› (aa (pv 0) (aa (pv 1) (aa (pv 4) (aa (pv 6) (aa (pv 3) ja)))))) ja)) (Og (K := K) (n := 2) ‹rfl› ‹rfl› (Va (Qa (i := 8) ‹sc.nd› ‹rfl› ‹Or.inl rfl›) (Va (Qa (i := 9) ‹sc.nd› ‹rfl› ‹Or.inl rfl›) vc))) (ma (Mu (pv 5) (pv 8) (getLK (K := K) ‹rfl›) (La wb (pv 7) (pv 9)) Dt set_list)))) Ca))) (ma (xa (pv 5)))))), ?_⟩
   rw [show L2.start ["count", "friends", "roads_here", "step", "sit", "found", "on", "many", "to", "leading"] [V.int c, V.int f, V.ref ha, V.ref p] = [some (V.int c), some (V.int f), some (V.ref ha), some (V.ref p), none, none, none, none, none, none] from rfl]
   have fp := ft.pos
   obtain ⟨xs, e1, e2⟩ := rn_n r
   left
   refine Co (xs := (zs h0).map V.int) hh ?_
   rw [Ja, hl]
   left
   rw [show ((b + 1 : Nat) : Int) - 1 = (b : Int) by omega]
   intro p0 hp0
   left
   refine Yb (xs := xs) (by rw [Aa (da hp hp0), hp, e1]) e2 ?_
   left
   refine Bo ka (by omega) (by omega) fun f0 hf0 => ?_
   rw [show ((r.n : Int) + 1).toNat = r.n + 1 by omega, Pm]
   have s1 := ((Same.refl H).new (o := .lst [.int 0]) hp0)
   have nf0 := s1.free hf0
   have s2 := s1.new (o := .lst ((zs (List.replicate (r.n + 1) 0)).map V.int)) hf0
   have a2 : (upd (upd H p0 (.lst [.int 0])) f0 (.lst ((zs (List.replicate (r.n + 1) 0)).map V.int))) f0 = some (lstN (mr r.n fun t => rT c f b h0 r 0 t)) := by
    rw [ka]
    show some (lstN _) = some (lstN _)
    congr 2
    apply List.ext_getElem?
    intro i
    by_cases hi : i <= r.n
    . rw [zb _ hi, List.getElem?_replicate, if_pos (by omega)]; rfl
    . rw [cg _ (by omega), List.getElem?_eq_none (by rw [List.length_replicate]; omega)]
   generalize upd (upd H p0 (.lst [.int 0])) f0 (.lst ((zs (List.replicate (r.n + 1) 0)).map V.int)) = H2 at s2 a2 ⊢
   have hbd : ∀ i x, h0[i]? = some x -> x < 2 ^ 60000 := fun i x hx => Nat.lt_of_le_of_lt (jh (List.mem_of_getElem? hx)) hsum
   left
   have nhf : ha ≠ f0 := da hh nf0
   have npf : p ≠ f0 := da hp nf0
   refine forE (a := ha) (xs := (zs h0).map V.int) (fun i σ' H' => ∃ x y z w : Option V, Fr1 f0 H2 H' /\ H' f0 = some (lstN (mr r.n fun t => rT c f b h0 r i t)) /\ σ' = [some (.int c), some (.int f), some (.ref ha), some (.ref p), some (.int b), some (.ref f0), x, y, z, w]) ⟨none, none, none, none, Fr1.refl f0 H2, a2, rfl⟩ (fun i σ' H' _ ⟨_, _, _, _, fr, _⟩ => fr.get (s2 _ _ hh) nhf) ?_ ?_
   . rintro i x σ' H' T hi ⟨x1, y1, z1, w1, fr, hf', rfl⟩ hT
     obtain ⟨m, hm, rfl⟩ := Mb hi
     have hil : i < b + 1 := by
      have := (List.getElem?_eq_some_iff.mp hm).1
      omega
     have eT : ∀ t, rT c f b h0 r (i + 1) t = rT c f b h0 r i t + m * (bh c f b i r).getD t 0 := fun t => by
      show rT c f b h0 r i t + h0.getD i 0 * (bh c f b i r).getD t 0 = _
      rw [getD_some hm]
     have hfT : f0 ≠ T := da hf' hT
     left
     refine Gb (fun hm0 => ?_) (fun hm0 => ?_)
     . left
       have hpT : H' p = some (rnO r) := fr.get (s2 _ _ hp) npf
       refine Yg (r := r) (Oa (da hpT hT) hpT) hf (by omega) hc hb ft fun pb Hb hpb sb hb' => ?_
       have nbf : f0 ≠ pb := by
        intro z
        subst z
        rw [Aa hfT, hf'] at hpb
        cases hpb
       have frb : Fr1 f0 H2 Hb := fun b' o z n => sb _ _ (by rw [Aa (da (fr _ _ z n) hT)]; exact fr _ _ z n)
       have hfb : Hb f0 = some (lstN (mr r.n fun t => rT c f b h0 r i t)) := sb _ _ (by rw [Aa hfT]; exact hf')
       have bl := ug c f b i r
       refine forE (a := pb) (xs := (zs (bh c f b i r)).map V.int) (fun j σ' H' => ∃ z w : Option V, Fr1 f0 Hb H' /\ H' f0 = some (lstN (mr r.n fun t => if t < j then rT c f b h0 r (i + 1) t else rT c f b h0 r i t)) /\ σ' = [some (.int c), some (.int f), some (.ref ha), some (.ref p), some (.int b), some (.ref f0), some (.int i), some (.int m), z, w]) ⟨z1, w1, Fr1.refl f0 Hb, by
        rw [hfb]
        congr 2, rfl⟩ (fun j σ' H' _ ⟨_, _, fr2, _⟩ => fr2.get hb' nbf.symm) ?_ ?_
       . rintro j y σ2 Hj T2 hj ⟨z2, w2, fr2, hfj, rfl⟩ hT2
         obtain ⟨v, hv, rfl⟩ := Mb hj
         have hjl : j <= r.n := by
          have := (List.getElem?_eq_some_iff.mp hv).1
          omega
         have hfT2 : f0 ≠ T2 := da hfj hT2
         have hfj' : upd Hj T2 (.tup [.int (j : Int), .int (v : Int)]) f0 = some (.lst ((zs (mr r.n fun t => if t < j then rT c f b h0 r (i + 1) t else rT c f b h0 r i t)).map V.int)) := by rw [Aa hfT2]; exact hfj
         left
         have hat : atI ((zs (mr r.n fun t => if t < j then rT c f b h0 r (i + 1) t else rT c f b h0 r i t)).map V.int) (j : Int) = some (.int (rT c f b h0 r i j : Nat)) := Be (by rw [zb _ hjl, if_neg (by omega)])
         refine r_ixLL hfj' hat ?_
         left
         have b1 := hbd i m hm
         have b2 := bh_le hf (show i <= b by omega) hc hb ft v (List.mem_of_getElem? hv)
         refine ah (.of 60000 512 (by rw [Int.natAbs_natCast]; exact b1) (by rw [Int.natAbs_natCast]; exact b2)) ?_
         left
         refine Al hfj' (by rw [Ja, ub]; exact qk (by omega)) ?_
         have ev : ((rT c f b h0 r i j : Nat) : Int) + (m : Int) * (v : Int) = ((rT c f b h0 r (i + 1) j : Nat) : Int) := by
          rw [eT, getD_some hv, Int.natCast_add, Int.natCast_mul]
         rw [ev, Om, mr_set hjl]
         refine ⟨some (.int j), some (.int v), (fr2.new hT2).upd, ?_, rfl⟩
         rw [ka]
         show some (lstN _) = some (lstN _)
         congr 2
         refine Lb fun t ht => ?_
         by_cases z : t = j
         . rw [if_pos z, if_pos (by omega), z]
         . rw [if_neg z]
           by_cases z2 : t < j
           . rw [if_pos z2, if_pos (by omega)]
           . rw [if_neg z2, if_neg (by omega)]
       . rintro σ2 Hj ⟨z2, w2, fr2, hfj, rfl⟩
         refine ⟨_, _, z2, w2, fun b' o z n => fr2 _ _ (frb _ _ z n) n, ?_, rfl⟩
         rw [hfj, Ja, bl]
         congr 2
         refine Lb fun t ht => ?_
         rw [if_pos (by omega)]
     . left
       refine ⟨_, _, z1, w1, fr.new hT, ?_, rfl⟩
       rw [Aa hfT, hf']
       congr 2
       refine Lb fun t ht => ?_
       have hm0' : m = 0 := by omega
       rw [eT, hm0', Nat.zero_mul, Nat.add_zero]
   . rintro σ' H' ⟨x1, y1, z1, w1, fr, hf', rfl⟩
     left
     rw [Ja, hl] at hf'
     exact q f0 H' nf0 (fun b' o z => fr _ _ (s2 _ _ z) (da z nf0)) hf'
theorem yr {C_BallotError C_BadCount C_NotWhole C_BadChance C_BadRound : Addr} (T : Txt K mg C_BallotError C_BadCount C_NotWhole C_BadChance C_BadRound) (U : Up K mg "roads" Rj ["count", "friends", "row"]) (C_need_friends : Eb P w K mg base C_BadCount C_BadRound C_NotWhole) (C_roads_on : Xe P w K mg base) : Ye P w K mg base C_BadCount C_BadRound C_NotWhole := by
 have sc := Qq
 refine Ka.of (k := 7) U sc (fun vs H Q E h => ?_) (fun f cdv A outer s H vs Q E hr h => ?_)
 . obtain ⟨c0, f0, a, rfl, _⟩ := h; rfl
 . obtain ⟨c0, f0, a, rfl, h⟩ := h
   have hu := hr.units
   conv in (Ba _) => whnf
   with_reducible refine ⟨_, (ba (Ab (jb ‹C_need_friends› Na ‹hr.mono (by decide)› ‹rfl› (aa (pv 0) (aa (pv 1) (aa (pv 2) ja))))) (ba (Ea (i := 3) ‹sc.nd› ‹rfl› ‹Or.inl rfl› (La wb (vb (aa ia ja)) (La (addK (K := K) ‹rfl›) (pv 0) ia))) (ba (Qd ia (df (pv 3) (pv 1) set_list)) (ba (Ea (i := 4) ‹sc.nd› ‹rfl› ‹Or.inl rfl› (vb ja)) (ba (Vc PassesOwn.leaving ‹rfl› (piLK (K := K) ‹rfl› (pv 2)) (Qa (i := 5) ‹sc.nd› ‹rfl› ‹Or.inl rfl›) (ba (Ea (i := 3) ‹sc.nd› ‹rfl› ‹Or.inl rfl› (pe_c ‹C_roads_on› ‹hr.mono (by decide)› ‹rfl› (aa (pv 0) (aa (pv 1) (aa (pv 3) (aa (pv 5) ja)))))) (ma (Ab (dj ‹PySem.F.plainAttrs_list› ‹PySem.F.slot_list_append› ‹PySem.F.type_list_append› ‹Ub› (pv 4) (aa (pv 3) ja)))))) (ma (xa (pv 4)))))))), ?_⟩
   rw [show L2.start ["count", "friends", "row", "here", "found", "step"] [V.int c0, V.int f0, V.ref a] = [some (V.int c0), some (V.int f0), some (V.ref a), none, none, none] from rfl]
   rcases h with h | h
   . left
     exact Yd h
   . obtain ⟨c, f, a, ps, rs, e, ⟨R, hw, hf⟩, q⟩ := h
     cases e
     have c2 := R.c2
     left
     refine Dc (Ti R hw hf fun H1 s1 => ?_)
     have R1 := R.same s1
     left
     intro p0 hp0
     left
     refine Bo ka (by omega) (by omega) fun h0 hh0 => ?_
     rw [show ((c : Int) + 1).toNat = c + 1 by omega, Pm]
     have t1 := ((Same.refl H1).new (o := .lst [.int 0]) hp0)
     have nh0 := t1.free hh0
     have t2 := t1.new (o := .lst ((zs (List.replicate (c + 1) 0)).map V.int)) hh0
     left
     refine Al (xs := (zs (List.replicate (c + 1) 0)).map V.int) ka (by rw [Ja, List.length_replicate]; exact qk (by omega)) ?_
     rw [show ((zs (List.replicate (c + 1) 0)).map V.int).set f (V.int 1) = (zs (one c f 1)).map V.int from by rw [show (V.int 1) = V.int ((1 : Nat) : Int) from rfl, Om, To hf]]
     have t3 : Same H1 (upd (upd (upd H1 p0 (.lst [.int 0])) h0 (.lst ((zs (List.replicate (c + 1) 0)).map V.int))) h0 (.lst ((zs (one c f 1)).map V.int))) := fun b' o z => by
      rw [Aa (da z nh0)]; exact t2 _ _ z
     have a3 : (upd (upd (upd H1 p0 (.lst [.int 0])) h0 (.lst ((zs (List.replicate (c + 1) 0)).map V.int))) h0 (.lst ((zs (one c f 1)).map V.int))) h0 = some (lstN (one c f 1)) := ka
     generalize (upd (upd (upd H1 p0 (.lst [.int 0])) h0 (.lst ((zs (List.replicate (c + 1) 0)).map V.int))) h0 (.lst ((zs (one c f 1)).map V.int))) = H3 at t3 a3 ⊢
     have S3 := s1.tr t3
     have R3 := R.same S3
     left
     intro fa hfa
     left
     have nfa := S3.free hfa
     have haf : a ≠ fa := da R3.rw.ls hfa
     have ln := R.ln
     refine forL (a := a) (xs := ps.map V.ref) (fun i σ' H' => ∃ (x : Option V) (hc : Addr) (qs : List Addr), (∀ b' o, H b' = some o -> H' b' = some o) /\ H' hc = some (lstN (rdl c f c (one c f 1) (rs.take i))) /\ hc ≠ fa /\ TsAt lstN H' fa qs (rds c f c (one c f 1) (rs.take i)) /\ (∀ p ∈ qs, H p = none /\ p ≠ fa) /\ σ' = [some (.int c), some (.int f), some (.ref a), some (.ref hc), some (.ref fa), x])
      ⟨none, h0, [], fun b' o z => by rw [Aa (da z nfa)]; exact S3 _ _ z, by rw [Aa (da a3 hfa)]; exact a3, da a3 hfa, ⟨ka, fun i p z => by simp at z, rfl⟩, fun p z => by simp at z, rfl⟩
      (fun i σ' H' _ ⟨_, _, _, S, _⟩ => SqL.of (S _ _ R.rw.ls)) ?_ ?_
     . rintro i x σ' H' hi ⟨x1, hc, qs, S, hhc, hne, F, hq, rfl⟩
       obtain ⟨p, r, rfl, _, hr', ho⟩ := R.rw.get hi
       have hil : i < rs.length := (List.getElem?_eq_some_iff.mp hr').1
       have ft := R.ft.at hr'
       have lb := Nd (R.ft.take i) R.c1 (Nat.le_refl _)
       have ql := F.ln
       have rl := Me c f (rs.take i) c (one c f 1)
       rw [List.length_take] at rl
       left
       refine Ej hhc (S _ _ ho) (Oe c f (rs.take i) (Tb _ _ _)) hf (by omega) (by omega) ft (uu hf (R.ft.take i) (by omega) (by rw [List.length_take]; omega)) fun pn Hn hpn sn hn => ?_
       have F2 := F.same sn
       have npf : pn ≠ fa := by
        intro z
        subst z
        rw [F.ls] at hpn
        cases hpn
       left
       refine um (xs := qs.map V.ref) F2.ls ?_
       left
       refine Zb (xs := qs.map V.ref) F2.ls (by rw [List.length_map, sizeLine_eq]; omega) ?_
       have en := BR.rb hr'
       refine ⟨some (.ref p), pn, qs ++ [pn], fun b' o z => ?_, ?_, npf, ?_, fun p' hp' => ?_, rfl⟩
       . rw [Aa (da z nfa)]
         exact sn _ _ (S _ _ z)
       . rw [Aa npf, en, Th]
         exact hn
       . rw [en, Sh]
         exact F2.pushL (fun p' hp' => (hq p' hp').2) npf hn
       . rcases List.mem_append.mp hp' with hp' | hp'
         . exact hq p' hp'
         . have : p' = pn := by simpa using hp'
           subst this
           exact ⟨(show Same H H' from S).free hpn, npf⟩
     . rintro σ' H' ⟨x1, hc, qs, S, hhc, hne, F, hq, rfl⟩
       left
       rw [List.length_map, R.rw.ln, List.take_length] at F
       exact q fa H' qs nfa S F hq
theorem Xf {C_BallotError C_BadCount C_NotWhole C_BadChance C_BadRound : Addr} (T : Txt K mg C_BallotError C_BadCount C_NotWhole C_BadChance C_BadRound) (U : Up K mg "worths_ahead" kc ["count", "friends", "sit", "step", "later"]) (C_behind : Df P w K mg base) : zc P w K mg base := by
 have sc := Lf
 refine Callee.of (k := 3) U sc (fun vs H Q E h => ?_) (fun f cdv A outer s H vs Q E hr h => ?_)
 . obtain ⟨c, f, b, p, la, r, w, rfl, _⟩ := h; rfl
 . obtain ⟨c, f, b, p, la, r, w, rfl, hp, hla, hl, hf, hc, hb, ft, hw, q⟩ := h
   have hu := hr.units
   have fp := ft.pos
   conv in (Ba _) => whnf
   with_reducible refine ⟨_, (ba (Ea (i := 5) ‹sc.nd› ‹rfl› ‹Or.inl rfl› (vb ja)) (ba (Vc PassesOwn.never ‹rfl› (pd ‹rfl› ‹T.b_range› (aa (La (addK (K := K) ‹rfl›) (pv 2) ia) ja)) (Qa (i := 6) ‹sc.nd› ‹rfl› ‹Or.inl rfl›) (ba (Ea (i := 7) ‹sc.nd› ‹rfl› ‹Or.inl rfl› (pe_c ‹C_behind› ‹hr.mono (by decide)› ‹rfl› (aa (pv 0) (aa (pv 1) (aa (pv 2) (aa (pv 6) (aa (pv 3) ja))))))) (ma (Ab (dj ‹PySem.F.plainAttrs_list› ‹PySem.F.slot_list_append› ‹PySem.F.type_list_append› ‹Ub› (pv 5) (aa (Ma (sumK (K := K) ‹rfl› ‹rfl›) ‹rfl› ‹T.b_sum› bt_sum (aa (Pu [] ["many", "worth"] [] (by with_unfolding_all rfl) ‹rfl› ‹rfl› (El ‹rfl› ‹T.b_zip› (aa (pv 7) (aa (pv 4) ja))) (by decide) ‹rfl› (by decide) ‹trivial› (by with_unfolding_all rfl) (fun _ => ‹trivial›) (fun _ _ _ _ => (Og (K := K) (n := 2) ‹rfl› ‹rfl› (Va (Qa (i := 0) ‹show List.Nodup (["many", "worth"] : List Str) from by decide +kernel› ‹rfl› ‹Or.inl rfl› ‹.inr rfl›) (Va (Qa (i := 1) ‹show List.Nodup (["many", "worth"] : List Str) from by decide +kernel› ‹rfl› ‹Or.inl rfl› ‹.inr rfl›) vc)))) (fun _ _ _ _ => Wh) (fun _ _ _ _ => (La wb (pv 0) (pv 1)))) ja)) ja)))))) (ma (xa (pv 5))))), ?_⟩
   rw [show L2.start ["count", "friends", "sit", "step", "later", "found", "on", "leading"] [V.int c, V.int f, V.int b, V.ref p, V.ref la] = [some (V.int c), some (V.int f), some (V.int b), some (V.ref p), some (V.ref la), none, none, none] from rfl]
   left
   intro f0 hf0
   left
   refine forR (fun i σ' H' => ∃ x y : Option V, Fr1 f0 H H' /\ H' f0 = some (lstN ((wah c f b r w).take i)) /\ σ' = [some (.int c), some (.int f), some (.int b), some (.ref p), some (.ref la), some (.ref f0), x, y]) (by omega) (by omega) ⟨none, none, (Fr1.refl f0 H).upd, ka, rfl⟩ ?_ ?_
   . rintro i σ' H' hi ⟨x, y, fr, hf', rfl⟩
     have npf : p ≠ f0 := da hp hf0
     have nlf : la ≠ f0 := da hla hf0
     left
     refine Yg (fr.get hp npf) hf (by omega) hc hb ft fun pb Hb hpb sb hb' => ?_
     have hfb := sb _ _ hf'
     have hlb := sb _ _ (fr.get hla nlf)
     have bl := ug c f b i r
     left
     refine um (xs := (zs ((wah c f b r w).take i)).map V.int) hfb ?_
     left
     refine Xr (a1 := pb) (a2 := la) (xs := (zs (bh c f b i r)).map V.int) (ws := (zs w).map V.int) [] (fun j ys Hj => Same Hb Hj /\ ys = (zs ((mr r.n fun t => (bh c f b i r).getD t 0 * w.getD t 0).take j)).map V.int) rfl (by rw [Ja, sizeLine_eq]; omega) ⟨Same.refl Hb, rfl⟩
      (fun j ys Hj _ _ ⟨s, _⟩ => ⟨s _ _ hb', s _ _ hlb⟩) (fun j ys Hj ⟨_, e⟩ => by rw [e, Ja, List.length_take]; omega) ?_ ?_
     . rintro j x' w' ys z1 z2 Hj T hj1 hj2 ⟨s, rfl⟩ hT
       obtain ⟨v1, hv1, rfl⟩ := Mb hj1
       obtain ⟨v2, hv2, rfl⟩ := Mb hj2
       have hjl : j <= r.n := by
        have := (List.getElem?_eq_some_iff.mp hv1).1
        omega
       have b1 := bh_le hf (show i <= b by omega) hc hb ft v1 (List.mem_of_getElem? hv1)
       have b2 := hw v2 (List.mem_of_getElem? hv2)
       left
       refine ah (.of 512 60000 (by rw [Int.natAbs_natCast]; exact b1) (by rw [Int.natAbs_natCast]; exact b2)) ?_
       refine ⟨⟨s.new hT, ?_⟩, _, _, rfl⟩
       have hl2 : (mr r.n fun t => (bh c f b i r).getD t 0 * w.getD t 0)[j]? = some (v1 * v2) := by rw [zb _ hjl, getD_some hv1, getD_some hv2]
       rw [BR.rb hl2, <- lst_snoc, Int.natCast_mul]
     . rintro ys Hj ⟨s, rfl⟩ D hD
       have e : min ((zs (bh c f b i r)).map V.int).length ((zs w).map V.int).length = (mr r.n fun t => (bh c f b i r).getD t 0 * w.getD t 0).length := by
        rw [Ja, Ja, ub, bl, hl]; omega
       rw [e, List.take_length]
       left
       refine r_sum (ns := zs (mr r.n fun t => (bh c f b i r).getD t 0 * w.getD t 0)) ka ?_
       rw [Ds, jj]
       have hfD : f0 ≠ D := da (s _ _ hfb) hD
       left
       refine Zb (xs := (zs ((wah c f b r w).take i)).map V.int) (Oa hfD (s _ _ hfb)) (by rw [Ja, sizeLine_eq, List.length_take]; omega) ?_
       refine ⟨_, _, fun b' o z n => ?_, ?_, rfl⟩
       . rw [Aa n, Aa (da (s _ _ (sb _ _ (fr _ _ z n))) hD)]
         exact s _ _ (sb _ _ (fr _ _ z n))
       . have hl3 : (wah c f b r w)[i]? = some (dot r.n (bh c f b i r) w) := zb (fun on => dot r.n (bh c f b on r) w) (by omega)
         rw [ka, lst_snoc, BR.rb hl3]
         rfl
   . rintro σ' H' ⟨x, y, fr, hf', rfl⟩
     left
     rw [show ((b : Int) + 1).toNat = (wah c f b r w).length by unfold wah; rw [ub]; omega, List.take_length] at hf'
     exact q f0 H' hf0 (fun b' o z => fr b' o z (da z hf0)) hf'
theorem Vo {C_BallotError C_BadCount C_NotWhole C_BadChance C_BadRound : Addr} (T : Txt K mg C_BallotError C_BadCount C_NotWhole C_BadChance C_BadRound) (U : Up K mg "worths" Gh ["count", "friends", "row"]) (C_sizes_ahead : yb P w K mg base C_BadCount C_BadRound) (C_need_friends : Eb P w K mg base C_BadCount C_BadRound C_NotWhole) (C_worths_ahead : zc P w K mg base) : yf P w K mg base C_BadCount C_BadRound C_NotWhole := by
 have sc := Wn
 refine Ka.of (k := 7) U sc (fun vs H Q E h => ?_) (fun f cdv A outer s H vs Q E hr h => ?_)
 . obtain ⟨c0, f0, a, rfl, _⟩ := h; rfl
 . obtain ⟨c0, f0, a, rfl, h⟩ := h
   have hu := hr.units
   conv in (Ba _) => whnf
   with_reducible refine ⟨_, (ba (Ab (jb ‹C_need_friends› Na ‹hr.mono (by decide)› ‹rfl› (aa (pv 0) (aa (pv 1) (aa (pv 2) ja))))) (ba (Sa (dh (truK (K := K) ‹rfl› (pv 2))) (ma (xa (vb ja))) Ca) (ba (Ea (i := 3) ‹sc.nd› ‹rfl› ‹Or.inl rfl› (jb ‹C_sizes_ahead› Na ‹hr.mono (by decide)› ‹rfl› (aa (pv 0) (aa (pv 2) ja)))) (ba (Ea (i := 4) ‹sc.nd› ‹rfl› ‹Or.inl rfl› (vb (aa ‹(vb (aa ia (aa ia ja)))› ja))) (ba (Vc PassesOwn.leaving ‹rfl› (Mo ‹rfl› ‹T.b_range› (aa (La Ec (Ma (lenK (K := K) ‹rfl›) ‹rfl› ‹T.b_len› oh (aa (pv 2) ja)) ia) (aa ia (aa (Qe Bc ia) ja)))) (Qa (i := 5) ‹sc.nd› ‹rfl› ‹Or.inl rfl›) (ma (Ab (dj ‹PySem.F.plainAttrs_list› ‹PySem.F.slot_list_append› ‹PySem.F.type_list_append› ‹Ub› (pv 4) (aa (pe_c ‹C_worths_ahead› ‹hr.mono (by decide)› ‹rfl› (aa (pv 0) (aa (pv 1) (aa (Ia (ixK (K := K) ‹rfl›) (pv 3) (pv 5) ‹fun _ _ => rfl›) (aa (Ia (ixK (K := K) ‹rfl›) (pv 2) (pv 5) ‹fun _ _ => rfl›) (aa (Ia (ixK (K := K) ‹rfl›) (pv 4) (Qe Bc ia) ‹fun _ _ => rfl›) ja)))))) ja))))) (ma (xa (Zh (K := K) ‹rfl› (pv 4) (Qe Bc ia))))))))), ?_⟩
   rw [show L2.start ["count", "friends", "row", "sat", "found", "at"] [V.int c0, V.int f0, V.ref a] = [some (V.int c0), some (V.int f0), some (V.ref a), none, none, none] from rfl]
   rcases h with h | h
   . left
     exact Yd h
   . obtain ⟨c, f, a, ps, rs, e, ⟨R, hw, hf⟩, q⟩ := h
     cases e
     have c2 := R.c2
     have ln := R.ln
     have rl := R.rw.ln
     left
     refine Dc (Ti R hw hf fun H1 s1 => ?_)
     have R1 := R.same s1
     left
     refine jt (xs := ps.map V.ref) R1.rw.ls ?_
     by_cases z : rs = []
     . subst z
       have e : ps = [] := List.eq_nil_of_length_eq_zero rl
       subst e
       rw [show (!(List.map V.ref ([] : List Addr)).isEmpty) = false from rfl]
       left
       intro p hp
       exact q p _ [] (s1.free hp) (s1.new hp) ⟨ka, fun i p' z => by simp at z, rfl⟩ (fun p' z => by simp at z)
     . have hpos : 0 < rs.length := List.length_pos_iff.mpr z
       have e0 : (!(List.map V.ref ps).isEmpty) = true := by
        cases ps with
        | nil => simp at rl; omega
        | cons _ _ => rfl
       rw [e0]
       left
       refine Zg R1 fun sp H2 hsp s2 hsp2 => ?_
       have R2 := R1.same s2
       left
       intro l0 hl0
       left
       have s3 := (Same.refl H2).new (o := .lst [.int 0, .int 1]) hl0
       have a3 : upd H2 l0 (.lst [.int 0, .int 1]) l0 = some (lstN [0, 1]) := ka
       generalize upd H2 l0 (.lst [.int 0, .int 1]) = H3 at s3 a3 ⊢
       have S3 := (s1.tr s2).tr s3
       intro fa hfa
       left
       have nfa := S3.free hfa
       have nl0 : H l0 = none := (s1.tr s2).free hl0
       have hs3 := s3 _ _ hsp2
       have nsf : sp ≠ fa := da hs3 hfa
       have nlf : l0 ≠ fa := da a3 hfa
       have naf : a ≠ fa := da (S3 _ _ R.rw.ls) hfa
       refine Co (xs := ps.map V.ref) (Oa naf (S3 _ _ R.rw.ls)) ?_
       rw [List.length_map, rl]
       left
       have wl := qh c f rs
       have elast : (wths c f rs)[rs.length - 1]? = some [0, 1] := by
        rw [je (b := c) (by omega), show rs.length - 1 + 1 = rs.length by omega, List.drop_length]; rfl
       refine forD (fun j σ' H' => ∃ (x : Option V) (qs : List Addr), (∀ b' o, H b' = some o -> H' b' = some o) /\ H' sp = some (lstN (c :: szs rs)) /\ TsAt lstN H' fa qs ((wths c f rs).drop (rs.length - 1 - j)).reverse /\ (∀ p ∈ qs, H p = none /\ p ≠ fa) /\ σ' = [some (.int c), some (.int f), some (.ref a), some (.ref sp), some (.ref fa), x]) (by omega) (by omega) (by omega) (by omega)
        ⟨none, [l0], fun b' o z => by rw [Aa (da z nfa)]; exact S3 _ _ z, Oa nsf hs3, ?_, fun p hp => ?_, rfl⟩ ?_ ?_
       . rw [Nat.sub_zero, we elast, show rs.length - 1 + 1 = (wths c f rs).length by omega, List.drop_length]
         refine ⟨ka, fun i p hp => ?_, rfl⟩
         match i, hp with
         | 0, hp =>
          have : l0 = p := by simpa using hp
          subst this
          exact ⟨[0, 1], rfl, Oa nlf a3⟩
         | i + 1, hp => simp at hp
       . have : p = l0 := by simpa using hp
         subst this
         exact ⟨nl0, nlf⟩
       . rintro j σ' H' hj ⟨x, qs, S, hsp', F, hq, rfl⟩
         obtain ⟨at', hat', hat1⟩ : ∃ at' : Nat, (rs.length : Int) - 1 - (j : Int) = (at' : Int) /\ at' = rs.length - 1 - j := ⟨rs.length - 1 - j, by omega, rfl⟩
         have hpos' : 0 < at' := by omega
         have hlt : at' < rs.length := by omega
         rw [hat']
         rw [<- hat1] at F
         obtain ⟨p, r, hix, hr', ho⟩ := R.rw.ix hlt
         have ft := R.ft.at hr'
         have lb := Nd (R.ft.take at') R.c1 (Nat.le_refl _)
         have hs0 : atI ((zs (c :: szs rs)).map V.int) (at' : Int) = some (.int (Pa c (rs.take at') : Nat)) := Be (vg (by omega))
         have en := BR.rb hr'
         have eg := je (c := c) (f := f) (rs := rs) (b := c) (i := at') hlt
         rw [en, Md] at eg
         have eg2 := je (c := c) (f := f) (rs := rs) (b := c) (i := at' - 1) (by omega)
         rw [show at' - 1 + 1 = at' by omega] at eg2
         have edrop : rs.drop at' = r :: rs.drop (at' + 1) := by
          rw [List.drop_eq_getElem_cons hlt]
          congr 1
          exact (List.getElem?_eq_some_iff.mp hr').2
         rw [edrop] at eg2
         have ql := F.ln
         obtain ⟨qs', pl, rfl⟩ : ∃ qs' pl, qs = qs' ++ [pl] := by
          have : qs ≠ [] := by
           rintro rfl
           rw [List.length_reverse, List.length_drop, wl] at ql
           simp at ql
           omega
          exact Jf this
         have hpl : H' pl = some (lstN (wB c f r.n (rs.drop (at' + 1)))) := by
          rw [we eg] at F ql
          obtain ⟨l', hl', hh⟩ := F.it qs'.length pl (by simp)
          have e1 : qs'.length = ((wths c f rs).drop (at' + 1)).reverse.length := by
           rw [List.length_append, List.length_append] at ql
           simpa using ql
          rw [e1, List.getElem?_append_right (Nat.le_refl _), Nat.sub_self] at hl'
          have : wB c f r.n (rs.drop (at' + 1)) = l' := by simpa using hl'
          rw [this]; exact hh
         have hfits : FitR c r.n (rs.drop (at' + 1)) := by
          have hh := R.ft
          rw [<- List.take_append_drop (at' + 1) rs, FitR.app, en, Md] at hh
          exact hh.2
         have hw2 : Pa r.n (rs.drop (at' + 1)) = 1 := by
          have hh := hw
          rw [<- List.take_append_drop (at' + 1) rs, bc, en, Md] at hh
          exact hh
         have rn := ft.pos
         have wbd : ∀ x ∈ wB c f r.n (rs.drop (at' + 1)), x < 2 ^ 60000 := fun x hx => by
          have h1 := wB_bd hf hfits x hx
          have h2 := Jd (b := 512) (drs c r.n (rs.drop (at' + 1))) (sj hfits (ft.le lb.2) (by omega))
          rw [wc, List.length_drop] at h2
          exact Nat.lt_of_lt_of_le (Nat.lt_of_le_of_lt h1 h2) (Nat.pow_le_pow_right (by decide) (by omega))
         left
         refine um (xs := (qs' ++ [pl]).map V.ref) F.ls ?_
         left
         refine Fb (xs := (zs (c :: szs rs)).map V.int) hsp' hs0 ?_
         left
         refine Fb (S _ _ R.rw.ls) hix ?_
         left
         refine Fb (xs := (qs' ++ [pl]).map V.ref) (v := .ref pl) F.ls (by rw [List.map_append]; exact Ce _ _) ?_
         left
         refine Yt (S _ _ ho) hpl (Fs hw2) hf (by omega) (by omega) ft wbd fun pn Hn hpn sn hn => ?_
         have F2 := F.same sn
         have npf : pn ≠ fa := by
          intro z
          subst z
          rw [F.ls] at hpn
          cases hpn
         left
         refine Zb (xs := (qs' ++ [pl]).map V.ref) F2.ls (by rw [List.length_map, sizeLine_eq]; rw [List.length_reverse, List.length_drop, wl] at ql; omega) ?_
         refine ⟨some (.int at'), qs' ++ [pl] ++ [pn], fun b' o z => ?_, ?_, ?_, fun p' hp' => ?_, rfl⟩
         . rw [Aa (da z nfa)]
           exact sn _ _ (S _ _ z)
         . rw [Aa nsf]
           exact sn _ _ hsp'
         . rw [show rs.length - 1 - (j + 1) = at' - 1 by omega, we eg2, show at' - 1 + 1 = at' by omega]
           exact F2.pushL (fun p' hp' => (hq p' hp').2) npf hn
         . rcases List.mem_append.mp hp' with hp' | hp'
           . exact hq p' hp'
           . have : p' = pn := by simpa using hp'
             subst this
             exact ⟨(show Same H H' from S).free hpn, npf⟩
       . rintro σ' H' ⟨x, qs, S, hsp', F, hq, rfl⟩
         rw [show rs.length - 1 - ((rs.length : Int) - 1 - 0).toNat = 0 by omega, List.drop_zero] at F
         left
         refine Bl (xs := qs.map V.ref) F.ls fun p hp => ?_
         rw [<- List.map_reverse]
         have F3 := F.rev hp
         rw [List.reverse_reverse] at F3
         have hne : ∀ p' ∈ qs, p' ≠ p := fun p' hp' => by
          obtain ⟨i, hi⟩ := List.getElem?_of_mem hp'
          obtain ⟨_, _, h2⟩ := F.it i p' hi
          exact da h2 hp
         exact q p _ qs.reverse ((show Same H H' from S).free hp) ((show Same H H' from S).new hp) F3 fun p' hp' => ⟨(hq p' (List.mem_reverse.mp hp')).1, hne p' (List.mem_reverse.mp hp')⟩
theorem mf {C_BallotError C_BadCount C_NotWhole C_BadChance C_BadRound : Addr} (T : Txt K mg C_BallotError C_BadCount C_NotWhole C_BadChance C_BadRound) (U : Up K mg "friendly_many" Rb ["count", "friends", "row"]) (C_roads : Ye P w K mg base C_BadCount C_BadRound C_NotWhole) : Za P w K mg base C_BadCount C_BadRound C_NotWhole := by
 have sc := kf
 refine Ka.of (k := 8) U sc (fun vs H Q E h => ?_) (fun f cdv A outer s H vs Q E hr h => ?_)
 . obtain ⟨c0, f0, a, rfl, _⟩ := h; rfl
 . obtain ⟨c0, f0, a, rfl, h⟩ := h
   have hu := hr.units
   conv in (Ba _) => whnf
   with_reducible refine ⟨_, (ba (Ea (i := 3) ‹sc.nd› ‹rfl› ‹Or.inl rfl› (jb ‹C_roads› Na ‹hr.mono (by decide)› ‹rfl› (aa (pv 0) (aa (pv 1) (aa (pv 2) ja))))) (ba (Sa (dh (truK (K := K) ‹rfl› (pv 3))) (ma (xa (pv 1))) Ca) (ma (xa (Ia (ixK (K := K) ‹rfl›) (Ia (ixK (K := K) ‹rfl›) (pv 3) (Qe Bc ia) ‹fun _ _ => rfl›) ia ‹fun _ _ => rfl›))))), ?_⟩
   rw [show L2.start ["count", "friends", "row", "found"] [V.int c0, V.int f0, V.ref a] = [some (V.int c0), some (V.int f0), some (V.ref a), none] from rfl]
   rcases h with h | h
   . left
     exact Yd h
   . obtain ⟨c, f, a, ps, rs, e, R, q⟩ := h
     cases e
     left
     refine Dc (me R fun ra H1 qs hra s1 F hq => ?_)
     left
     refine jt (xs := qs.map V.ref) F.ls ?_
     have ql := F.ln
     have rl := Me c f rs c (one c f 1)
     unfold road at ql F
     by_cases z : rs = []
     . subst z
       have e : qs = [] := by
        rw [show rds c f c (one c f 1) [] = [] from rfl] at ql
        exact List.eq_nil_of_length_eq_zero ql
       subst e
       rw [show (!(List.map V.ref ([] : List Addr)).isEmpty) = false from rfl]
       left
       have hw : c = 1 := R.wh
       have hf := R.fr
       subst hw
       have ef : frM 1 f [] = f := by
        have : f = 0 \/ f = 1 := by omega
        rcases this with rfl | rfl <;> rfl
       rw [ef] at q
       exact q _ s1
     . obtain ⟨rs', r, rfl⟩ : ∃ rs' r, rs = rs' ++ [r] := Jf z
       rw [Sh] at F ql
       obtain ⟨qs', p, rfl⟩ : ∃ qs' p, qs = qs' ++ [p] := by
        have : qs ≠ [] := by
         rintro rfl
         rw [List.length_append] at ql
         simp at ql
        exact Jf this
       have e0 : (!(List.map V.ref (qs' ++ [p])).isEmpty) = true := by simp
       rw [e0]
       left
       refine Fb (xs := (qs' ++ [p]).map V.ref) (v := .ref p) F.ls (by rw [List.map_append]; exact Ce _ _) ?_
       left
       have hl' : qs'.length = (rds c f c (one c f 1) rs').length := by
        rw [List.length_append, List.length_append] at ql
        simp at ql
        exact ql
       obtain ⟨l, hl, hp⟩ := F.it qs'.length p (by simp)
       rw [hl', List.getElem?_append_right (Nat.le_refl _), Nat.sub_self] at hl
       have el : ron c f (Pa c rs') (rdl c f c (one c f 1) rs') r = l := by simpa using hl
       have hw := R.wh
       rw [Md] at hw
       have e1 : l[1]? = some (frM c f (rs' ++ [r])) := by
        unfold frM
        rw [Th, <- el]
        unfold ron
        rw [hw, zb _ (by decide), List.getD_eq_getElem?_getD, zb _ (by decide)]; rfl
       refine Fb (xs := (zs l).map V.int) hp (Be (i := 1) e1) ?_
       exact q _ s1
theorem qp {C_BallotError C_BadCount C_NotWhole C_BadChance C_BadRound : Addr} (T : Txt K mg C_BallotError C_BadCount C_NotWhole C_BadChance C_BadRound) (U : Up K mg "chance" Ph ["count", "friends", "row"]) (C_draws : Ag P w K mg base C_BadCount C_BadRound) (C_lowest : Af P w K mg base) (C_friendly_many : Za P w K mg base C_BadCount C_BadRound C_NotWhole) : De P w K mg base C_BadCount C_BadRound C_NotWhole := by
 have sc := ko
 refine Ka.of (k := 9) U sc (fun vs H Q E h => ?_) (fun f cdv A outer s H vs Q E hr h => ?_)
 . obtain ⟨c0, f0, a, rfl, _⟩ := h; rfl
 . obtain ⟨c0, f0, a, rfl, h⟩ := h
   have hu := hr.units
   conv in (Ba _) => whnf
   with_reducible refine ⟨_, (ma (xa (pe_c ‹C_lowest› ‹hr.mono (by decide)› ‹rfl› (aa (jb ‹C_friendly_many› Na ‹hr.mono (by decide)› ‹rfl› (aa (pv 0) (aa (pv 1) (aa (pv 2) ja)))) (aa (jb ‹C_draws› Na ‹hr.mono (by decide)› ‹rfl› (aa (pv 0) (aa (pv 2) ja))) ja))))), ?_⟩
   rw [show L2.start ["count", "friends", "row"] [V.int c0, V.int f0, V.ref a] = [some (V.int c0), some (V.int f0), some (V.ref a)] from rfl]
   rcases h with h | h
   . left
     exact Yd h
   . obtain ⟨c, f, a, ps, rs, e, R, hl, q⟩ := h
     cases e
     left
     refine Dc (Ie R fun H1 s1 => ?_)
     left
     refine vm (Hf (R.cr.same s1) fun H2 s2 => ?_)
     left
     have ap := Od R.cr.ft
     refine En 9000 (by omega) (by rw [Int.natAbs_natCast]; exact hl) (by decide) fun p hp => ?_
     exact q p _ ((s1.tr s2).free hp) ((s1.tr s2).new hp) ka
theorem Vu {C_BallotError C_BadCount C_NotWhole C_BadChance C_BadRound : Addr} (T : Txt K mg C_BallotError C_BadCount C_NotWhole C_BadChance C_BadRound) (U : Up K mg "span" so ["roads_here"]) : oq P w K mg base := by
 have sc := gu
 refine Callee.of (k := 0) U sc (fun vs H Q E h => ?_) (fun f cdv A outer s H vs Q E hr h => ?_)
 . obtain ⟨a, l, rfl, _⟩ := h; rfl
 . obtain ⟨a, l, rfl, ha, hs, hl, q⟩ := h
   have hu := hr.units
   conv in (Ba _) => whnf
   with_reducible refine ⟨_, (ba (ps_lcU [] ["on", "many"] [] (Qa (i := 1) ‹sc.nd› ‹rfl› ‹Or.inl rfl›) (by with_unfolding_all rfl) ‹rfl› ‹rfl› (Yh ‹rfl› ‹T.b_enumerate› (aa (pv 0) ja)) (by decide) ‹rfl› (by decide) ‹trivial› (by with_unfolding_all rfl) (fun _ => ‹trivial›) (fun _ _ _ _ => (Og (K := K) (n := 2) ‹rfl› ‹rfl› (Va (Qa (i := 0) ‹show List.Nodup (["on", "many"] : List Str) from by decide +kernel› ‹rfl› ‹Or.inl rfl› ‹.inr rfl›) (Va (Qa (i := 1) ‹show List.Nodup (["on", "many"] : List Str) from by decide +kernel› ‹rfl› ‹Or.inl rfl› ‹.inr rfl›) vc)))) (fun _ _ _ _ => (Fo (truK (K := K) ‹rfl› (pv 1)))) (fun _ _ _ _ => (pv 0))) (ma (xa (Ua (aa (Ia (ixK (K := K) ‹rfl›) (pv 1) ia ‹fun _ _ => rfl›) (aa (Ia (ixK (K := K) ‹rfl›) (pv 1) (Qe Bc ia) ‹fun _ _ => rfl›) ja)))))), ?_⟩
   rw [show L2.start ["roads_here", "led_to"] [V.ref a] = [some (V.ref a), none] from rfl]
   left
   refine compE (a := a) (xs := (zs l).map V.int) [] (fun i ys H' => Same H H' /\ ys = (zs (nzT l i)).map V.int) rfl (by rw [Ja, sizeLine_eq]; omega) ⟨Same.refl H, rfl⟩ (fun i ys H' _ ⟨s, _⟩ => s _ _ ha) (fun i ys H' ⟨_, e⟩ => by rw [e, Ja]; exact dv l i) ?_ ?_
   . rintro i x ys z1 z2 H' T hi ⟨s, rfl⟩ hT
     obtain ⟨m, hm, rfl⟩ := Mb hi
     have hg := getD_some hm
     left
     refine Gb (fun z => ?_) (fun z => ?_)
     . left
       refine ⟨⟨s.new hT, ?_⟩, _, _, rfl⟩
       rw [Jl, if_neg (by omega), <- lst_snoc]
     . refine ⟨⟨s.new hT, ?_⟩, _, _, rfl⟩
       rw [Jl, if_pos (by omega)]
   . rintro ys H' ⟨s, rfl⟩ D hD
     rw [Ja]
     have hne := nzT_ne hs
     obtain ⟨x, r, e1⟩ : ∃ x r, nzT l l.length = x :: r := by
      cases w : nzT l l.length with
      | nil => exact absurd w hne
      | cons x r => exact ⟨x, r, rfl⟩
     obtain ⟨r', y, e2⟩ := Jf hne
     left
     refine Fb (xs := (zs (nzT l l.length)).map V.int) ka (v := .int (x : Nat)) (Be (i := 0) (by rw [e1]; rfl)) ?_
     left
     refine Fb (xs := (zs (nzT l l.length)).map V.int) ka (v := .int (y : Nat)) (by rw [e2, <- lst_snoc]; exact Ce _ _) ?_
     left
     intro p hp
     have s2 := s.new (o := .lst ((zs (nzT l l.length)).map V.int)) hD
     refine q p _ (s2.free hp) (s2.new hp) ?_
     rw [ka]
     have ex : (nzT l l.length).headD 0 = x := by rw [e1]; rfl
     have ey : (nzT l l.length).getLastD 0 = y := by rw [e2]; simp
     unfold Dj tupF
     rw [ex, ey]
theorem ur {C_BallotError C_BadCount C_NotWhole C_BadChance C_BadRound : Addr} (T : Txt K mg C_BallotError C_BadCount C_NotWhole C_BadChance C_BadRound) (U : Up K mg "spans" Pj ["count", "friends", "row"]) (C_roads : Ye P w K mg base C_BadCount C_BadRound C_NotWhole) (C_span : oq P w K mg base) : Lk P w K mg base C_BadCount C_BadRound C_NotWhole := by
 have sc := Oq
 refine Ka.of (k := 8) U sc (fun vs H Q E h => ?_) (fun f cdv A outer s H vs Q E hr h => ?_)
 . obtain ⟨c0, f0, a, rfl, _⟩ := h; rfl
 . obtain ⟨c0, f0, a, rfl, h⟩ := h
   have hu := hr.units
   conv in (Ba _) => whnf
   with_reducible refine ⟨_, (ma (xa (zt [] ["here"] [] (by with_unfolding_all rfl) ‹rfl› (piLK (K := K) ‹rfl› (jb ‹C_roads› Na ‹hr.mono (by decide)› ‹rfl› (aa (pv 0) (aa (pv 1) (aa (pv 2) ja))))) (by decide) ‹rfl› (by decide) ‹trivial› (by with_unfolding_all rfl) (fun _ => ‹trivial›) (fun _ _ _ _ => (Qa (i := 0) ‹show List.Nodup (["here"] : List Str) from by decide +kernel› ‹rfl› ‹Or.inl rfl› ‹.inr rfl›)) (fun _ _ _ _ => Wh) (fun _ _ _ _ => (pe_c ‹C_span› ‹hr.mono (by decide)› ‹rfl› (aa (pv 0) ja)))))), ?_⟩
   rw [show L2.start ["count", "friends", "row"] [V.int c0, V.int f0, V.ref a] = [some (V.int c0), some (V.int f0), some (V.ref a)] from rfl]
   rcases h with h | h
   . left
     exact Yd h
   . obtain ⟨c, f, a, ps, rs, e, R, q⟩ := h
     cases e
     have c2 := R.cr.c2
     have ln := R.cr.ln
     left
     refine Dc (me R fun ra H1 qs hra s1 F hq => ?_)
     have ql := F.ln
     have rl : (road c f rs).length = rs.length := Me c f rs c (one c f 1)
     refine compL (a := ra) (xs := qs.map V.ref) [] (fun i ys H' => Same H1 H' /\ ∃ ts : List Addr, ys = ts.map V.ref /\ ts.length = i /\ ∀ (j : Nat) (p : Addr), ts[j]? = some p -> ∃ l, (road c f rs)[j]? = some l /\ H' p = some (tupF (Dj l))) rfl (by rw [List.length_map, sizeLine_eq]; omega) ⟨Same.refl H1, [], rfl, rfl, fun j p z => by simp at z⟩ (fun i ys H' _ ⟨s, _⟩ => SqL.of (s _ _ F.ls)) (fun i ys H' ⟨_, ts, e, e2, _⟩ => by rw [e, List.length_map, e2]; exact Nat.le_refl _) ?_ ?_
     . rintro i x ys z H' hi ⟨s, ts, rfl, hts, hall⟩
       obtain ⟨p, l, rfl, _, hl, hp⟩ := F.get hi
       obtain ⟨hpos, hlen⟩ := Wq R.fr R.cr.ft hl
       have lb := Nd (R.cr.ft.take (i + 1)) R.cr.c1 (Nat.le_refl _)
       left
       refine Dq (s _ _ hp) hpos (by omega) fun pn Hn hpn sn hn => ?_
       refine ⟨⟨s.tr sn, ts ++ [pn], by rw [List.map_append]; rfl, by rw [List.length_append, hts]; rfl, fun j p' hj => ?_⟩, _, rfl⟩
       by_cases hjl : j < ts.length
       . rw [List.getElem?_append_left hjl] at hj
         obtain ⟨l', h1, h2⟩ := hall j p' hj
         exact ⟨l', h1, sn _ _ h2⟩
       . rw [List.getElem?_append_right (by omega)] at hj
         have e : j - ts.length = 0 := by
          cases w : j - ts.length with
          | zero => rfl
          | succ k => rw [w] at hj; simp at hj
         rw [e] at hj
         have : pn = p' := by simpa using hj
         subst this
         exact ⟨l, by rw [show j = i by omega]; exact hl, hn⟩
     . rintro ys H' ⟨s, ts, rfl, hts, hall⟩ D hD
       rw [List.length_map] at hts
       refine q D _ ts ((s1.tr s).free hD) ((s1.tr s).new hD) ⟨ka, fun j p hj => ?_, by rw [List.length_map, hts, ql]⟩
       obtain ⟨l, h1, h2⟩ := hall j p hj
       exact ⟨Dj l, by rw [List.getElem?_map, h1]; rfl, by rw [Aa (da h2 hD)]; exact h2⟩
theorem ji {C_BallotError C_BadCount C_NotWhole C_BadChance C_BadRound : Addr} (T : Txt K mg C_BallotError C_BadCount C_NotWhole C_BadChance C_BadRound) (U : Up K mg "is_settled" jd ["roads_here", "worths_here", "later"]) : Bd P w K mg base := by
 have sc := Eh
 refine Callee.of (k := 0) U sc (fun vs H Q E h => ?_) (fun f cdv A outer s H vs Q E hr h => ?_)
 . obtain ⟨p, w, l, v, m, rfl, _⟩ := h; rfl
 . obtain ⟨p, w, l, v, m, rfl, h1, h2, h3, h4, q⟩ := h
   have hu := hr.units
   conv in (Ba _) => whnf
   with_reducible refine ⟨_, (ma (xa (Ma (allK (K := K) ‹rfl› ‹rfl›) ‹rfl› ‹T.b_all› bt_all (aa (Pu ["later"] ["many", "worth"] [2] (by with_unfolding_all rfl) ‹rfl› ‹rfl› (El ‹rfl› ‹T.b_zip› (aa (pv 0) (aa (pv 1) ja))) (by decide) ‹rfl› (by decide) ‹⟨rfl, trivial⟩› (by with_unfolding_all rfl) (fun _ => ‹⟨cap1 rfl rfl rfl rfl, trivial⟩›) (fun _ _ _ _ => (Og (K := K) (n := 2) ‹rfl› ‹rfl› (Va (Qa (i := 1) ‹show List.Nodup (["later", "many", "worth"] : List Str) from by decide +kernel› ‹rfl› ‹Or.inl rfl› ‹.inr rfl›) (Va (Qa (i := 2) ‹show List.Nodup (["later", "many", "worth"] : List Str) from by decide +kernel› ‹rfl› ‹Or.inl rfl› ‹.inr rfl›) vc)))) (fun _ _ _ _ => (Fo (truK (K := K) ‹rfl› (pv 1)))) (fun _ _ _ _ => (Xa (inK (K := K) ‹rfl›) (pv 2) (Ua (aa ia (aa (pv 0) ja))) ‹rfl›))) ja)))), ?_⟩
   rw [show L2.start ["roads_here", "worths_here", "later"] [V.ref p, V.ref w, V.int m] = [some (V.ref p), some (V.ref w), some (V.int m)] from rfl]
   left
   refine Xr (a1 := p) (a2 := w) (xs := (zs l).map V.int) (ws := (zs v).map V.int) [some (.int m)] (fun i ys H' => Same H H' /\ ys = (bsT l v m i).map V.bl) rfl (by rw [Ja, sizeLine_eq]; omega) ⟨Same.refl H, rfl⟩ (fun i ys H' _ _ ⟨s, _⟩ => ⟨s _ _ h1, s _ _ h2⟩) (fun i ys H' ⟨_, e⟩ => by rw [e, List.length_map]; exact gq _ _ _ _) ?_ ?_
   . rintro i x y ys z1 z2 H' T hx hy ⟨s, rfl⟩ hT
     obtain ⟨x, hx', rfl⟩ := Mb hx
     obtain ⟨y, hy', rfl⟩ := Mb hy
     have gx := getD_some hx'
     have gy := getD_some hy'
     left
     refine Gb (fun z => ?_) (fun z => ?_)
     . left
       intro tt htt
       left
       refine r_inT2 (a := 0) (b := (m : Int)) ka ?_
       have e : (decide ((y : Int) = 0) || decide ((y : Int) = (m : Int))) = (decide (v.getD i 0 = 0) || decide (v.getD i 0 = m)) := by
        rw [gy]
        congr 1
        . rw [decide_eq_decide]; omega
        . rw [decide_eq_decide]; omega
       refine ⟨⟨(s.new hT).new htt, ?_⟩, _, _, rfl⟩
       show _ = (bsT l v m i ++ _).map V.bl
       rw [if_neg (by rw [gx]; omega), List.map_append, e]
       rfl
     . refine ⟨⟨s.new hT, ?_⟩, _, _, rfl⟩
       show _ = (bsT l v m i ++ _).map V.bl
       rw [if_pos (by rw [gx]; omega), List.append_nil]
   . rintro ys H' ⟨s, rfl⟩ D hD
     rw [Ja, Ja, <- h3, Nat.min_self]
     left
     refine r_all ka ?_
     exact q _ _ (s.new hD) (iq l v m l.length)
theorem xm {C_BallotError C_BadCount C_NotWhole C_BadChance C_BadRound : Addr} (T : Txt K mg C_BallotError C_BadCount C_NotWhole C_BadChance C_BadRound) (U : Up K mg "settled" Of ["count", "friends", "row"]) (C_draws : Ag P w K mg base C_BadCount C_BadRound) (C_draws_behind : Ac P w K mg base C_BadCount C_BadRound) (C_roads : Ye P w K mg base C_BadCount C_BadRound C_NotWhole) (C_worths : yf P w K mg base C_BadCount C_BadRound C_NotWhole) (C_friendly_many : Za P w K mg base C_BadCount C_BadRound C_NotWhole) (C_is_settled : Bd P w K mg base) : wg P w K mg base C_BadCount C_BadRound C_NotWhole := by
 have sc := om
 refine Ka.of (k := 9) U sc (fun vs H Q E h => ?_) (fun f cdv A outer s H vs Q E hr h => ?_)
 . obtain ⟨c0, f0, a, rfl, _⟩ := h; rfl
 . obtain ⟨c0, f0, a, rfl, h⟩ := h
   have hu := hr.units
   conv in (Ba _) => whnf
   with_reducible refine ⟨_, (ba (Ea (i := 3) ‹sc.nd› ‹rfl› ‹Or.inl rfl› (La (addK (K := K) ‹rfl›) (vb (aa ‹(vb (aa ia ja))› ja)) (jb ‹C_roads› Na ‹hr.mono (by decide)› ‹rfl› (aa (pv 0) (aa (pv 1) (aa (pv 2) ja)))))) (ba (Ea (i := 4) ‹sc.nd› ‹rfl› ‹Or.inl rfl› (La (addK (K := K) ‹rfl›) (vb (aa ‹(vb (aa (jb C_friendly_many Na (hr.mono (by decide)) rfl (aa (pv 0) (aa (pv 1) (aa (pv 2) ja)))) ja))› ja)) (jb ‹C_worths› Na ‹hr.mono (by decide)› ‹rfl› (aa (pv 0) (aa (pv 1) (aa (pv 2) ja)))))) (ba (Ea (i := 5) ‹sc.nd› ‹rfl› ‹Or.inl rfl› (La (addK (K := K) ‹rfl›) (vb (aa (jb ‹C_draws› Na ‹hr.mono (by decide)› ‹rfl› (aa (pv 0) (aa (pv 2) ja))) ja)) (jb ‹C_draws_behind› Na ‹hr.mono (by decide)› ‹rfl› (aa (pv 0) (aa (pv 2) ja))))) (ba (Ea (i := 6) ‹sc.nd› ‹rfl› ‹Or.inl rfl› ia) (ba (Xh PassesOwn.leaving (dh (truK (K := K) ‹rfl› (pe_c ‹C_is_settled› ‹hr.mono (by decide)› ‹rfl› (aa (Ia (ixK (K := K) ‹rfl›) (pv 3) (pv 6) ‹fun _ _ => rfl›) (aa (Ia (ixK (K := K) ‹rfl›) (pv 4) (pv 6) ‹fun _ _ => rfl›) (aa (Ia (ixK (K := K) ‹rfl›) (pv 5) (pv 6) ‹fun _ _ => rfl›) ja)))))) (ma (Jo (i := 6) ‹sc.nd› ‹rfl› ‹Or.inl rfl› ia Dt))) (ma (xa (pv 6)))))))), ?_⟩
   rw [show L2.start ["count", "friends", "row", "reached", "worthy", "later", "over"] [V.int c0, V.int f0, V.ref a] = [some (V.int c0), some (V.int f0), some (V.ref a), none, none, none, none] from rfl]
   rcases h with h | h
   . left
     intro p1 hp1
     have s1 := (Same.refl H).new (o := .lst [.int 1]) hp1
     left
     intro p2 hp2
     have s2 := s1.new (o := .lst [.ref p1]) hp2
     left
     exact Yd (h.same s2)
   . obtain ⟨c, f, a, ps, rs, e, R, q⟩ := h
     cases e
     have c1 := R.cr.c1
     have c2 := R.cr.c2
     have ln := R.cr.ln
     left
     intro p1 hp1
     have s1 := (Same.refl H).new (o := .lst [.int 1]) hp1
     have a1 : upd H p1 (.lst [.int 1]) p1 = some (lstN [1]) := ka
     generalize upd H p1 (.lst [.int 1]) = H1 at s1 a1 ⊢
     left
     intro p2 hp2
     have s2 := s1.new (o := .lst [.ref p1]) hp2
     have a2 := Oa (o := .lst [.ref p1]) (da a1 hp2) a1
     have b2 : upd H1 p2 (.lst [.ref p1]) p2 = some (.lst [.ref p1]) := ka
     generalize upd H1 p2 (.lst [.ref p1]) = H2 at s2 a2 b2 ⊢
     left
     refine Dc (me (R.same s2) fun ra H3 qs hra s3 F3 hq3 => ?_)
     have ql := F3.ln
     have rl : (road c f rs).length = rs.length := Me c f rs c (one c f 1)
     left
     refine Sf (s3 _ _ b2) F3.ls (by rw [List.length_map, sizeLine_eq]; simp; omega) ?_
     intro p3 hp3
     have s4 := (Same.refl H3).new (o := .lst ([.ref p1] ++ qs.map V.ref)) hp3
     have G4 : TsAt lstN (upd H3 p3 (.lst ([.ref p1] ++ qs.map V.ref))) p3 (p1 :: qs) ([1] :: road c f rs) := (F3.same s4).cons ka (s4 _ _ (s3 _ _ a2))
     generalize upd H3 p3 (.lst ([.ref p1] ++ qs.map V.ref)) = H4 at s4 G4 ⊢
     have S4 := (s2.tr s3).tr s4
     left
     refine Dc (Ie (R.same S4) fun H5 s5 => ?_)
     left
     intro p5 hp5
     have s6 := (Same.refl H5).new (o := .lst [.int (frM c f rs : Nat)]) hp5
     have a6 : upd H5 p5 (.lst [.int (frM c f rs : Nat)]) p5 = some (lstN [frM c f rs]) := ka
     generalize upd H5 p5 (.lst [.int (frM c f rs : Nat)]) = H6 at s6 a6 ⊢
     left
     intro p6 hp6
     have s7 := s6.new (o := .lst [.ref p5]) hp6
     have a7 := Oa (o := .lst [.ref p5]) (da a6 hp6) a6
     have b7 : upd H6 p6 (.lst [.ref p5]) p6 = some (.lst [.ref p5]) := ka
     generalize upd H6 p6 (.lst [.ref p5]) = H7 at s7 a7 b7 ⊢
     have S7 := (S4.tr s5).tr s7
     left
     refine Dc (Sk (R.same S7) fun wa H8 ws hwa s8 F8 hw8 => ?_)
     have wl := F8.ln
     have wtl := qh c f rs
     left
     refine Sf (s8 _ _ b7) F8.ls (by rw [List.length_map, sizeLine_eq]; simp; omega) ?_
     intro p8 hp8
     have s9 := (Same.refl H8).new (o := .lst ([.ref p5] ++ ws.map V.ref)) hp8
     have G9 : TsAt lstN (upd H8 p8 (.lst ([.ref p5] ++ ws.map V.ref))) p8 (p5 :: ws) ([frM c f rs] :: wths c f rs) := (F8.same s9).cons ka (s9 _ _ (s8 _ _ a7))
     generalize upd H8 p8 (.lst ([.ref p5] ++ ws.map V.ref)) = H9 at s9 G9 ⊢
     have S9 := (S7.tr s8).tr s9
     have G4' := G4.same (((s5.tr s7).tr s8).tr s9)
     left
     refine vm (Hf (R.cr.same S9) fun HA sA => ?_)
     left
     intro pA hpA
     have sB := sA.new (o := .lst [.int (allD c rs : Nat)]) hpA
     have aB : upd HA pA (.lst [.int (allD c rs : Nat)]) pA = some (.lst [.int (allD c rs : Nat)]) := ka
     generalize upd HA pA (.lst [.int (allD c rs : Nat)]) = HB at sB aB ⊢
     left
     refine vm (cu (R.cr.same (S9.tr sB)) fun pB HC hpB sC hC => ?_)
     have sl := Kj (drs c c rs)
     have dl := wc c rs c
     left
     refine Sf (sC _ _ aB) hC (by rw [Ja, sizeLine_eq]; simp; omega) ?_
     intro pC hpC
     have sD := (sB.tr sC).new (o := .lst ([.int (allD c rs : Nat)] ++ (zs (sfx (drs c c rs))).map V.int)) hpC
     have aD : upd HC pC (.lst ([.int (allD c rs : Nat)] ++ (zs (sfx (drs c c rs))).map V.int)) pC = some (lstN (allD c rs :: sfx (drs c c rs))) := ka
     generalize upd HC pC (.lst ([.int (allD c rs : Nat)] ++ (zs (sfx (drs c c rs))).map V.int)) = HD at sD aD ⊢
     have GR := G4'.same sD
     have GW := G9.same sD
     have SD := S9.tr sD
     left
     refine Xj (fun m σ' H' => ∃ i : Nat, m = rs.length - i /\ i <= rs.length /\ (∀ j, j < i -> ¬ St c f rs j) /\ Same HD H' /\ σ' = [some (.int c), some (.int f), some (.ref a), some (.ref p3), some (.ref p8), some (.ref pC), some (.int i)]) rs.length ⟨0, rfl, Nat.zero_le _, fun j hj => absurd hj (Nat.not_lt_zero _), Same.refl _, rfl⟩ ?_
     rintro m σ' H' ⟨i, rfl, hi, hno, sE, rfl⟩
     obtain ⟨x1, l1, e1, g1, k1⟩ := (GR.same sE).ix (i := i) (by simp [rl]; omega)
     obtain ⟨x2, l2, e2, g2, k2⟩ := (GW.same sE).ix (i := i) (by simp [wtl]; omega)
     rw [Bq hi] at g1
     rw [zq hi] at g2
     have g1' := Option.some.inj g1
     have g2' := Option.some.inj g2
     subst g1' g2'
     left
     refine Fb (GR.same sE).ls e1 ?_
     left
     refine Fb (GW.same sE).ls e2 ?_
     left
     refine Fb (sE _ _ aD) (Be (Cq hi)) ?_
     left
     have lb := Aq (f := f) (i := i) R.cr.ft c1
     refine Zt k1 k2 (st_len R.wh).symm (by omega) fun H'' k sF hk => ?_
     left
     cases k with
     | true =>
      left
      exact q _ i (SD.tr (sE.tr sF)) hi (hk.1 rfl) hno
     | false =>
      left
      have hn : ¬ St c f rs i := fun z => by have := hk.2 z; cases this
      have hlt : i < rs.length := by
       rcases Nat.lt_or_ge i rs.length with z | z
       . exact z
       . have : i = rs.length := by omega
         subst this
         exact absurd (st_end R.fr R.cr.ft R.wh) hn
      refine ⟨_, fun _ _ z => z, ?_⟩
      left
      refine ⟨_, by omega, i + 1, rfl, hlt, fun j hj => ?_, sE.tr sF, rfl⟩
      rcases Nat.lt_or_ge j i with z | z
      . exact hno j z
      . have : j = i := by omega
        subst this
        exact hn
theorem ak {C_BallotError C_BadCount C_NotWhole C_BadChance C_BadRound : Addr} (T : Txt K mg C_BallotError C_BadCount C_NotWhole C_BadChance C_BadRound) (U : Up K mg "standing" Ke ["count", "friends", "row"]) (C_chance : De P w K mg base C_BadCount C_BadRound C_NotWhole) : We P w K mg base C_BadCount C_BadRound C_NotWhole := by
 have sc := Mj
 refine Ka.of (k := 10) U sc (fun vs H Q E h => ?_) (fun f cdv A outer s H vs Q E hr h => ?_)
 . obtain ⟨c0, f0, a, rfl, _⟩ := h; rfl
 . obtain ⟨c0, f0, a, rfl, h⟩ := h
   have hu := hr.units
   conv in (Ba _) => whnf
   with_reducible refine ⟨_, (ba (Ea (i := 3) ‹sc.nd› ‹rfl› ‹Or.inl rfl› (jb ‹C_chance› Na ‹hr.mono (by decide)› ‹rfl› (aa (pv 0) (aa (pv 1) (aa (pv 2) ja))))) (ba (Sa (ya (eqK (K := K) ‹rfl› ‹hu›) (pv 3) (uf ‹rfl› ‹T.m_ALL›) ‹za _›) (ma (xa Ha)) Ca) (ba (Sa (ya (eqK (K := K) ‹rfl› ‹hu›) (pv 3) (uf ‹rfl› ‹T.m_NONE›) ‹za _›) (ma (xa Ha)) Ca) (ma (xa Ha))))), ?_⟩
   rw [show L2.start ["count", "friends", "row", "found"] [V.int c0, V.int f0, V.ref a] = [some (V.int c0), some (V.int f0), some (V.ref a), none] from rfl]
   rcases h with h | h
   . left
     exact Yd h
   . obtain ⟨c, f, a, ps, rs, e, R, hl, q⟩ := h
     cases e
     left
     refine Dc (Gj R hl fun pu H1 hpu s1 h1 => ?_)
     have h1' : H1 pu = some (.tup ([(chF c f rs).1, (chF c f rs).2].map V.int)) := h1
     left
     intro aA hA
     refine r_eqTS (ns := [(chF c f rs).1, (chF c f rs).2]) (ms := [1, 1]) (SqT.of h1') hA.sq ?_
     left
     refine va (fun z => ?_) (fun z => ?_)
     . left
       have e : Qi c f rs = "sure" := by unfold Qi; rw [if_pos ((Ek R.cr.ft).1 z)]
       rw [e] at q
       exact q _ s1
     . left
       intro aN hN
       refine r_eqTS (ns := [(chF c f rs).1, (chF c f rs).2]) (ms := [0, 1]) (SqT.of h1') hN.sq ?_
       left
       refine va (fun z2 => ?_) (fun z2 => ?_)
       . left
         have e : Qi c f rs = "shut" := by unfold Qi; rw [if_neg (fun y => z ((Ek R.cr.ft).2 y)), if_pos ((Xp R.cr.ft).1 z2)]
         rw [e] at q
         exact q _ s1
       . left
         have e : Qi c f rs = "open" := by unfold Qi; rw [if_neg (fun y => z ((Ek R.cr.ft).2 y)), if_neg (fun y => z2 ((Xp R.cr.ft).2 y))]
         rw [e] at q
         exact q _ s1
theorem ip {C_BallotError C_BadCount C_NotWhole C_BadChance C_BadRound : Addr} (T : Txt K mg C_BallotError C_BadCount C_NotWhole C_BadChance C_BadRound) (U : Up K mg "fewest" Oh ["count", "row", "wish"]) (C_need_whole : cc P w K mg base C_BadCount C_BadRound C_NotWhole) (C_less : rq P w K mg base) (C_chance : De P w K mg base C_BadCount C_BadRound C_NotWhole) : Ji P w K mg base C_BadChance C_BadCount C_BadRound C_NotWhole := by
 have sc := jo
 refine Ka.of (k := 10) U sc (fun vs H Q E h => ?_) (fun f cdv A outer s H vs Q E hr h => ?_)
 . obtain ⟨c0, a, w, rfl, _⟩ := h; rfl
 . obtain ⟨c0, a, w, rfl, h⟩ := h
   have hu := hr.units
   conv in (Ba _) => whnf
   with_reducible refine ⟨_, (ba (Ab (jb ‹C_need_whole› Na ‹hr.mono (by decide)› ‹rfl› (aa (pv 0) (aa (pv 1) ja)))) (ba (Sa (PW.pt (Pe (truK (K := K) ‹rfl› (pe_c ‹C_less› ‹hr.mono (by decide)› ‹rfl› (aa (pv 2) (aa (uf ‹rfl› ‹T.m_NONE›) ja)))) (Pd (truK (K := K) ‹rfl› (pe_c ‹C_less› ‹hr.mono (by decide)› ‹rfl› (aa (uf ‹rfl› ‹T.m_ALL›) (aa (pv 2) ja))))))) (ma (qe Gd ‹rfl› ‹rfl› ‹T.c_BadChance› ‹T.q_BadChance› (aa Ha ja))) Ca) (ba (Ea (i := 3) ‹sc.nd› ‹rfl› ‹Or.inl rfl› ia) (ba (Ea (i := 4) ‹sc.nd› ‹rfl› ‹Or.inl rfl› (pv 0)) (ba (Xh PassesOwn.leaving (ya (ltK (K := K) ‹rfl› ‹hu›) (pv 3) (pv 4) ‹za _›) (ba (Ea (i := 5) ‹sc.nd› ‹rfl› ‹Or.inl rfl› (La xb (La (addK (K := K) ‹rfl›) (pv 3) (pv 4)) ia)) (ma (Sa (truK (K := K) ‹rfl› (pe_c ‹C_less› ‹hr.mono (by decide)› ‹rfl› (aa (jb ‹C_chance› Na ‹hr.mono (by decide)› ‹rfl› (aa (pv 0) (aa (pv 5) (aa (pv 1) ja)))) (aa (pv 2) ja)))) (ma (Ea (i := 3) ‹sc.nd› ‹rfl› ‹Or.inl rfl› (La (addK (K := K) ‹rfl›) (pv 5) ia))) (ma (Ea (i := 4) ‹sc.nd› ‹rfl› ‹Or.inl rfl› (pv 5))))))) (ma (xa (pv 3)))))))), ?_⟩
   rw [show L2.start ["count", "row", "wish", "low", "high", "middle"] [V.int c0, V.ref a, V.ref w] = [some (V.int c0), some (V.ref a), some (V.ref w), none, none, none] from rfl]
   rcases h with h | h
   . left
     rcases h with h | ⟨n, ps, rs, p, rfl, R, hw, hp, bg, p2, hx, x⟩
     . exact orW_b h
     . refine kr (pe R hw fun H1 s1 => ?_)
       have hp1 := s1 _ _ hp
       left
       intro aN hN
       left
       have b01 : Big ((0, 1) : Int × Int) := ⟨by show (0 : Int).natAbs < _; exact Nat.two_pow_pos _, by show (1 : Int).natAbs < _; exact Nat.one_lt_two_pow (by decide)⟩
       have b11 : Big ((1, 1) : Int × Int) := ⟨by show (1 : Int).natAbs < _; exact Nat.one_lt_two_pow (by decide), by show (1 : Int).natAbs < _; exact Nat.one_lt_two_pow (by decide)⟩
       refine Wc (p := p) (q := (0, 1)) (SqT.of hp1) hN.sq bg b01 ?_
       by_cases z : p.1 < 0
       . rw [show ltF p (0, 1) = true from decide_eq_true (by show p.1 * 1 < 0 * p.2; omega)]
         left
         exact fun ea hea => x _ ea s1 hea
       . rw [show ltF p (0, 1) = false from decide_eq_false (by show ¬ p.1 * 1 < 0 * p.2; omega)]
         left
         intro aA hA
         left
         refine Wc (p := (1, 1)) (q := p) hA.sq (SqT.of hp1) b11 bg ?_
         rw [show ltF (1, 1) p = true from decide_eq_true (by show 1 * p.2 < p.1 * 1; omega)]
         left
         exact fun ea hea => x _ ea s1 hea
   . obtain ⟨c, a, w, ps, rs, p, e, R, hw, hp, W, hb, q⟩ := h
     cases e
     have hb9 : allD c rs < 2 ^ 9000 := Nat.lt_of_lt_of_le hb (Nat.pow_le_pow_right (by decide) (by decide))
     left
     refine kr (pe R hw fun H1 s1 => ?_)
     have hp1 := s1 _ _ hp
     left
     intro aN hN
     left
     have b01 : Big ((0, 1) : Int × Int) := ⟨by show (0 : Int).natAbs < _; exact Nat.two_pow_pos _, by show (1 : Int).natAbs < _; exact Nat.one_lt_two_pow (by decide)⟩
     have b11 : Big ((1, 1) : Int × Int) := ⟨by show (1 : Int).natAbs < _; exact Nat.one_lt_two_pow (by decide), by show (1 : Int).natAbs < _; exact Nat.one_lt_two_pow (by decide)⟩
     refine Wc (p := p) (q := (0, 1)) (SqT.of hp1) hN.sq W.bg b01 ?_
     have e1 : ltF p (0, 1) = false := by
      have := W.p0
      unfold ltF
      exact decide_eq_false (by show ¬ p.1 * 1 < 0 * p.2; omega)
     rw [e1]
     left
     intro aA hA
     left
     refine Wc (p := (1, 1)) (q := p) hA.sq (SqT.of hp1) b11 W.bg ?_
     have e2 : ltF (1, 1) p = false := by
      have := W.p1
      unfold ltF
      exact decide_eq_false (by show ¬ 1 * p.2 < p.1 * 1; omega)
     rw [e2]
     left
     refine Xj (fun m σ' H' => ∃ (lo hi : Nat) (o1 : Option V), m = hi - lo /\ lo <= hi /\ hi <= c /\ (∀ j, j < lo -> Few c rs p j) /\ ¬ Few c rs p hi /\ Same H H' /\ σ' = [some (.int c), some (.ref a), some (.ref w), some (.int lo), some (.int hi), o1]) c ⟨0, c, none, rfl, Nat.zero_le _, Nat.le_refl _, fun j hj => absurd hj (Nat.not_lt_zero _), gk R.ft hw W.p1, s1, rfl⟩ ?_
     rintro m σ' H' ⟨lo, hi, o1, rfl, l1, l2, fw, nf, s, rfl⟩
     left
     refine va (fun h1 => ?_) (fun h1 => ?_)
     . refine ⟨_, fun _ _ z => z, ?_⟩
       left
       obtain ⟨mi, hm, m1⟩ : ∃ mi : Nat, ((lo : Int) + (hi : Int)) / 2 = (mi : Int) /\ mi = (lo + hi) / 2 := ⟨(lo + hi) / 2, by omega, rfl⟩
       rw [hm]
       refine Dc (Gj ⟨R.same s, hw, by omega⟩ hb9 fun pc H2 hpc s2 h2 => ?_)
       left
       have h2' : H2 pc = some (.tup [.int (chF c mi rs).1, .int (chF c mi rs).2]) := h2
       refine Wc (p := chF c mi rs) (q := p) (SqT.of h2') (SqT.of ((s.tr s2) _ _ hp)) (Kv (by omega) R.ft hw hb) W.bg ?_
       by_cases z : ltF (chF c mi rs) p = true
       . rw [z]
         left
         have zf := (zp R.ft).1 z
         exact ⟨_, by omega, mi + 1, hi, _, rfl, by
          rcases Nat.lt_or_ge mi hi with y | y
          . exact y
          . omega, l2, fun j hj => Few.less R.ft hw W.p2 zf (by omega) (by omega), nf, s.tr s2, rfl⟩
       . have z' : ltF (chF c mi rs) p = false := by simpa using z
         rw [z']
         left
         have zf : ¬ Few c rs p mi := fun y => z ((zp R.ft).2 y)
         exact ⟨_, by omega, lo, mi, _, rfl, by omega, by omega, fw, zf, s.tr s2, rfl⟩
     . have e : lo = hi := by omega
       subst e
       left
       exact q lo _ s l2 nf fw
theorem Yu {C_BallotError C_BadCount C_NotWhole C_BadChance C_BadRound : Addr} (T : Txt K mg C_BallotError C_BadCount C_NotWhole C_BadChance C_BadRound) (U : Up K mg "gain" wo ["count", "friends", "row"]) (C_draws : Ag P w K mg base C_BadCount C_BadRound) (C_lowest : Af P w K mg base) (C_friendly_many : Za P w K mg base C_BadCount C_BadRound C_NotWhole) : uq P w K mg base C_BadCount C_BadRound C_NotWhole := by
 have sc := ku
 refine Ka.of (k := 9) U sc (fun vs H Q E h => ?_) (fun f cdv A outer s H vs Q E hr h => ?_)
 . obtain ⟨c0, f0, a, rfl, _⟩ := h; rfl
 . obtain ⟨c0, f0, a, rfl, h⟩ := h
   have hu := hr.units
   conv in (Ba _) => whnf
   with_reducible refine ⟨_, (ba (Ea (i := 3) ‹sc.nd› ‹rfl› ‹Or.inl rfl› (jb ‹C_friendly_many› Na ‹hr.mono (by decide)› ‹rfl› (aa (pv 0) (aa (pv 1) (aa (pv 2) ja))))) (ba (Sa (ya (eqK (K := K) ‹rfl› ‹hu›) (pv 1) (pv 0) ‹za _›) (ma (qe Gd ‹rfl› ‹rfl› ‹T.c_BadCount› ‹T.q_BadCount› (aa Ha ja))) Ca) (ma (xa (pe_c ‹C_lowest› ‹hr.mono (by decide)› ‹rfl› (aa (La Ec (jb ‹C_friendly_many› Na ‹hr.mono (by decide)› ‹rfl› (aa (pv 0) (aa (La (addK (K := K) ‹rfl›) (pv 1) ia) (aa (pv 2) ja)))) (pv 3)) (aa (jb ‹C_draws› Na ‹hr.mono (by decide)› ‹rfl› (aa (pv 0) (aa (pv 2) ja))) ja))))))), ?_⟩
   rw [show L2.start ["count", "friends", "row", "now"] [V.int c0, V.int f0, V.ref a] = [some (V.int c0), some (V.int f0), some (V.ref a), none] from rfl]
   rcases h with h | h
   . left
     rcases h with h | ⟨n, ps, rs, rfl, R, hn, rfl, x⟩
     . exact Yd h
     . refine Dc (Ie ⟨R, hn, Nat.le_refl _⟩ fun H1 s1 => ?_)
       left
       refine va (fun _ => ?_) (fun z => absurd rfl z)
       left
       exact fun ea hea => x _ ea s1 hea
   . obtain ⟨c, f, a, ps, rs, e, R, hw, hf, hl, q⟩ := h
     cases e
     left
     refine Dc (Ie ⟨R, hw, by omega⟩ fun H1 s1 => ?_)
     left
     refine va (fun z => by omega) (fun _ => ?_)
     left
     rw [show (f : Int) + 1 = ((f + 1 : Nat) : Int) by omega]
     refine Dc (Ie ⟨R.same s1, hw, hf⟩ fun H2 s2 => ?_)
     left
     refine vm (Hf (R.same (s1.tr s2)) fun H3 s3 => ?_)
     left
     have ap := Od R.ft
     refine En 9000 (by omega) (by rw [Int.natAbs_natCast]; exact hl) (by decide) fun p hp => ?_
     have t := (s1.tr s2).tr s3
     exact q p _ (t.free hp) (t.new hp) ka
theorem Am {C_BallotError C_BadCount C_NotWhole C_BadChance C_BadRound : Addr} (T : Txt K mg C_BallotError C_BadCount C_NotWhole C_BadChance C_BadRound) (U : Up K mg "_law_begin" Rf ["_law_script"]) : zg P w K mg base := by
 have sc := tm
 refine Callee.of (k := 0) U sc (fun vs H Q E h => ?_) (fun f cdv A outer s H vs Q E hr h => ?_)
 . obtain ⟨a, ns, rfl, _⟩ := h; rfl
 . obtain ⟨a, ns, rfl, hS, k⟩ := h
   have hu := hr.units
   conv in (Ba _) => whnf
   with_reducible refine ⟨_, (ma (xa (vb (aa (Cc (listK (K := K) ‹rfl›) ‹rfl› ‹T.b_list› Mv (aa (pv 0) ja)) (aa ia (aa ia (aa ia ja))))))), ?_⟩
   rw [show L2.start ["_law_script"] [V.ref a] = [some (V.ref a)] from rfl]
   left
   refine zu (xs := ns.map V.int) hS ?_
   intro l hl
   left
   intro d hd
   have hld : l ≠ d := da ka hd
   have s1 : Same H (upd H l (.lst (ns.map V.int))) := (Same.refl H).new hl
   refine k d l _ (s1.free hd) hl ⟨ns, 0, 0, 17, ka, by walk_at "hp", hld, by decide⟩ (s1.new hd)
theorem Yo {C_BallotError C_BadCount C_NotWhole C_BadChance C_BadRound : Addr} (T : Txt K mg C_BallotError C_BadCount C_NotWhole C_BadChance C_BadRound) (U : Up K mg "_law_take" Jh ["_law_draw", "_law_many"]) : Pc P w K mg base := by
 have sc := Zn
 refine Callee.of (k := 0) U sc (fun vs H Q E h => ?_) (fun f cdv A outer s H vs Q E hr h => ?_)
 . obtain ⟨d, l, m, rfl, _⟩ := h; rfl
 . obtain ⟨d, l, m, rfl, ⟨ns, i, c, r, hd, hl, hne, hi⟩, hm, hb, k⟩ := h
   have hu := hr.units
   conv in (Ba _) => whnf
   with_reducible refine ⟨_, (Vf (Sa (PW.pt (bj (ya (ltK (K := K) ‹rfl› ‹hu›) (Ia (ixK (K := K) ‹rfl›) (pv 0) ia ‹fun _ _ => rfl›) (pv 1) ‹za _›) (Tf (ya (ltK (K := K) ‹rfl› ‹hu›) (Ia (ixK (K := K) ‹rfl›) (pv 0) ia ‹fun _ _ => rfl›) (Ma (lenK (K := K) ‹rfl›) ‹rfl› ‹T.b_len› oh (aa (Ia (ixK (K := K) ‹rfl›) (pv 0) ia ‹fun _ _ => rfl›) ja)) ‹za _›)))) (ba (Ea (i := 2) ‹sc.nd› ‹rfl› ‹Or.inl rfl› (Ia (ixK (K := K) ‹rfl›) (Ia (ixK (K := K) ‹rfl›) (pv 0) ia ‹fun _ _ => rfl›) (Ia (ixK (K := K) ‹rfl›) (pv 0) ia ‹fun _ _ => rfl›) ‹fun _ _ => rfl›)) (ba (Qd (La (addK (K := K) ‹rfl›) (Ia (ixK (K := K) ‹rfl›) (pv 0) ia ‹fun _ _ => rfl›) ia) (df (pv 0) ia set_list)) (ba (Qd ia (df (pv 0) ia set_list)) (ma (Sa (ya nr (Ma Tp ‹rfl› ‹T.b_abs› fq (aa (pv 2) ja)) (La op_pow ia ia) ‹za _›) (ma (Qd (Ma Tp ‹rfl› ‹T.b_abs› fq (aa (pv 2) ja)) (df (pv 0) ia set_list))) (ma (Qd (La gh (La (addK (K := K) ‹rfl›) (La (addK (K := K) ‹rfl›) (La wb (Ia (ixK (K := K) ‹rfl›) (pv 0) ia ‹fun _ _ => rfl›) ia) (La wb (La gh (pv 2) ia) ia)) ia) ia) (df (pv 0) ia set_list)))))))) Ca) (ba (Sa (ya nr (Ia (ixK (K := K) ‹rfl›) (pv 0) ia ‹fun _ _ => rfl›) (pv 1) ‹za _›) (ba (Ea (i := 3) ‹sc.nd› ‹rfl› ‹Or.inl rfl› (La gh (Ia (ixK (K := K) ‹rfl›) (pv 0) ia ‹fun _ _ => rfl›) (pv 1))) (ba (Qd (La xb (Ia (ixK (K := K) ‹rfl›) (pv 0) ia ‹fun _ _ => rfl›) (pv 1)) (df (pv 0) ia set_list)) (ma (xa (pv 3))))) Ca) (ba (Qd (La gh (La (addK (K := K) ‹rfl›) (La wb (Ia (ixK (K := K) ‹rfl›) (pv 0) ia ‹fun _ _ => rfl›) ia) ia) ia) (df (pv 0) ia set_list)) (ma (xa (La gh (La xb (Ia (ixK (K := K) ‹rfl›) (pv 0) ia ‹fun _ _ => rfl›) ia) (pv 1))))))), ?_⟩
   rw [show L2.start ["_law_draw", "_law_many", "_law_number", "_law_got"] [V.ref d, V.int m] = [some (V.ref d), some (V.int m), none, none] from rfl]
   refine Ao (fun σ' H' => (∃ x, σ' = [some (.ref d), some (.int m), x, none]) /\ (∃ i' c' r' : Int, H' d = some (.lst [.ref l, .int i', .int c', .int r']) /\ 0 <= i') /\ Fr1 d H H') ?_ ?_
   . left
     refine va (fun h1 => ?_) (fun h1 => ?_)
     . left
       refine va (fun h2 => ?_) (fun h2 => ?_)
       . left
         rw [List.length_map] at h2
         refine Fb hl (As hi h2) ?_
         left
         refine va (fun h3 => ?_) (fun h3 => ?_)
         . left
           exact ⟨⟨_, rfl⟩, ⟨_, _, _, ka, by omega⟩, (((Fr1.refl d H).upd).upd).upd⟩
         . left
           exact ⟨⟨_, rfl⟩, ⟨_, _, _, ka, by omega⟩, (((Fr1.refl d H).upd).upd).upd⟩
       . left
         exact ⟨⟨_, rfl⟩, ⟨_, _, _, hd, by omega⟩, Fr1.refl d H⟩
     . left
       exact ⟨⟨_, rfl⟩, ⟨_, _, _, hd, by omega⟩, Fr1.refl d H⟩
   . rintro σ1 H1 ⟨⟨x, rfl⟩, ⟨i', c', r', hd1, hi1⟩, fr⟩
     obtain ⟨n, hn1, hn2⟩ := hb
     have hl1 : H1 l = some (.lst (ns.map V.int)) := fr.get hl hne
     left
     refine va (fun h1 => ?_) (fun h1 => ?_)
     . left
       refine r_rI ⟨hm, n, hn1, hn2⟩ ?_
       left
       refine k _ _ (Int.emod_nonneg _ (by omega)) (Int.emod_lt_of_pos _ hm) ⟨ns, i', _, r', ka, ?_, hne, hi1⟩ fr.upd
       walk_at "hp"
     . left
       refine k _ _ (Int.emod_nonneg _ (by omega)) (Int.emod_lt_of_pos _ hm) ⟨ns, i', c', _, ka, ?_, hne, hi1⟩ fr.upd
       walk_at "hp"
theorem zr {C_BallotError C_BadCount C_NotWhole C_BadChance C_BadRound : Addr} (T : Txt K mg C_BallotError C_BadCount C_NotWhole C_BadChance C_BadRound) (U : Up K mg "_law_int" Sj ["_law_thing"]) : Nk P w K mg base := by
 have sc := Rq
 refine Callee.of (k := 0) U sc (fun vs H Q E h => ?_) (fun f cdv A outer s H vs Q E hr h => ?_)
 . obtain ⟨n, rfl, _⟩ := h; rfl
 . obtain ⟨n, rfl, k⟩ := h
   have hu := hr.units
   conv in (Ba _) => whnf
   with_reducible refine ⟨_, (ma (xa (ej (Ma (isiK (K := K) ‹rfl›) ‹rfl› ‹T.b_isinstance› gb (aa (pv 0) (aa (Zj ‹rfl› ‹T.b_int› ph (v := .ty "int") ‹rfl›) ja))) (Wf (pe_not (Ma (isiK (K := K) ‹rfl›) ‹rfl› ‹T.b_isinstance› gb (aa (pv 0) (aa (Zj ‹rfl› ‹T.b_bool› Nv (v := .ty "bool") ‹rfl›) ja)))))))), ?_⟩
   rw [show L2.start ["_law_thing"] [V.int n] = [some (V.int n)] from rfl]
   left
   exact k
theorem Zo {C_BallotError C_BadCount C_NotWhole C_BadChance C_BadRound : Addr} (T : Txt K mg C_BallotError C_BadCount C_NotWhole C_BadChance C_BadRound) (U : Up K mg "_law_step" Kh ["_law_draw", "_law_count", "_law_bench", "_law_most"]) (C_l_take : Pc P w K mg base) : Bf P w K mg base := by
 have sc := ao
 refine Callee.of (k := 1) U sc (fun vs H Q E h => ?_) (fun f cdv A outer s H vs Q E hr h => ?_)
 . obtain ⟨d, l, c, s, m, rfl, _⟩ := h; rfl
 . obtain ⟨d, l, c, s, m, rfl, D, s1, s2, c0, s3, m1, m2, q⟩ := h
   have hu := hr.units
   conv in (Ba _) => whnf
   with_reducible refine ⟨_, (ba (Ea (i := 4) ‹sc.nd› ‹rfl› ‹Or.inl rfl› (Ia (ixK (K := K) ‹rfl›) (Ua (aa Ha (aa Ha (aa Ha ja)))) (pe_c ‹C_l_take› ‹hr.mono (by decide)› ‹rfl› (aa (pv 0) (aa ia ja))) ‹fun _ _ => rfl›)) (ba (Ea (i := 5) ‹sc.nd› ‹rfl› ‹Or.inl rfl› (Xa (eqK (K := K) ‹rfl› ‹hu›) (pe_c ‹C_l_take› ‹hr.mono (by decide)› ‹rfl› (aa (pv 0) (aa ia ja))) ia ‹za _›)) (ba (Ea (i := 6) ‹sc.nd› ‹rfl› ‹Or.inl rfl› (La (addK (K := K) ‹rfl›) (La (addK (K := K) ‹rfl›) (La xb (pv 2) ia) ia) (pe_c ‹C_l_take› ‹hr.mono (by decide)› ‹rfl› (aa (pv 0) (aa (La Ec (pv 2) (La xb (pv 2) ia)) ja))))) (ba (Ea (i := 7) ‹sc.nd› ‹rfl› ‹Or.inl rfl› (La (addK (K := K) ‹rfl›) ia (pe_c ‹C_l_take› ‹hr.mono (by decide)› ‹rfl› (aa (pv 0) (aa (Ma (ae ‹rfl›) ‹rfl› ‹T.b_min› rg (aa (pv 2) (aa (pv 3) ja))) ja))))) (ba (Sa (truK (K := K) ‹rfl› (pv 5)) (ma (xa (Ua (aa Ha (aa (pv 7) ja))))) Ca) (ba (Sa (ya (eqK (K := K) ‹rfl› ‹hu›) (pv 4) Ha ‹za _›) (ma (Ea (i := 7) ‹sc.nd› ‹rfl› ‹Or.inl rfl› (La (addK (K := K) ‹rfl›) ia (pe_c ‹C_l_take› ‹hr.mono (by decide)› ‹rfl› (aa (pv 0) (aa (Ma (ae ‹rfl›) ‹rfl› ‹T.b_min› rg (aa (pv 1) (aa (pv 3) ja))) ja)))))) Ca) (ba (Sa (PW.pt (bj (ya (eqK (K := K) ‹rfl› ‹hu›) (pv 4) Ha ‹za _›) (Tf (ya (leK (K := K) ‹rfl› ‹hu›) (pv 2) ia ‹za _›)))) (ma (xa (Ua (aa Ha (aa (pv 2) (aa (pv 6) (aa (pv 4) ja))))))) Ca) (ba (Sa (ya (eqK (K := K) ‹rfl› ‹hu›) (pv 4) Ha ‹za _›) (ma (Ea (i := 4) ‹sc.nd› ‹rfl› ‹Or.inl rfl› Ha)) Ca) (ma (xa (Ua (aa Ha (aa (pv 7) (aa (pv 6) (aa (pv 4) ja))))))))))))))), ?_⟩
   rw [show L2.start ["_law_draw", "_law_count", "_law_bench", "_law_most", "_law_word", "_law_lot", "_law_needed", "_law_n"] [V.ref d, V.int c, V.int s, V.int m] = [some (V.ref d), some (V.int c), some (V.int s), some (V.int m), none, none, none, none] from rfl]
   left
   intro tp htp
   have D0 := D.new (o := .tup [.str "council", .str "bench", .str "stay"]) htp
   have fr0 : Fr1 d H (upd H tp (.tup [.str "council", .str "bench", .str "stay"])) := (Fr1.refl d H).new htp
   have ntp := (D.ne htp).1
   left
   refine Wa D0 (by omega) (by omega) fun g1 H1 g10 g11 D1 f1 => ?_
   obtain ⟨w, hw⟩ : ∃ w : Wd, atI [V.str "council", V.str "bench", V.str "stay"] g1 = some (.str (wdS w)) := by
    have : g1 = 0 \/ g1 = 1 \/ g1 = 2 := by omega
    rcases this with rfl | rfl | rfl
    . exact ⟨.council, rfl⟩
    . exact ⟨.bench, rfl⟩
    . exact ⟨.stay, rfl⟩
   refine Yb (f1.get ka ntp) hw ?_
   left
   refine Wa D1 (by omega) (by omega) fun g2 H2 g20 g21 D2 f2 => ?_
   left
   refine Wa D2 (by omega) (by omega) fun g3 H3 g30 g31 D3 f3 => ?_
   obtain ⟨nd, hnd, nd1, nd2⟩ : ∃ nd : Nat, (s : Int) / 2 + 1 + g3 = (nd : Int) /\ s < 2 * nd /\ nd <= s := ⟨((s : Int) / 2 + 1 + g3).toNat, by omega, by omega, by omega⟩
   left
   rw [hnd]
   have hmin : ∀ x : Nat, 1 <= x -> 0 < (if (m : Int) < (x : Int) then (m : Int) else (x : Int)) /\ (if (m : Int) < (x : Int) then (m : Int) else (x : Int)) <= x /\ (if (m : Int) < (x : Int) then (m : Int) else (x : Int)) <= 60 := fun x hx => by split <;> omega
   have hm1 := hmin s s1
   refine Wa D3 (by omega) (by omega) fun g4 H4 g40 g41 D4 f4 => ?_
   have fr4 := ((((fr0.trans f1).trans f2).trans f3).trans f4)
   obtain ⟨n0, hn0, n01, n02, n03⟩ : ∃ n0 : Nat, 1 + g4 = (n0 : Int) /\ 1 <= n0 /\ n0 <= s /\ n0 <= 60 := ⟨(1 + g4).toNat, by omega, by omega, by omega, by omega⟩
   left
   rw [hn0]
   refine va (fun h1 => ?_) (fun h1 => ?_)
   . left
     intro p hp
     exact q p _ (.lot n0) (D4.new hp) (fr4.new hp) ka
   . cases w with
     | council =>
      left
      refine va (fun _ => ?_) (fun z => absurd rfl z)
      left
      have hm2 := hmin c (by omega)
      refine Wa D4 (by omega) (by omega) fun g5 H5 g50 g51 D5 f5 => ?_
      obtain ⟨n1, hn1, n11, n12, n13⟩ : ∃ n1 : Nat, 1 + g5 = (n1 : Int) /\ 1 <= n1 /\ n1 <= c /\ n1 <= 60 := ⟨(1 + g5).toNat, by omega, by omega, by omega, by omega⟩
      left
      rw [hn1]
      refine va (fun z => absurd z (by decide)) (fun _ => ?_)
      left
      refine va (fun z => absurd z (by decide)) (fun _ => ?_)
      left
      intro p hp
      exact q p _ (.vote n1 nd .council) (D5.new hp) ((fr4.trans f5).new hp) ka
     | bench =>
      left
      refine va (fun z => absurd z (by decide)) (fun _ => ?_)
      left
      refine va (fun z => absurd z (by decide)) (fun _ => ?_)
      left
      refine va (fun z => absurd z (by decide)) (fun _ => ?_)
      left
      intro p hp
      exact q p _ (.vote n0 nd .bench) (D4.new hp) (fr4.new hp) ka
     | stay =>
      left
      refine va (fun z => absurd z (by decide)) (fun _ => ?_)
      left
      refine va (fun _ => ?_) (fun z => absurd rfl z)
      left
      refine va (fun h5 => ?_) (fun h5 => ?_)
      . left
        intro p hp
        exact q p _ (.vote s nd .stay) (D4.new hp) (fr4.new hp) ka
      . left
        refine va (fun _ => ?_) (fun z => absurd rfl z)
        left
        intro p hp
        exact q p _ (.vote n0 nd .council) (D4.new hp) (fr4.new hp) ka
theorem gi {C_BallotError C_BadCount C_NotWhole C_BadChance C_BadRound : Addr} (T : Txt K mg C_BallotError C_BadCount C_NotWhole C_BadChance C_BadRound) (U : Up K mg "_law_any_step" Zc ["_law_draw", "_law_count", "_law_bench"]) (C_l_take : Pc P w K mg base) (C_l_step : Bf P w K mg base) : Ad P w K mg base := by
 have sc := Dh
 refine Callee.of (k := 2) U sc (fun vs H Q E h => ?_) (fun f cdv A outer s H vs Q E hr h => ?_)
 . obtain ⟨d, l, c, s, rfl, _⟩ := h; rfl
 . obtain ⟨d, l, c, s, rfl, D, s1, s2, s0, s3, q⟩ := h
   have hu := hr.units
   conv in (Ba _) => whnf
   with_reducible refine ⟨_, (ba (Ea (i := 3) ‹sc.nd› ‹rfl› ‹Or.inl rfl› (pe_c ‹C_l_step› ‹hr.mono (by decide)› ‹rfl› (aa (pv 0) (aa (pv 1) (aa (pv 2) (aa ia ja)))))) (ba (Ea (i := 4) ‹sc.nd› ‹rfl› ‹Or.inl rfl› (pe_c ‹C_l_take› ‹hr.mono (by decide)› ‹rfl› (aa (pv 0) (aa ia ja)))) (ba (Ea (i := 5) ‹sc.nd› ‹rfl› ‹Or.inl rfl› (Ia (ixK (K := K) ‹rfl›) (Ua (aa (Ia (ixK (K := K) ‹rfl›) (pv 3) ia ‹fun _ _ => rfl›) (aa (pv 2) (aa (La (addK (K := K) ‹rfl›) (pv 2) ia) (aa ia (aa ia (aa (Qe Bc ia) (aa (La (addK (K := K) ‹rfl›) (pv 1) ia) (aa ia ja))))))))) (pv 4) ‹fun _ _ => rfl›)) (ba (Sa (ya (eqK (K := K) ‹rfl› ‹hu›) (Ia (ixK (K := K) ‹rfl›) (pv 3) ia ‹fun _ _ => rfl›) Ha ‹za _›) (ma (xa (Ua (aa (Ia (ixK (K := K) ‹rfl›) (Ua (aa Ha (aa Ha ja))) (Cc ng ‹rfl› ‹T.b_int› ph (aa (Xa (eqK (K := K) ‹rfl› ‹hu›) (pe_c ‹C_l_take› ‹hr.mono (by decide)› ‹rfl› (aa (pv 0) (aa ia ja))) ia ‹za _›) ja)) ‹fun _ _ => rfl›) (aa (pv 5) ja))))) Ca) (ba (Ea (i := 6) ‹sc.nd› ‹rfl› ‹Or.inl rfl› (Ia (ixK (K := K) ‹rfl›) (Ua (aa (Ia (ixK (K := K) ‹rfl›) (pv 3) ia ‹fun _ _ => rfl›) (aa (pv 2) (aa (La (addK (K := K) ‹rfl›) (pv 2) ia) (aa (La xb (pv 2) ia) (aa ia (aa (La (addK (K := K) ‹rfl›) (La xb (pv 2) ia) ia) ja))))))) (pe_c ‹C_l_take› ‹hr.mono (by decide)› ‹rfl› (aa (pv 0) (aa ia ja))) ‹fun _ _ => rfl›)) (ba (Ea (i := 7) ‹sc.nd› ‹rfl› ‹Or.inl rfl› (Ia (ixK (K := K) ‹rfl›) (Ua (aa (Ia (ixK (K := K) ‹rfl›) (pv 3) ia ‹fun _ _ => rfl›) (aa Ha (aa Ha (aa Ha (aa Ha (aa Ha ja))))))) (pe_c ‹C_l_take› ‹hr.mono (by decide)› ‹rfl› (aa (pv 0) (aa ia ja))) ‹fun _ _ => rfl›)) (ma (xa (Ua (aa (Ia (ixK (K := K) ‹rfl›) (Ua (aa Ha (aa Ha ja))) (Cc ng ‹rfl› ‹T.b_int› ph (aa (Xa (eqK (K := K) ‹rfl› ‹hu›) (pe_c ‹C_l_take› ‹hr.mono (by decide)› ‹rfl› (aa (pv 0) (aa ia ja))) ia ‹za _›) ja)) ‹fun _ _ => rfl›) (aa (pv 5) (aa (pv 6) (aa (pv 7) ja))))))))))))), ?_⟩
   rw [show L2.start ["_law_draw", "_law_count", "_law_bench", "_law_step_here", "_law_way", "_law_n", "_law_needed", "_law_word"] [V.ref d, V.int c, V.int s] = [some (V.ref d), some (V.int c), some (V.int s), none, none, none, none, none] from rfl]
   left
   refine Ri (m := 60) D s1 s2 s0 s3 (by decide) (by decide) fun p H1 r D1 f1 hp => ?_
   left
   refine Wa D1 (by omega) (by omega) fun g1 H2 g10 g11 D2 f2 => ?_
   obtain ⟨xs0, e1, e2⟩ := rn_n r
   have npd : p ≠ d := Ei D1 (by rw [<- e1]; exact hp)
   have hp2 := f2.get hp npd
   left
   refine Yb (xs := xs0) (by rw [<- e1]; exact hp2) e2 ?_
   left
   intro tp htp
   have D2' := D2.new (o := .tup [.int (r.n : Nat), .int s, .int (s + 1), .int 61, .int 0, .int (-1), .int (c + 1), .int 60]) htp
   have F2 := (f1.trans f2).new (o := .tup [.int (r.n : Nat), .int s, .int (s + 1), .int 61, .int 0, .int (-1), .int (c + 1), .int 60]) htp
   have p2' := Oa (o := .tup [.int (r.n : Nat), .int s, .int (s + 1), .int 61, .int 0, .int (-1), .int (c + 1), .int 60]) (da hp2 htp) hp2
   have w2 : upd H2 tp (.tup [.int (r.n : Nat), .int s, .int (s + 1), .int 61, .int 0, .int (-1), .int (c + 1), .int 60]) tp = some (.tup [.int (r.n : Nat), .int s, .int (s + 1), .int 61, .int 0, .int (-1), .int (c + 1), .int 60]) := ka
   generalize upd H2 tp (.tup [.int (r.n : Nat), .int s, .int (s + 1), .int 61, .int 0, .int (-1), .int (c + 1), .int 60]) = H3 at D2' F2 p2' w2 ⊢
   left
   obtain ⟨n, hn⟩ : ∃ n, atI [V.int (r.n : Nat), .int s, .int (s + 1), .int 61, .int 0, .int (-1), .int (c + 1), .int 60] g1 = some (.int n) := kq g10 g11 rfl
   refine Yb w2 hn ?_
   cases r with
   | lot n0 =>
    have p3 : H3 p = some (.tup [.str "lot", .int n0]) := p2'
    left
    refine va (fun _ => ?_) (fun h1 => absurd rfl h1)
    left
    intro tq htq
    have D3 := D2'.new (o := .tup [.str "lot", .str "lots"]) htq
    have F3 := F2.new (o := .tup [.str "lot", .str "lots"]) htq
    have w3 : upd H3 tq (.tup [.str "lot", .str "lots"]) tq = some (.tup [.str "lot", .str "lots"]) := ka
    have ntq := (D2'.ne htq).1
    generalize upd H3 tq (.tup [.str "lot", .str "lots"]) = H4 at D3 F3 w3 ⊢
    left
    refine Wa D3 (by omega) (by omega) fun g2 H5 g20 g21 D5 f5 => ?_
    left
    obtain ⟨b, hb⟩ : ∃ b : Bool, atI [V.str "lot", V.str "lots"] (if decide (g2 = 1) = true then 1 else 0) = some (.str (if b = true then "lot" else "lots")) := by
     by_cases z : g2 = 1
     . rw [if_pos (decide_eq_true z)]; exact ⟨false, rfl⟩
     . rw [if_neg (by simpa using z)]; exact ⟨true, rfl⟩
    refine Yb (f5.get w3 ntq) hb ?_
    left
    intro pz hpz
    exact q pz _ (.lt b n) (D5.new hpz) ((F3.trans f5).new hpz) ka
   | vote n0 q0 w0 =>
    have p3 : H3 p = some (.tup [.str "vote", .int n0, .int q0, .str (wdS w0)]) := p2'
    left
    refine va (fun h1 => absurd h1 (by decide)) (fun _ => ?_)
    left
    intro tq htq
    have D3 := D2'.new (o := .tup [.int q0, .int s, .int (s + 1), .int (s / 2), .int 0, .int (s / 2 + 1)]) htq
    have F3 := F2.new (o := .tup [.int q0, .int s, .int (s + 1), .int (s / 2), .int 0, .int (s / 2 + 1)]) htq
    have p4 := Oa (o := .tup [.int q0, .int s, .int (s + 1), .int (s / 2), .int 0, .int (s / 2 + 1)]) (da p3 htq) p3
    have w3 : upd H3 tq (.tup [.int q0, .int s, .int (s + 1), .int (s / 2), .int 0, .int (s / 2 + 1)]) tq = some (.tup [.int q0, .int s, .int (s + 1), .int (s / 2), .int 0, .int (s / 2 + 1)]) := ka
    have ntq := (D2'.ne htq).1
    generalize upd H3 tq (.tup [.int q0, .int s, .int (s + 1), .int (s / 2), .int 0, .int (s / 2 + 1)]) = H4 at D3 F3 w3 p4 ⊢
    left
    refine Wa D3 (by omega) (by omega) fun g2 H5 g20 g21 D5 f5 => ?_
    obtain ⟨m, hm⟩ : ∃ m, atI [V.int q0, .int s, .int (s + 1), .int (s / 2), .int 0, .int (s / 2 + 1)] g2 = some (.int m) := kq g20 g21 rfl
    have p5 := f5.get p4 npd
    left
    refine Yb (f5.get w3 ntq) hm ?_
    left
    intro tr htr
    have D6 := D5.new (o := .tup [.str (wdS w0), .str "council", .str "bench", .str "stay", .str "Bench", .str ""]) htr
    have F6 := (F3.trans f5).new (o := .tup [.str (wdS w0), .str "council", .str "bench", .str "stay", .str "Bench", .str ""]) htr
    have w6 : upd H5 tr (.tup [.str (wdS w0), .str "council", .str "bench", .str "stay", .str "Bench", .str ""]) tr = some (.tup [.str (wdS w0), .str "council", .str "bench", .str "stay", .str "Bench", .str ""]) := ka
    have ntr := (D5.ne htr).1
    generalize upd H5 tr (.tup [.str (wdS w0), .str "council", .str "bench", .str "stay", .str "Bench", .str ""]) = H6 at D6 F6 w6 ⊢
    left
    refine Wa D6 (by omega) (by omega) fun g3 H7 g30 g31 D7 f7 => ?_
    obtain ⟨wd, hwd⟩ : ∃ m, atI [V.str (wdS w0), .str "council", .str "bench", .str "stay", .str "Bench", .str ""] g3 = some (.str m) := Rv g30 g31 rfl
    left
    refine Yb (f7.get w6 ntr) hwd ?_
    left
    intro tu htu
    have D8 := D7.new (o := .tup [.str "vote", .str "votes"]) htu
    have F8 := (F6.trans f7).new (o := .tup [.str "vote", .str "votes"]) htu
    have w8 : upd H7 tu (.tup [.str "vote", .str "votes"]) tu = some (.tup [.str "vote", .str "votes"]) := ka
    have ntu := (D7.ne htu).1
    generalize upd H7 tu (.tup [.str "vote", .str "votes"]) = H8 at D8 F8 w8 ⊢
    left
    refine Wa D8 (by omega) (by omega) fun g4 H9 g40 g41 D9 f9 => ?_
    left
    obtain ⟨b, hb⟩ : ∃ b : Bool, atI [V.str "vote", V.str "votes"] (if decide (g4 = 1) = true then 1 else 0) = some (.str (if b = true then "vote" else "votes")) := by
     by_cases z : g4 = 1
     . rw [if_pos (decide_eq_true z)]; exact ⟨false, rfl⟩
     . rw [if_neg (by simpa using z)]; exact ⟨true, rfl⟩
    refine Yb (f9.get w8 ntu) hb ?_
    left
    intro pz hpz
    exact q pz _ (.vt b n m wd) (D9.new hpz) ((F8.trans f9).new hpz) ka
theorem fj {C_BallotError C_BadCount C_NotWhole C_BadChance C_BadRound : Addr} (T : Txt K mg C_BallotError C_BadCount C_NotWhole C_BadChance C_BadRound) (U : Up K mg "_law_odd_row" Ud ["_law_draw", "_law_count"]) (C_l_take : Pc P w K mg base) (C_l_step : Bf P w K mg base) (C_l_any_step : Ad P w K mg base) : fe P w K mg base := by
 have sc := Wi
 refine Callee.of (k := 3) U sc (fun vs H Q E h => ?_) (fun f cdv A outer s H vs Q E hr h => ?_)
 . obtain ⟨d, l, c, rfl, _⟩ := h; rfl
 . obtain ⟨d, l, c, rfl, D, c1, c2, q⟩ := h
   have hu := hr.units
   conv in (Ba _) => whnf
   with_reducible refine ⟨_, (ba (Ea (i := 2) ‹sc.nd› ‹rfl› ‹Or.inl rfl› (Ma (Ak ‹rfl›) ‹rfl› ‹T.b_max› dq (aa ia (aa (Ma (ae ‹rfl›) ‹rfl› ‹T.b_min› rg (aa (pv 1) (aa ia ja))) ja)))) (ba (Ea (i := 3) ‹sc.nd› ‹rfl› ‹Or.inl rfl› (pv 2)) (ba (Ea (i := 4) ‹sc.nd› ‹rfl› ‹Or.inl rfl› (vb ja)) (ba (Vc PassesOwn.never ‹rfl› (pd ‹rfl› ‹T.b_range› (aa (pe_c ‹C_l_take› ‹hr.mono (by decide)› ‹rfl› (aa (pv 0) (aa ia ja))) ja)) (Qa (i := 5) ‹sc.nd› ‹rfl› ‹Or.inl rfl›) (ba (Ea (i := 6) ‹sc.nd› ‹rfl› ‹Or.inl rfl› (pe_c ‹C_l_step› ‹hr.mono (by decide)› ‹rfl› (aa (pv 0) (aa (pv 2) (aa (pv 3) (aa ia ja)))))) (Vf (Sa (ya (eqK (K := K) ‹rfl› ‹hu›) (pe_c ‹C_l_take› ‹hr.mono (by decide)› ‹rfl› (aa (pv 0) (aa ia ja))) ia ‹za _›) (ma (Ea (i := 6) ‹sc.nd› ‹rfl› ‹Or.inl rfl› (pe_c ‹C_l_any_step› ‹hr.mono (by decide)› ‹rfl› (aa (pv 0) (aa (pv 2) (aa (pv 3) ja)))))) Ca) (ba (Ab (dj ‹PySem.F.plainAttrs_list› ‹PySem.F.slot_list_append› ‹PySem.F.type_list_append› ‹Ub› (pv 4) (aa (pv 6) ja))) (ma (Ea (i := 3) ‹sc.nd› ‹rfl› ‹Or.inl rfl› (Ma (Ak ‹rfl›) ‹rfl› ‹T.b_max› dq (aa ia (aa (Ma (ae ‹rfl›) ‹rfl› ‹T.b_min› rg (aa (Ia (ixK (K := K) ‹rfl›) (pv 6) ia ‹fun _ _ => rfl›) (aa ia ja))) ja))))))))) (ma (xa (pv 4))))))), ?_⟩
   rw [show L2.start ["_law_draw", "_law_count", "_law_seats", "_law_bench", "_law_row", "_law_k", "_law_step_here"] [V.ref d, V.int c] = [some (V.ref d), some (V.int c), none, none, none, none, none] from rfl]
   left
   obtain ⟨s, hs, s1, s2⟩ : ∃ s : Nat, (if (if 500 < c then 500 else c) > 1 then (if 500 < c then 500 else c) else 1) = (s : Int) /\ 1 <= s /\ s <= 500 := ⟨((if (if 500 < c then 500 else c) > 1 then (if 500 < c then 500 else c) else 1)).toNat, by split <;> split <;> omega, by split <;> split <;> omega, by split <;> split <;> omega⟩
   intro a ha
   rw [hs]
   have Da := D.new (o := .lst []) ha
   have na := D.ne ha
   have Fa : Fr1 d H (upd H a (.lst [])) := (Fr1.refl d H).new ha
   have Ta : TsAt onO (upd H a (.lst [])) a [] [] := ⟨ka, fun i p h => by simp at h, rfl⟩
   generalize upd H a (.lst []) = H0 at Da Fa Ta ⊢
   left
   refine Wa Da (by omega) (by omega) fun g1 H1 g10 g11 D1 f1 => ?_
   have T1 := Ta.fr1 (fun q => by cases q <;> exact ⟨_, rfl⟩) Da na.1 f1
   left
   refine forR (fun i σ' H' => ∃ (b : Nat) (ps : List Addr) (os : List On) (x y : Option V), 1 <= b /\ b <= 500 /\ os.length = i /\ TsAt onO H' a ps os /\ DrL H' d l /\ Fr1 d H H' /\ σ' = [some (.ref d), some (.int c), some (.int s), some (.int b), some (.ref a), x, y]) (by omega) (by omega) ⟨s, [], [], none, none, s1, s2, rfl, T1, D1, Fa.trans f1, rfl⟩ ?_ ?_
   . rintro i σ' H' hi ⟨b, ps, os, x, y, b1, b2, ol, T', D', F', rfl⟩
     left
     refine Ri (m := 9) D' b1 b2 s1 s2 (by decide) (by decide) fun p H2 r D2 f2 hp => ?_
     have T2 := T'.fr1 (fun q => by cases q <;> exact ⟨_, rfl⟩) D' na.1 f2
     have F2 := F'.trans f2
     rw [yo] at hp
     left
     refine Ao (fun σ' H' => ∃ (p : Addr) (o : On), H' p = some (onO o) /\ TsAt onO H' a ps os /\ DrL H' d l /\ Fr1 d H H' /\ σ' = [some (.ref d), some (.int c), some (.int s), some (.int b), some (.ref a), some (.int i), some (.ref p)]) ?_ ?_
     . left
       refine Wa D2 (by omega) (by omega) fun g2 H3 g20 g21 D3 f3 => ?_
       have T3 := T2.fr1 (fun q => by cases q <;> exact ⟨_, rfl⟩) D2 na.1 f3
       obtain ⟨xs0, e1, _⟩ := on_n (rnOn r)
       have hp3 := f3.get hp (Ei D2 (by rw [<- e1]; exact hp))
       left
       refine va (fun z => ?_) (fun z => ?_)
       . left
         refine Lq D3 b1 b2 s1 s2 fun p2 H4 o D4 f4 hp4 => ?_
         have T4 := T3.fr1 (fun q => by cases q <;> exact ⟨_, rfl⟩) D3 na.1 f4
         left
         exact ⟨p2, o, hp4, T4, D4, (F2.trans f3).trans f4, rfl⟩
       . left
         exact ⟨p, _, hp3, T3, D3, F2.trans f3, rfl⟩
     . rintro σ' H4 ⟨p2, o, hp4, T4, D4, F4, rfl⟩
       have pl4 := T4.ln
       obtain ⟨xs0, e1, e2⟩ := on_n o
       have npa : p2 ≠ a := by rw [e1] at hp4; exact ag hp4 T4.ls Ef
       left
       refine um T4.ls ?_
       left
       refine Zb T4.ls (by rw [List.length_map, sizeLine_eq]; omega) ?_
       have T5 := T4.push (fun q => by cases q <;> exact ⟨_, rfl⟩) hp4
       have D5 := D4.upd (o := .lst (ps.map V.ref ++ [.ref p2])) na.1 na.2
       have hp5 := Oa (o := .lst (ps.map V.ref ++ [.ref p2])) npa hp4
       have F5 : Fr1 d H (upd H4 a (.lst (ps.map V.ref ++ [.ref p2]))) := fun x u hx nx => by rw [Aa (da hx ha)]; exact F4 x u hx nx
       generalize upd H4 a (.lst (ps.map V.ref ++ [.ref p2])) = H5 at T5 D5 hp5 F5 ⊢
       left
       refine Yb (xs := xs0) (by rw [<- e1]; exact hp5) e2 ?_
       left
       obtain ⟨b', hb', b1', b2'⟩ : ∃ b : Nat, (if (if 60 < o.n then 60 else o.n) > 1 then (if 60 < o.n then 60 else o.n) else 1) = (b : Int) /\ 1 <= b /\ b <= 500 := ⟨((if (if 60 < o.n then 60 else o.n) > 1 then (if 60 < o.n then 60 else o.n) else 1)).toNat, by split <;> split <;> omega, by split <;> split <;> omega, by split <;> split <;> omega⟩
       rw [hb']
       exact ⟨b', ps ++ [p2], os ++ [o], _, _, b1', b2', by rw [List.length_append, ol]; rfl, T5, D5, F5, rfl⟩
   . rintro σ' H' ⟨b, ps, os, x, y, b1, b2, ol, T', D', F', rfl⟩
     left
     exact q a _ ps os T' (by omega) D' F' ha
theorem cp {C_BallotError C_BadCount C_NotWhole C_BadChance C_BadRound : Addr} (T : Txt K mg C_BallotError C_BadCount C_NotWhole C_BadChance C_BadRound) (U : Up K mg "_law_fits" Mh ["_law_count", "_law_bench", "_law_step_here"]) : Ii P w K mg base := by
 have sc := eo
 refine Callee.of (k := 0) U sc (fun vs H Q E h => ?_) (fun f cdv A outer s H vs Q E hr h => ?_)
 . obtain ⟨c, s, p, o, rfl, _⟩ := h; rfl
 . obtain ⟨c, s, p, o, rfl, hp, k⟩ := h
   have hu := hr.units
   conv in (Ba _) => whnf
   with_reducible refine ⟨_, (ba (Sa (ya (eqK (K := K) ‹rfl› ‹hu›) (Ia (ixK (K := K) ‹rfl›) (pv 2) ia ‹fun _ _ => rfl›) Ha ‹za _›) (ma (xa (ej (Xa (leK (K := K) ‹rfl› ‹hu›) ia (Ia (ixK (K := K) ‹rfl›) (pv 2) ia ‹fun _ _ => rfl›) ‹za _›) (ej (Xa (leK (K := K) ‹rfl› ‹hu›) (Ia (ixK (K := K) ‹rfl›) (pv 2) ia ‹fun _ _ => rfl›) ia ‹za _›) (Wf (Xa (leK (K := K) ‹rfl› ‹hu›) (Ia (ixK (K := K) ‹rfl›) (pv 2) ia ‹fun _ _ => rfl›) (pv 1) ‹za _›)))))) Ca) (ba (Sa (PW.pt (Pe (ya (neK (K := K) ‹rfl› ‹hu›) (Ia (ixK (K := K) ‹rfl›) (pv 2) ia ‹fun _ _ => rfl›) Ha ‹za _›) (Pe (ya (ltK (K := K) ‹rfl› ‹hu›) (Ia (ixK (K := K) ‹rfl›) (pv 2) ia ‹fun _ _ => rfl›) ia ‹za _›) (Pe (ya Se (Ia (ixK (K := K) ‹rfl›) (pv 2) ia ‹fun _ _ => rfl›) ia ‹za _›) (Pd (ya Se (Ia (ixK (K := K) ‹rfl›) (pv 2) ia ‹fun _ _ => rfl›) (pv 0) ‹za _›)))))) (ma (xa ai)) Ca) (ba (Sa (PW.pt (Pe (ya Se (Ia (ixK (K := K) ‹rfl›) (pv 2) ia ‹fun _ _ => rfl›) (pv 1) ‹za _›) (Pd (ya (leK (K := K) ‹rfl› ‹hu›) (La wb ia (Ia (ixK (K := K) ‹rfl›) (pv 2) ia ‹fun _ _ => rfl›)) (pv 1) ‹za _›)))) (ma (xa ai)) Ca) (ba (Sa (ya (eqK (K := K) ‹rfl› ‹hu›) (Ia (ixK (K := K) ‹rfl›) (pv 2) ia ‹fun _ _ => rfl›) Ha ‹za _›) (ma (xa (Xa (leK (K := K) ‹rfl› ‹hu›) (Ia (ixK (K := K) ‹rfl›) (pv 2) ia ‹fun _ _ => rfl›) (pv 1) ‹za _›))) Ca) (ma (xa (Ou (Xa (eqK (K := K) ‹rfl› ‹hu›) (Ia (ixK (K := K) ‹rfl›) (pv 2) ia ‹fun _ _ => rfl›) Ha ‹za _›) (Wf (ej (Xa (eqK (K := K) ‹rfl› ‹hu›) (Ia (ixK (K := K) ‹rfl›) (pv 2) ia ‹fun _ _ => rfl›) Ha ‹za _›) (Wf (Xa (eqK (K := K) ‹rfl› ‹hu›) (Ia (ixK (K := K) ‹rfl›) (pv 2) ia ‹fun _ _ => rfl›) (pv 1) ‹za _›))))))))))), ?_⟩
   rw [show L2.start ["_law_count", "_law_bench", "_law_step_here"] [V.int c, V.int s, V.ref p] = [some (V.int c), some (V.int s), some (V.ref p)] from rfl]
   cases o with
   | lt b n =>
    have hp' : H p = some (.tup [.str (if b = true then "lot" else "lots"), .int n]) := hp
    cases b with
    | true =>
     left
     refine va (fun _ => ?_) (fun h1 => absurd rfl h1)
     left
     refine va (fun h1 => ?_) (fun h1 => ?_)
     . left
       refine va (fun h2 => ?_) (fun h2 => ?_)
       . left
         rw [show fitO c s (.lt true n) = decide (n <= s) from decide_eq_decide.mpr ⟨fun z => z.2.2.2, fun z => ⟨h1, h2, rfl, z⟩⟩] at k
         exact k
       . rw [show fitO c s (.lt true n) = false from decide_eq_false fun z => h2 z.2.1] at k
         exact k
     . rw [show fitO c s (.lt true n) = false from decide_eq_false fun z => h1 z.1] at k
       exact k
    | false =>
     left
     refine va (fun h1 => absurd h1 (by decide)) (fun _ => ?_)
     left
     rw [show fitO c s (.lt false n) = false from decide_eq_false fun z => by cases z.2.2.1] at k
     refine Gb (fun _ => ?_) (fun h1 => absurd h1 (by decide))
     left
     exact k
   | vt b n q w =>
    have hp' : H p = some (.tup [.str (if b = true then "vote" else "votes"), .int n, .int q, .str w]) := hp
    cases b with
    | false =>
     left
     refine va (fun h1 => absurd h1 (by decide)) (fun _ => ?_)
     left
     rw [nh (fun z => by cases z.2.2)] at k
     refine Gb (fun _ => ?_) (fun h1 => absurd h1 (by decide))
     left
     exact k
    | true =>
     left
     refine va (fun h1 => absurd h1 (by decide)) (fun _ => ?_)
     left
     refine Gb (fun h1 => absurd rfl h1) (fun _ => ?_)
     left
     refine va (fun h1 => ?_) (fun h1 => ?_)
     . left
       rw [nh (fun z => by have := z.1; omega)] at k
       exact k
     left
     refine va (fun h2 => ?_) (fun h2 => ?_)
     . left
       rw [nh (fun z => by have := z.2.1; omega)] at k
       exact k
     rw [Jp ⟨by omega, by omega⟩] at k
     left
     refine va (fun h3 => ?_) (fun h3 => ?_)
     . left
       rw [show fitV c s n q w = false from decide_eq_false fun z => by have := z.1; omega] at k
       exact k
     left
     refine va (fun h4 => ?_) (fun h4 => ?_)
     . left
       rw [show fitV c s n q w = false from decide_eq_false fun z => by have := z.2.2.1; omega] at k
       exact k
     left
     refine va (fun h5 => ?_) (fun h5 => ?_)
     . left
       rw [show fitV c s n q w = false from decide_eq_false fun z => by have := z.2.1; omega] at k
       exact k
     left
     refine va (fun h6 => ?_) (fun h6 => ?_)
     . left
       rw [Kt h6 (by omega) (by omega) (by omega)] at k
       exact k
     left
     by_cases h7 : w = "stay"
     . rw [Ht h6 h7 (by omega) (by omega) (by omega)] at k
       refine va (fun h8 => absurd (h7.symm.trans h8) (by decide)) (fun _ => ?_)
       left
       refine va (fun _ => ?_) (fun h8 => absurd h7 h8)
       left
       exact k
     . rw [Jt h6 h7 (by omega) (by omega) (by omega)] at k
       refine va (fun h8 => ?_) (fun h8 => ?_)
       . rw [decide_eq_true h8] at k
         exact k
       . rw [decide_eq_false h8] at k
         left
         refine va (fun h9 => absurd h9 h7) (fun _ => ?_)
         exact k
theorem zm {C_BallotError C_BadCount C_NotWhole C_BadChance C_BadRound : Addr} (T : Txt K mg C_BallotError C_BadCount C_NotWhole C_BadChance C_BadRound) (U : Up K mg "_law_fault" Qf ["_law_count", "_law_row"]) (C_l_fits : Ii P w K mg base) : yg P w K mg base := by
 have sc := rm
 refine Callee.of (k := 1) U sc (fun vs H Q E h => ?_) (fun f cdv A outer s H vs Q E hr h => ?_)
 . obtain ⟨c, a, ps, os, rfl, _⟩ := h; rfl
 . obtain ⟨c, a, ps, os, rfl, R, hl, q⟩ := h
   have hu := hr.units
   have pl := R.ln
   have wl := R.ls
   conv in (Ba _) => whnf
   with_reducible refine ⟨_, (ba (Sa (PW.pt (Pe (ya (ltK (K := K) ‹rfl› ‹hu›) (pv 0) ia ‹za _›) (Pd (ya Se (pv 0) ia ‹za _›)))) (ma (xa (Ua (aa Ha (aa ff ja))))) Ca) (ba (Ea (i := 2) ‹sc.nd› ‹rfl› ‹Or.inl rfl› (pv 0)) (ba (Vc PassesOwn.never ‹rfl› (pd ‹rfl› ‹T.b_range› (aa (Ma (lenK (K := K) ‹rfl›) ‹rfl› ‹T.b_len› oh (aa (pv 1) ja)) ja)) (Qa (i := 3) ‹sc.nd› ‹rfl› ‹Or.inl rfl›) (ba (Sa (dh (truK (K := K) ‹rfl› (pe_c ‹C_l_fits› ‹hr.mono (by decide)› ‹rfl› (aa (pv 0) (aa (pv 2) (aa (Ia (ixK (K := K) ‹rfl›) (pv 1) (pv 3) ‹fun _ _ => rfl›) ja)))))) (ma (xa (Ua (aa Ha (aa (pv 3) ja))))) Ca) (ma (Ea (i := 2) ‹sc.nd› ‹rfl› ‹Or.inl rfl› (Ia (ixK (K := K) ‹rfl›) (Ia (ixK (K := K) ‹rfl›) (pv 1) (pv 3) ‹fun _ _ => rfl›) ia ‹fun _ _ => rfl›))))) (ma (xa (Ua (aa Ha (aa (pv 2) ja)))))))), ?_⟩
   rw [show L2.start ["_law_count", "_law_row", "_law_bench", "_law_k"] [V.int c, V.ref a] = [some (V.int c), some (V.ref a), none, none] from rfl]
   left
   refine va (fun h1 => ?_) (fun h1 => ?_)
   . left
     intro p hp
     left
     refine q p _ hp ((Same.refl H).new hp) ?_
     rw [ka]
     unfold jf
     rw [if_pos (by omega)]
   left
   refine va (fun h2 => ?_) (fun h2 => ?_)
   . left
     intro p hp
     left
     refine q p _ hp ((Same.refl H).new hp) ?_
     rw [ka]
     unfold jf
     rw [if_pos (by omega)]
   left
   rw [List.length_map, pl]
   refine forR (fun i σ' H' => ∃ x : Option V, okTo c os i /\ H' = H /\ σ' = [some (.int c), some (.ref a), some (.int (Bb c (os.take i))), x]) (by omega) (by omega) ⟨none, fun j o hj => absurd hj (Nat.not_lt_zero _), rfl, rfl⟩ ?_ ?_
   . rintro i σ' H' hi ⟨x, ok, rfl, rfl⟩
     have hil : i < os.length := by omega
     obtain ⟨p, o, hat, ho, hob⟩ := R.ix hil
     obtain ⟨xs, e1, e2⟩ := on_n o
     left
     refine Fb wl hat ?_
     left
     refine Yk hob ?_
     cases ft : fitO c (Bb c (os.take i)) o with
     | false =>
      left
      intro p2 hp2
      left
      refine q p2 _ hp2 ((Same.refl _).new hp2) ?_
      rw [ka]
      have e := Bi (k := 0) ok ho ft
      rw [Nat.zero_add] at e
      unfold jf
      rw [if_neg (by omega), e]
     | true =>
      left
      refine Fb wl hat ?_
      left
      refine Yb (xs := xs) (by rw [<- e1]; exact hob) e2 ?_
      left
      have en := BR.rb ho
      refine ⟨some (.int i), fun j o' hj hj' => ?_, rfl, ?_⟩
      . by_cases z : j = i
        . subst z
          rw [ho] at hj'
          cases hj'
          exact ft
        . exact ok j o' (by omega) hj'
      . rw [en, Ue]; rfl
   . rintro σ' H' ⟨x, ok, rfl, rfl⟩
     left
     intro p hp
     left
     refine q p _ hp ((Same.refl _).new hp) ?_
     rw [ka]
     have hn := Ci (c := c) (os := os) (s := c) (k := 0) fun j o hj => ok j o (by have := (List.getElem?_eq_some_iff.mp hj).1; omega) hj
     unfold jf
     rw [if_neg (by omega), hn, show (((os.length : Nat) : Int)).toNat = os.length from rfl, List.take_length]
theorem Ig {C_BallotError C_BadCount C_NotWhole C_BadChance C_BadRound : Addr} (T : Txt K mg C_BallotError C_BadCount C_NotWhole C_BadChance C_BadRound) (U : Up K mg "_law_any_count" Jc ["_law_draw"]) (C_l_take : Pc P w K mg base) : Qc P w K mg base := by
 have sc := Dg
 refine Callee.of (k := 1) U sc (fun vs H Q E h => ?_) (fun f cdv A outer s H vs Q E hr h => ?_)
 . obtain ⟨d, l, rfl, _⟩ := h; rfl
 . obtain ⟨d, l, rfl, D, q⟩ := h
   have hu := hr.units
   conv in (Ba _) => whnf
   with_reducible refine ⟨_, (ma (xa (Ia (ixK (K := K) ‹rfl›) (Ua (aa (La (addK (K := K) ‹rfl›) ia (pe_c ‹C_l_take› ‹hr.mono (by decide)› ‹rfl› (aa (pv 0) (aa ia ja)))) (aa (La (addK (K := K) ‹rfl›) ia (pe_c ‹C_l_take› ‹hr.mono (by decide)› ‹rfl› (aa (pv 0) (aa ia ja)))) (aa ia (aa (Qe Bc ia) (aa ia (aa ia (aa ia ja)))))))) (pe_c ‹C_l_take› ‹hr.mono (by decide)› ‹rfl› (aa (pv 0) (aa ia ja))) ‹fun _ _ => rfl›))), ?_⟩
   rw [show L2.start ["_law_draw"] [V.ref d] = [some (V.ref d)] from rfl]
   left
   refine Wa D (by omega) (by omega) fun g1 H1 g10 g11 D1 f1 => ?_
   left
   refine Wa D1 (by omega) (by omega) fun g2 H2 g20 g21 D2 f2 => ?_
   left
   intro tp htp
   have D2' := D2.new (o := .tup [.int (1 + g1), .int (1 + g2), .int 0, .int (-1), .int 500, .int 501, .int 1]) htp
   have F2 := (f1.trans f2).new (o := .tup [.int (1 + g1), .int (1 + g2), .int 0, .int (-1), .int 500, .int 501, .int 1]) htp
   have w2 : upd H2 tp (.tup [.int (1 + g1), .int (1 + g2), .int 0, .int (-1), .int 500, .int 501, .int 1]) tp = some (.tup [.int (1 + g1), .int (1 + g2), .int 0, .int (-1), .int 500, .int 501, .int 1]) := ka
   have ntp := (D2.ne htp).1
   generalize upd H2 tp (.tup [.int (1 + g1), .int (1 + g2), .int 0, .int (-1), .int 500, .int 501, .int 1]) = H2' at D2' F2 w2 ⊢
   left
   refine Wa D2' (by omega) (by omega) fun g3 H3 g30 g31 D3 f3 => ?_
   obtain ⟨g, rfl⟩ : ∃ g : Nat, g3 = g := ⟨g3.toNat, by omega⟩
   obtain ⟨c, hc, c1, c2⟩ : ∃ c : Int, atI [V.int (1 + g1), V.int (1 + g2), V.int 0, V.int (-1), V.int 500, V.int 501, V.int 1] (g : Int) = some (.int c) /\ -1 <= c /\ c <= 501 := by
    match g, g31 with
    | 0, _ => exact ⟨_, rfl, by omega, by omega⟩
    | 1, _ => exact ⟨_, rfl, by omega, by omega⟩
    | 2, _ => exact ⟨0, rfl, by omega, by omega⟩
    | 3, _ => exact ⟨-1, rfl, by omega, by omega⟩
    | 4, _ => exact ⟨500, rfl, by omega, by omega⟩
    | 5, _ => exact ⟨501, rfl, by omega, by omega⟩
    | 6, _ => exact ⟨1, rfl, by omega, by omega⟩
    | g + 7, h => omega
   refine Yb (f3.get w2 ntp) hc ?_
   exact q c _ c1 c2 D3 (F2.trans f3)
theorem gp {C_BallotError C_BadCount C_NotWhole C_BadChance C_BadRound : Addr} (T : Txt K mg C_BallotError C_BadCount C_NotWhole C_BadChance C_BadRound) (U : Up K mg "_law_call" Nh ["_law_way", "_law_count", "_law_friends", "_law_row", "_law_wish"]) (C_roads : Ye P w K mg base C_BadCount C_BadRound C_NotWhole) (C_worths : yf P w K mg base C_BadCount C_BadRound C_NotWhole) (C_friendly_many : Za P w K mg base C_BadCount C_BadRound C_NotWhole) (C_chance : De P w K mg base C_BadCount C_BadRound C_NotWhole) (C_spans : Lk P w K mg base C_BadCount C_BadRound C_NotWhole) (C_settled : wg P w K mg base C_BadCount C_BadRound C_NotWhole) (C_standing : We P w K mg base C_BadCount C_BadRound C_NotWhole) (C_fewest : Ji P w K mg base C_BadChance C_BadCount C_BadRound C_NotWhole) (C_gain : uq P w K mg base C_BadCount C_BadRound C_NotWhole) : Cf P w K mg base C_BadChance C_BadCount C_BadRound C_NotWhole := by
 have sc := fo
 refine Ka.of (k := 11) U sc (fun vs H Q E h => ?_) (fun f cdv A outer s H vs Q E hr h => ?_)
 . obtain ⟨wy, c, f, a, w, ps, os, p, rfl, _⟩ := h; rfl
 . obtain ⟨wy, c, f, a, w, ps, os, p, rfl, C⟩ := h
   have hu := hr.units
   have w0 := C.w0
   have w8 := C.w8
   conv in (Ba _) => whnf
   with_reducible refine ⟨_, (ba (Sa (ya (eqK (K := K) ‹rfl› ‹hu›) (pv 0) ia ‹za _›) (ma (xa (jb ‹C_chance› Na ‹hr.mono (by decide)› ‹rfl› (aa (pv 1) (aa (pv 2) (aa (pv 3) ja)))))) Ca) (ba (Sa (ya (eqK (K := K) ‹rfl› ‹hu›) (pv 0) ia ‹za _›) (ma (xa (jb ‹C_friendly_many› Na ‹hr.mono (by decide)› ‹rfl› (aa (pv 1) (aa (pv 2) (aa (pv 3) ja)))))) Ca) (ba (Sa (ya (eqK (K := K) ‹rfl› ‹hu›) (pv 0) ia ‹za _›) (ma (xa (jb ‹C_roads› Na ‹hr.mono (by decide)› ‹rfl› (aa (pv 1) (aa (pv 2) (aa (pv 3) ja)))))) Ca) (ba (Sa (ya (eqK (K := K) ‹rfl› ‹hu›) (pv 0) ia ‹za _›) (ma (xa (jb ‹C_worths› Na ‹hr.mono (by decide)› ‹rfl› (aa (pv 1) (aa (pv 2) (aa (pv 3) ja)))))) Ca) (ba (Sa (ya (eqK (K := K) ‹rfl› ‹hu›) (pv 0) ia ‹za _›) (ma (xa (jb ‹C_spans› Na ‹hr.mono (by decide)› ‹rfl› (aa (pv 1) (aa (pv 2) (aa (pv 3) ja)))))) Ca) (ba (Sa (ya (eqK (K := K) ‹rfl› ‹hu›) (pv 0) ia ‹za _›) (ma (xa (jb ‹C_settled› Na ‹hr.mono (by decide)› ‹rfl› (aa (pv 1) (aa (pv 2) (aa (pv 3) ja)))))) Ca) (ba (Sa (ya (eqK (K := K) ‹rfl› ‹hu›) (pv 0) ia ‹za _›) (ma (xa (jb ‹C_standing› Na ‹hr.mono (by decide)› ‹rfl› (aa (pv 1) (aa (pv 2) (aa (pv 3) ja)))))) Ca) (ba (Sa (ya (eqK (K := K) ‹rfl› ‹hu›) (pv 0) ia ‹za _›) (ma (xa (jb ‹C_gain› Na ‹hr.mono (by decide)› ‹rfl› (aa (pv 1) (aa (pv 2) (aa (pv 3) ja)))))) Ca) (ma (xa (jb ‹C_fewest› Na ‹hr.mono (by decide)› ‹rfl› (aa (pv 1) (aa (pv 3) (aa (pv 4) ja)))))))))))))), ?_⟩
   rw [show L2.start ["_law_way", "_law_count", "_law_friends", "_law_row", "_law_wish"] [V.int wy, V.int c, V.int f, V.ref a, V.ref w] = [some (V.int wy), some (V.int c), some (V.int f), some (V.ref a), some (V.ref w)] from rfl]
   left
   refine va (fun z => ?_) (fun z0 => ?_)
   . left
     rcases C.F (by omega) with b | ⟨n, m, rs, rfl, rfl, R, hb, q⟩
     . exact Yd b
     . exact Dc (Gj R hb fun _ _ _ s _ => q _ _ s)
   left
   refine va (fun z => ?_) (fun z1 => ?_)
   . left
     rcases C.F (by omega) with b | ⟨n, m, rs, rfl, rfl, R, hb, q⟩
     . exact Yd b
     . exact Dc (Ie R fun _ s => q _ _ s)
   left
   refine va (fun z => ?_) (fun z2 => ?_)
   . left
     rcases C.F (by omega) with b | ⟨n, m, rs, rfl, rfl, R, hb, q⟩
     . exact Yd b
     . exact Dc (me R fun _ _ _ _ s _ _ => q _ _ s)
   left
   refine va (fun z => ?_) (fun z3 => ?_)
   . left
     rcases C.F (by omega) with b | ⟨n, m, rs, rfl, rfl, R, hb, q⟩
     . exact Yd b
     . exact Dc (Sk R fun _ _ _ _ s _ _ => q _ _ s)
   left
   refine va (fun z => ?_) (fun z4 => ?_)
   . left
     rcases C.F (by omega) with b | ⟨n, m, rs, rfl, rfl, R, hb, q⟩
     . exact Yd b
     . exact Dc (kn R fun _ _ _ _ s _ => q _ _ s)
   left
   refine va (fun z => ?_) (fun z5 => ?_)
   . left
     rcases C.F (by omega) with b | ⟨n, m, rs, rfl, rfl, R, hb, q⟩
     . exact Yd b
     . exact Dc (Gq R fun _ _ s _ _ _ => q _ _ s)
   left
   refine va (fun z => ?_) (fun z6 => ?_)
   . left
     rcases C.F (by omega) with b | ⟨n, m, rs, rfl, rfl, R, hb, q⟩
     . exact Yd b
     . exact Dc (gn R hb fun _ s => q _ _ s)
   left
   refine va (fun z => ?_) (fun z7 => ?_)
   . left
     rcases C.G z with b | ⟨n, m, rs, rfl, rfl, R, hw, hf, hb, q⟩
     . exact orG_b b
     . exact orG_g (Iq R hw hf hb fun _ _ _ s _ => q _ _ s)
   left
   rcases C.E8 (by omega) with b | ⟨n, rs, rfl, R, hw, hp, W, hb, q⟩
   . exact orE_b b
   . exact orE_g (km R hw hp W hb fun _ _ s _ _ _ => q _ _ s)
theorem bp {C_BallotError C_BadCount C_NotWhole C_BadChance C_BadRound : Addr} (T : Txt K mg C_BallotError C_BadCount C_NotWhole C_BadChance C_BadRound) (U : Up K mg "_law_said" Lh ["_law_way", "_law_count", "_law_friends", "_law_row", "_law_wish"]) (C_l_call : Cf P w K mg base C_BadChance C_BadCount C_BadRound C_NotWhole) : Hi P w K mg base := by
 have sc := bo
 refine Callee.of (k := 12) U sc (fun vs H Q E h => ?_) (fun f cdv A outer s H vs Q E hr h => ?_)
 . obtain ⟨wy, c, f, a, w, ps, os, p, rfl, _⟩ := h; rfl
 . obtain ⟨wy, c, f, a, w, ps, os, p, rfl, A0, q⟩ := h
   have hu := hr.units
   conv in (Ba _) => whnf
   with_reducible refine ⟨_, (ba (Ea (i := 5) ‹sc.nd› ‹rfl› ‹Or.inl rfl› (Ua (aa Ha (aa ff ja)))) (ba (xt (fun _ _ => (ma (Ab (jb ‹C_l_call› (Xm ⟨rfl, rfl⟩) ‹hr.mono (by decide)› ‹rfl› (aa (pv 0) (aa (pv 1) (aa (pv 2) (aa (pv 3) (aa (pv 4) ja))))))))) (ph_as (i := 6) ‹sc.nd› ‹rfl› ‹rfl› (Po ‹rfl› ‹T.c_BallotError›) (fun _ _ => (ba (Ea (i := 7) ‹sc.nd› ‹rfl› ‹Or.inl rfl› (vb (aa (Ma (isiE (K := K) ‹rfl›) ‹rfl› ‹T.b_isinstance› gb (aa (pv 6) (aa (Il ‹rfl› ‹T.c_BadCount›) ja))) (aa (Ma (isiE (K := K) ‹rfl›) ‹rfl› ‹T.b_isinstance› gb (aa (pv 6) (aa (Il ‹rfl› ‹T.c_BadRound›) ja))) (aa (Ma (isiE (K := K) ‹rfl›) ‹rfl› ‹T.b_isinstance› gb (aa (pv 6) (aa (Il ‹rfl› ‹T.c_NotWhole›) ja))) (aa (Ma (isiE (K := K) ‹rfl›) ‹rfl› ‹T.b_isinstance› gb (aa (pv 6) (aa (Il ‹rfl› ‹T.c_BadChance›) ja))) ja)))))) (ba (Ea (i := 5) ‹sc.nd› ‹rfl› ‹Or.inl rfl› (Ua (aa Ha (aa ff ja)))) (ma (Sa (PW.pt (bj (ya (eqK (K := K) ‹rfl› ‹hu›) (Bt (K := K) ‹rfl› ‹PySem.F.plainAttrs_list› ‹PySem.F.slot_list_count› ‹PySem.F.type_list_count› ‹Gr› (pv 7) (aa ai ja)) ia ‹za _›) (Tf (truK (K := K) ‹rfl› (Ma (isiE (K := K) ‹rfl›) ‹rfl› ‹T.b_isinstance› gb (aa (pv 6) (aa (Zj ‹rfl› ‹T.b_ValueError› Fi (v := .ty "ValueError") ‹rfl›) ja))))))) (ma (Ea (i := 5) ‹sc.nd› ‹rfl› ‹Or.inl rfl› (Ua (aa (Ia (ixK (K := K) ‹rfl›) (Ua (aa Ha (aa Ha (aa Ha (aa Ha ja))))) (Bt (K := K) ‹rfl› ‹PySem.F.plainAttrs_list› ‹PySem.F.slot_list_index› ‹PySem.F.type_list_index› ‹Er› (pv 7) (aa ai ja)) ‹fun _ _ => rfl›) (aa ff ja))))) Ca))))) yt)) (ma (xa (pv 5))))), ?_⟩
   rw [show L2.start ["_law_way", "_law_count", "_law_friends", "_law_row", "_law_wish", "_law_said_here", "e", "_law_kinds"] [V.int wy, V.int c, V.int f, V.ref a, V.ref w] = [some (V.int wy), some (V.int c), some (V.int f), some (V.ref a), some (V.ref w), none, none, none] from rfl]
   left
   intro t0 ht0
   have s0 := (Same.refl H).new (o := .tup [.str "told", .non]) ht0
   have a0 : upd H t0 (.tup [.str "told", .non]) t0 = some (.tup [.str "told", .non]) := ka
   generalize upd H t0 (.tup [.str "told", .non]) = H0 at s0 a0 ⊢
   have A1 := A0.same s0
   left
   refine Ui ⟨A1.row, A1.ln, A1.hp, A1.bg, A1.p2, A1.w0, A1.w8, fun e => ?_, fun k h1 h2 hk => ?_, fun e => ?_, fun e => ?_, fun e => ?_⟩
   . intro H1 ea s1 hea
     refine ⟨ea, rfl, r_as T.x_BadCount_BallotError ?_⟩
     have x0 : upd H1 ea (ErrO ea (.ref C_BadCount)) ea = some (ErrO ea (.ref C_BadCount)) := ka
     have S1 := (s0.tr s1).new (o := ErrO ea (.ref C_BadCount)) hea
     generalize upd H1 ea (ErrO ea (.ref C_BadCount)) = H2 at x0 S1 ⊢
     left
     refine Sb x0 T.e_BadCount ClV.own T.i_BadCount_BadCount ?_
     left
     refine Sb x0 T.e_BadCount ClV.own T.i_BadCount_BadRound ?_
     left
     refine Sb x0 T.e_BadCount ClV.own T.i_BadCount_NotWhole ?_
     left
     refine Sb x0 T.e_BadCount ClV.own T.i_BadCount_BadChance ?_
     left
     intro lk hlk
     have x1 := Oa (o := .lst [.bl true, .bl false, .bl false, .bl false]) (da x0 hlk) x0
     have k1 : upd H2 lk (.lst [.bl true, .bl false, .bl false, .bl false]) lk = some (.lst (([true, false, false, false] : List Bool).map V.bl)) := ka
     have S2 := S1.new (o := .lst [.bl true, .bl false, .bl false, .bl false]) hlk
     generalize upd H2 lk (.lst [.bl true, .bl false, .bl false, .bl false]) = H3 at x1 k1 S2 ⊢
     left
     intro t1 ht1
     have x2 := Oa (o := .tup [.str "else", .non]) (da x1 ht1) x1
     have k2 := Oa (o := .tup [.str "else", .non]) (da k1 ht1) k1
     have S3 := S2.new (o := .tup [.str "else", .non]) ht1
     generalize upd H3 t1 (.tup [.str "else", .non]) = H4 at x2 k2 S3 ⊢
     left
     refine Vh k2 ?_
     left
     refine va (fun _ => ?_) (fun z => absurd rfl z)
     left
     refine Sb x2 T.e_BadCount ClV.blt T.i_BadCount_ValueError ?_
     left
     intro t2 ht2
     have k3 := Oa (o := .tup [.str "count", .str "round", .str "open", .str "wish"]) (da k2 ht2) k2
     have t3 : upd H4 t2 (.tup [.str "count", .str "round", .str "open", .str "wish"]) t2 = some (.tup [.str "count", .str "round", .str "open", .str "wish"]) := ka
     have S4 := S3.new (o := .tup [.str "count", .str "round", .str "open", .str "wish"]) ht2
     generalize upd H4 t2 (.tup [.str "count", .str "round", .str "open", .str "wish"]) = H5 at k3 t3 S4 ⊢
     left
     refine Uh 0 k3 rfl (fun m hm => by (rcases m with _ | _ | _ | m) <;> first | omega | (simp; done)) (by omega) ?_
     left
     intro t4 ht4
     left
     refine q t4 _ (S4.free ht4) (S4.new ht4) ?_
     rw [ka, e]
   . intro H1 ea dx s1 h1' h2' h3
     refine ⟨ea, rfl, r_as T.x_BadRound_BallotError ?_⟩
     have x0 : upd (upd H1 dx (.xd [("at", .int k)])) ea (ErrO ea (.int C_BadRound dx)) ea = some (ErrO ea (.int C_BadRound dx)) := ka
     have S1 := ((s0.tr s1).new (o := .xd [("at", .int k)]) h2').new (o := ErrO ea (.int C_BadRound dx)) (by rw [Aa h3]; exact h1')
     generalize upd (upd H1 dx (.xd [("at", .int k)])) ea (ErrO ea (.int C_BadRound dx)) = H2 at x0 S1 ⊢
     have e : dueS wy c f os p = "round" := by unfold dueS; rw [if_neg (by omega), hk]
     left
     refine aj x0 T.e_BadRound ClV.own T.i_BadRound_BadCount ?_
     left
     refine aj x0 T.e_BadRound ClV.own T.i_BadRound_BadRound ?_
     left
     refine aj x0 T.e_BadRound ClV.own T.i_BadRound_NotWhole ?_
     left
     refine aj x0 T.e_BadRound ClV.own T.i_BadRound_BadChance ?_
     left
     intro lk hlk
     have x1 := Oa (o := .lst [.bl false, .bl true, .bl false, .bl false]) (da x0 hlk) x0
     have k1 : upd H2 lk (.lst [.bl false, .bl true, .bl false, .bl false]) lk = some (.lst (([false, true, false, false] : List Bool).map V.bl)) := ka
     have S2 := S1.new (o := .lst [.bl false, .bl true, .bl false, .bl false]) hlk
     generalize upd H2 lk (.lst [.bl false, .bl true, .bl false, .bl false]) = H3 at x1 k1 S2 ⊢
     left
     intro t1 ht1
     have x2 := Oa (o := .tup [.str "else", .non]) (da x1 ht1) x1
     have k2 := Oa (o := .tup [.str "else", .non]) (da k1 ht1) k1
     have S3 := S2.new (o := .tup [.str "else", .non]) ht1
     generalize upd H3 t1 (.tup [.str "else", .non]) = H4 at x2 k2 S3 ⊢
     left
     refine Vh k2 ?_
     left
     refine va (fun _ => ?_) (fun z => absurd rfl z)
     left
     refine aj x2 T.e_BadRound ClV.blt T.i_BadRound_ValueError ?_
     left
     intro t2 ht2
     have k3 := Oa (o := .tup [.str "count", .str "round", .str "open", .str "wish"]) (da k2 ht2) k2
     have t3 : upd H4 t2 (.tup [.str "count", .str "round", .str "open", .str "wish"]) t2 = some (.tup [.str "count", .str "round", .str "open", .str "wish"]) := ka
     have S4 := S3.new (o := .tup [.str "count", .str "round", .str "open", .str "wish"]) ht2
     generalize upd H4 t2 (.tup [.str "count", .str "round", .str "open", .str "wish"]) = H5 at k3 t3 S4 ⊢
     left
     refine Uh 1 k3 rfl (fun m hm => by (rcases m with _ | _ | _ | m) <;> first | omega | (simp; done)) (by omega) ?_
     left
     intro t4 ht4
     left
     refine q t4 _ (S4.free ht4) (S4.new ht4) ?_
     rw [ka, e]
   . intro H1 ea s1 hea
     refine ⟨ea, rfl, r_as T.x_NotWhole_BallotError ?_⟩
     have x0 : upd H1 ea (ErrO ea (.ref C_NotWhole)) ea = some (ErrO ea (.ref C_NotWhole)) := ka
     have S1 := (s0.tr s1).new (o := ErrO ea (.ref C_NotWhole)) hea
     generalize upd H1 ea (ErrO ea (.ref C_NotWhole)) = H2 at x0 S1 ⊢
     left
     refine Sb x0 T.e_NotWhole ClV.own T.i_NotWhole_BadCount ?_
     left
     refine Sb x0 T.e_NotWhole ClV.own T.i_NotWhole_BadRound ?_
     left
     refine Sb x0 T.e_NotWhole ClV.own T.i_NotWhole_NotWhole ?_
     left
     refine Sb x0 T.e_NotWhole ClV.own T.i_NotWhole_BadChance ?_
     left
     intro lk hlk
     have x1 := Oa (o := .lst [.bl false, .bl false, .bl true, .bl false]) (da x0 hlk) x0
     have k1 : upd H2 lk (.lst [.bl false, .bl false, .bl true, .bl false]) lk = some (.lst (([false, false, true, false] : List Bool).map V.bl)) := ka
     have S2 := S1.new (o := .lst [.bl false, .bl false, .bl true, .bl false]) hlk
     generalize upd H2 lk (.lst [.bl false, .bl false, .bl true, .bl false]) = H3 at x1 k1 S2 ⊢
     left
     intro t1 ht1
     have x2 := Oa (o := .tup [.str "else", .non]) (da x1 ht1) x1
     have k2 := Oa (o := .tup [.str "else", .non]) (da k1 ht1) k1
     have S3 := S2.new (o := .tup [.str "else", .non]) ht1
     generalize upd H3 t1 (.tup [.str "else", .non]) = H4 at x2 k2 S3 ⊢
     left
     refine Vh k2 ?_
     left
     refine va (fun _ => ?_) (fun z => absurd rfl z)
     left
     refine Sb x2 T.e_NotWhole ClV.blt T.i_NotWhole_ValueError ?_
     left
     intro t2 ht2
     have k3 := Oa (o := .tup [.str "count", .str "round", .str "open", .str "wish"]) (da k2 ht2) k2
     have t3 : upd H4 t2 (.tup [.str "count", .str "round", .str "open", .str "wish"]) t2 = some (.tup [.str "count", .str "round", .str "open", .str "wish"]) := ka
     have S4 := S3.new (o := .tup [.str "count", .str "round", .str "open", .str "wish"]) ht2
     generalize upd H4 t2 (.tup [.str "count", .str "round", .str "open", .str "wish"]) = H5 at k3 t3 S4 ⊢
     left
     refine Uh 2 k3 rfl (fun m hm => by (rcases m with _ | _ | _ | m) <;> first | omega | (simp; done)) (by omega) ?_
     left
     intro t4 ht4
     left
     refine q t4 _ (S4.free ht4) (S4.new ht4) ?_
     rw [ka, e]
   . intro H1 ea s1 hea
     refine ⟨ea, rfl, r_as T.x_BadChance_BallotError ?_⟩
     have x0 : upd H1 ea (ErrO ea (.ref C_BadChance)) ea = some (ErrO ea (.ref C_BadChance)) := ka
     have S1 := (s0.tr s1).new (o := ErrO ea (.ref C_BadChance)) hea
     generalize upd H1 ea (ErrO ea (.ref C_BadChance)) = H2 at x0 S1 ⊢
     left
     refine Sb x0 T.e_BadChance ClV.own T.i_BadChance_BadCount ?_
     left
     refine Sb x0 T.e_BadChance ClV.own T.i_BadChance_BadRound ?_
     left
     refine Sb x0 T.e_BadChance ClV.own T.i_BadChance_NotWhole ?_
     left
     refine Sb x0 T.e_BadChance ClV.own T.i_BadChance_BadChance ?_
     left
     intro lk hlk
     have x1 := Oa (o := .lst [.bl false, .bl false, .bl false, .bl true]) (da x0 hlk) x0
     have k1 : upd H2 lk (.lst [.bl false, .bl false, .bl false, .bl true]) lk = some (.lst (([false, false, false, true] : List Bool).map V.bl)) := ka
     have S2 := S1.new (o := .lst [.bl false, .bl false, .bl false, .bl true]) hlk
     generalize upd H2 lk (.lst [.bl false, .bl false, .bl false, .bl true]) = H3 at x1 k1 S2 ⊢
     left
     intro t1 ht1
     have x2 := Oa (o := .tup [.str "else", .non]) (da x1 ht1) x1
     have k2 := Oa (o := .tup [.str "else", .non]) (da k1 ht1) k1
     have S3 := S2.new (o := .tup [.str "else", .non]) ht1
     generalize upd H3 t1 (.tup [.str "else", .non]) = H4 at x2 k2 S3 ⊢
     left
     refine Vh k2 ?_
     left
     refine va (fun _ => ?_) (fun z => absurd rfl z)
     left
     refine Sb x2 T.e_BadChance ClV.blt T.i_BadChance_ValueError ?_
     left
     intro t2 ht2
     have k3 := Oa (o := .tup [.str "count", .str "round", .str "open", .str "wish"]) (da k2 ht2) k2
     have t3 : upd H4 t2 (.tup [.str "count", .str "round", .str "open", .str "wish"]) t2 = some (.tup [.str "count", .str "round", .str "open", .str "wish"]) := ka
     have S4 := S3.new (o := .tup [.str "count", .str "round", .str "open", .str "wish"]) ht2
     generalize upd H4 t2 (.tup [.str "count", .str "round", .str "open", .str "wish"]) = H5 at k3 t3 S4 ⊢
     left
     refine Uh 3 k3 rfl (fun m hm => by (rcases m with _ | _ | _ | m) <;> first | omega | (simp; done)) (by omega) ?_
     left
     intro t4 ht4
     left
     refine q t4 _ (S4.free ht4) (S4.new ht4) ?_
     rw [ka, e]
   . intro v H1 s1
     left
     exact q t0 _ ht0 (s0.tr s1) (by rw [e]; exact s1 _ _ a0)
theorem ym {C_BallotError C_BadCount C_NotWhole C_BadChance C_BadRound : Addr} (T : Txt K mg C_BallotError C_BadCount C_NotWhole C_BadChance C_BadRound) (U : Up K mg "_law_named" Pf ["_law_way", "_law_count", "_law_friends", "_law_row", "_law_wish"]) (C_l_call : Cf P w K mg base C_BadChance C_BadCount C_BadRound C_NotWhole) : xg P w K mg base := by
 have sc := qm
 refine Callee.of (k := 12) U sc (fun vs H Q E h => ?_) (fun f cdv A outer s H vs Q E hr h => ?_)
 . obtain ⟨wy, c, f, a, w, ps, os, p, k, rfl, _⟩ := h; rfl
 . obtain ⟨wy, c, f, a, w, ps, os, p, k, rfl, A0, c1, c2, hk, q⟩ := h
   have hu := hr.units
   conv in (Ba _) => whnf
   with_reducible refine ⟨_, (ba (Ea (i := 5) ‹sc.nd› ‹rfl› ‹Or.inl rfl› ff) (ba (xt (fun _ _ => (ma (Ab (jb ‹C_l_call› (Xm ⟨rfl, rfl⟩) ‹hr.mono (by decide)› ‹rfl› (aa (pv 0) (aa (pv 1) (aa (pv 2) (aa (pv 3) (aa (pv 4) ja))))))))) (ph_as (i := 6) ‹sc.nd› ‹rfl› ‹rfl› (Po ‹rfl› ‹T.c_BadRound›) (fun _ _ => (ma (Ea (i := 5) ‹sc.nd› ‹rfl› ‹Or.inl rfl› (jr (K := K) ‹rfl› (pv 6))))) yt)) (ma (xa (pv 5))))), ?_⟩
   rw [show L2.start ["_law_way", "_law_count", "_law_friends", "_law_row", "_law_wish", "_law_at", "e"] [V.int wy, V.int c, V.int f, V.ref a, V.ref w] = [some (V.int wy), some (V.int c), some (V.int f), some (V.ref a), some (V.ref w), none, none] from rfl]
   have e : dueS wy c f os p = "round" := by unfold dueS; rw [if_neg (by omega), hk]
   left
   refine Ui ⟨A0.row, A0.ln, A0.hp, A0.bg, A0.p2, A0.w0, A0.w8, fun e' => ?_, fun k' _ _ hk' => ?_, fun e' => ?_, fun e' => ?_, fun e' => ?_⟩
   . rw [e] at e'; exact absurd e' (by decide)
   . rw [hk] at hk'
     cases hk'
     intro H1 ea dx s1 h1 h2 h3
     refine ⟨ea, rfl, r_as T.x_BadRound_BadRound ?_⟩
     have y0 : upd (upd H1 dx (.xd [("at", .int k)])) ea (ErrO ea (.int C_BadRound dx)) dx = some (.xd [("at", .int k)]) := by rw [Aa h3.symm]; exact ka
     have x0 : upd (upd H1 dx (.xd [("at", .int k)])) ea (ErrO ea (.int C_BadRound dx)) ea = some (ErrO ea (.int C_BadRound dx)) := ka
     have S0 := (s1.new (o := .xd [("at", .int k)]) h2).new (o := ErrO ea (.int C_BadRound dx)) (by rw [Aa h3]; exact h1)
     generalize upd (upd H1 dx (.xd [("at", .int k)])) ea (ErrO ea (.int C_BadRound dx)) = H2 at S0 y0 x0 ⊢
     left
     refine ⟨ea, C_BadRound, dx, _, k, rfl, x0, y0, rfl, T.e_BadRound, T.f_BadRound, T.d_BadRound, ?_⟩
     left
     exact q _ S0
   . rw [e] at e'; exact absurd e' (by decide)
   . rw [e] at e'; exact absurd e' (by decide)
   . rw [e] at e'; exact absurd e' (by decide)
theorem Ar {C_BallotError C_BadCount C_NotWhole C_BadChance C_BadRound : Addr} (T : Txt K mg C_BallotError C_BadCount C_NotWhole C_BadChance C_BadRound) (U : Up K mg "_law_due" Tj ["_law_way", "_law_count", "_law_friends", "_law_row", "_law_wish"]) (C_l_fault : yg P w K mg base) : Pk P w K mg base := by
 have sc := Sq
 refine Callee.of (k := 2) U sc (fun vs H Q E h => ?_) (fun f cdv A outer s H vs Q E hr h => ?_)
 . obtain ⟨wy, c, f, a, w, ps, os, p, rfl, _⟩ := h; rfl
 . obtain ⟨wy, c, f, a, w, ps, os, p, rfl, A0, q⟩ := h
   have hu := hr.units
   conv in (Ba _) => whnf
   with_reducible refine ⟨_, (ba (Qd (pe_c ‹C_l_fault› ‹hr.mono (by decide)› ‹rfl› (aa (pv 1) (aa (pv 3) ja))) (Og (K := K) (n := 2) ‹rfl› ‹rfl› (Va (Qa (i := 5) ‹sc.nd› ‹rfl› ‹Or.inl rfl›) (Va (Qa (i := 6) ‹sc.nd› ‹rfl› ‹Or.inl rfl›) vc)))) (ba (Sa (ya (neK (K := K) ‹rfl› ‹hu›) (pv 5) Ha ‹za _›) (ma (xa (Ua (aa (pv 5) (aa (pv 6) ja))))) Ca) (ba (Sa (ya (neK (K := K) ‹rfl› ‹hu›) (pv 6) ia ‹za _›) (ma (xa (Ua (aa Ha (aa ff ja))))) Ca) (ba (Sa (ya (ltK (K := K) ‹rfl› ‹hu›) (pv 0) ia ‹za _›) (ba (Ea (i := 7) ‹sc.nd› ‹rfl› ‹Or.inl rfl› (La Ec (pv 1) (Cc ng ‹rfl› ‹T.b_int› ph (aa (Xa (eqK (K := K) ‹rfl› ‹hu›) (pv 0) ia ‹za _›) ja)))) (ma (xa (Ua (aa (Ia (ixK (K := K) ‹rfl›) (Ua (aa Ha (aa Ha ja))) (Cc ng ‹rfl› ‹T.b_int› ph (aa (Ou (Xa (ltK (K := K) ‹rfl› ‹hu›) (pv 2) ia ‹za _›) (Wf (Xa Se (pv 2) (pv 7) ‹za _›))) ja)) ‹fun _ _ => rfl›) (aa ff ja)))))) Ca) (ma (xa (Ua (aa (Ia (ixK (K := K) ‹rfl›) (Ua (aa Ha (aa Ha ja))) (Cc ng ‹rfl› ‹T.b_int› ph (aa (Ou (Xa (ltK (K := K) ‹rfl› ‹hu›) (Ia (ixK (K := K) ‹rfl›) (pv 4) ia ‹fun _ _ => rfl›) ia ‹za _›) (Wf (Xa Se (Ia (ixK (K := K) ‹rfl›) (pv 4) ia ‹fun _ _ => rfl›) (Ia (ixK (K := K) ‹rfl›) (pv 4) ia ‹fun _ _ => rfl›) ‹za _›))) ja)) ‹fun _ _ => rfl›) (aa ff ja))))))))), ?_⟩
   rw [show L2.start ["_law_way", "_law_count", "_law_friends", "_law_row", "_law_wish", "_law_fault_here", "_law_at", "_law_most"] [V.int wy, V.int c, V.int f, V.ref a, V.ref w] = [some (V.int wy), some (V.int c), some (V.int f), some (V.ref a), some (V.ref w), none, none, none] from rfl]
   have ln := A0.ln
   left
   refine Ln A0.row (by omega) fun tf H1 htf s1 w1 => ?_
   have hp1 : H1 w = some (.tup [.int p.1, .int p.2]) := s1 _ _ A0.hp
   by_cases hc : c < 1 \/ 500 < c
   . have et : jf c os = [.str "count", .non] := by unfold jf; rw [if_pos hc]
     rw [et] at w1
     left
     refine Gb (fun _ => ?_) (fun z => absurd z (by decide))
     left
     intro t ht
     exact q t _ (s1.free ht) (s1.new ht) (by rw [ka]; unfold dueS dueA; rw [if_pos hc, if_pos hc])
   . cases fl : fltA c c 0 os with
     | some k =>
      have et : jf c os = [.str "round", .int k] := by unfold jf; rw [if_neg hc, fl]
      rw [et] at w1
      left
      refine Gb (fun _ => ?_) (fun z => absurd z (by decide))
      left
      intro t ht
      exact q t _ (s1.free ht) (s1.new ht) (by rw [ka]; unfold dueS dueA; rw [if_neg hc, if_neg hc, fl])
     | none =>
      have et : jf c os = [.str "", .int (Bb c os)] := by unfold jf; rw [if_neg hc, fl]
      rw [et] at w1
      have ed := ig (wy := wy) (f := f) (p := p) (by omega) (by omega) fl
      have ea : dueA c os = .non := by unfold dueA; rw [if_neg hc, fl]
      rw [ea] at q
      left
      refine Gb (fun z => absurd rfl z) (fun _ => ?_)
      left
      refine Gb (fun z => ?_) (fun z => ?_)
      . rw [if_neg z] at ed
        left
        intro t ht
        exact q t _ (s1.free ht) (s1.new ht) (by rw [ka, ed])
      . rw [if_pos z] at ed
        unfold dueT at ed
        left
        refine va (fun z8 => ?_) (fun z8 => ?_)
        . rw [if_pos z8] at ed
          left
          intro tt htt
          have t1 : upd H1 tt (.tup [.str "told", .str "count"]) tt = some (.tup [.str "told", .str "count"]) := ka
          have S1 := s1.new (o := .tup [.str "told", .str "count"]) htt
          have hp2 := Oa (o := .tup [.str "told", .str "count"]) (da hp1 htt) hp1
          generalize upd H1 tt (.tup [.str "told", .str "count"]) = H2 at t1 S1 hp2 ⊢
          left
          refine va (fun y1 => ?_) (fun y1 => ?_)
          . rw [if_pos (.inl y1)] at ed
            left
            intro t ht
            exact q t _ (S1.free ht) (S1.new ht) (by rw [ka, ed])
          . left
            rw [show (if decide (wy = 7) = true then (1 : Int) else 0) = if wy = 7 then 1 else 0 by by_cases z : wy = 7 <;> simp [z]]
            by_cases y2 : c - (if wy = 7 then 1 else 0) < f
            . rw [if_pos (.inr y2)] at ed
              rw [decide_eq_true y2]
              left
              intro t ht
              exact q t _ (S1.free ht) (S1.new ht) (by rw [ka, ed])
            . rw [if_neg (by omega)] at ed
              rw [decide_eq_false y2]
              left
              intro t ht
              exact q t _ (S1.free ht) (S1.new ht) (by rw [ka, ed])
        . rw [if_neg z8] at ed
          left
          intro tt htt
          have t1 : upd H1 tt (.tup [.str "told", .str "wish"]) tt = some (.tup [.str "told", .str "wish"]) := ka
          have S1 := s1.new (o := .tup [.str "told", .str "wish"]) htt
          have hp2 := Oa (o := .tup [.str "told", .str "wish"]) (da hp1 htt) hp1
          generalize upd H1 tt (.tup [.str "told", .str "wish"]) = H2 at t1 S1 hp2 ⊢
          left
          refine va (fun y1 => ?_) (fun y1 => ?_)
          . rw [if_pos (.inl y1)] at ed
            left
            intro t ht
            exact q t _ (S1.free ht) (S1.new ht) (by rw [ka, ed])
          . left
            by_cases y2 : p.2 < p.1
            . rw [if_pos (.inr y2)] at ed
              rw [decide_eq_true y2]
              left
              intro t ht
              exact q t _ (S1.free ht) (S1.new ht) (by rw [ka, ed])
            . rw [if_neg (by omega)] at ed
              rw [decide_eq_false y2]
              left
              intro t ht
              exact q t _ (S1.free ht) (S1.new ht) (by rw [ka, ed])
theorem ok_law {C_BallotError C_BadCount C_NotWhole C_BadChance C_BadRound : Addr} (T : Txt K mg C_BallotError C_BadCount C_NotWhole C_BadChance C_BadRound) {f : Addr} {fd : FuncData} (U : Fun K "law" "law" Uq f fd) (C_l_begin : zg P w K mg base) (C_l_take : Pc P w K mg base) (C_l_int : Nk P w K mg base) (C_l_odd_row : fe P w K mg base) (C_l_any_count : Qc P w K mg base) (C_l_said : Hi P w K mg base) (C_l_named : xg P w K mg base) (C_l_due : Pk P w K mg base) : FnOk P w K mg base CX0 14 f fd ["_law_script"] (Jn K) := by
 have sc := sc_law
 refine U.ok (k := 13) sc (fun vs H Q E h => ?_) (fun cdv A outer s H vs Q E hr h => ?_)
 . exact Gn h
 . obtain ⟨a, ns, rfl, hS, hn, q⟩ := h
   have hu := hr.units
   conv in (Ba _) => whnf
   with_reducible refine ⟨_, (ba (Ea (i := 1) ‹sc.nd› ‹rfl› ‹Or.inl rfl› (pe_c ‹C_l_begin› ‹hr.mono (by decide)› ‹rfl› (aa (pv 0) ja))) (ba (Ea (i := 2) ‹sc.nd› ‹rfl› ‹Or.inl rfl› (pe_c ‹C_l_any_count› ‹hr.mono (by decide)› ‹rfl› (aa (pv 1) ja))) (ba (Ea (i := 3) ‹sc.nd› ‹rfl› ‹Or.inl rfl› (pe_c ‹C_l_odd_row› ‹hr.mono (by decide)› ‹rfl› (aa (pv 1) (aa (pv 2) ja)))) (Vf (Sa (ya Se (pe_c ‹C_l_take› ‹hr.mono (by decide)› ‹rfl› (aa (pv 1) (aa ia ja))) ia ‹za _›) (ma (Ea (i := 3) ‹sc.nd› ‹rfl› ‹Or.inl rfl› (La (addK (K := K) ‹rfl›) (pv 3) (vb (aa (Ua (aa Ha (aa ia ja))) ja))))) Ca) (ba (Ea (i := 4) ‹sc.nd› ‹rfl› ‹Or.inl rfl› (La Ec (pe_c ‹C_l_take› ‹hr.mono (by decide)› ‹rfl› (aa (pv 1) (aa (La (addK (K := K) ‹rfl›) (Ma (Ak ‹rfl›) ‹rfl› ‹T.b_max› dq (aa ia (aa (pv 2) ja))) ia) ja))) ia)) (ba (Ea (i := 5) ‹sc.nd› ‹rfl› ‹Or.inl rfl› (Ia (ixK (K := K) ‹rfl›) (Ua (aa (Ua (aa ia (aa ia ja))) (aa (Ua (aa ia (aa ia ja))) (aa (Ua (aa (Qe Bc ia) (aa ia ja))) (aa (Ua (aa ia (aa ia ja))) (aa (Ua (aa ia (aa ia ja))) ja)))))) (pe_c ‹C_l_take› ‹hr.mono (by decide)› ‹rfl› (aa (pv 1) (aa ia ja))) ‹fun _ _ => rfl›)) (ba (Ea (i := 6) ‹sc.nd› ‹rfl› ‹Or.inl rfl› (pe_c ‹C_l_take› ‹hr.mono (by decide)› ‹rfl› (aa (pv 1) (aa ia ja)))) (ba (Qd (pe_c ‹C_l_due› ‹hr.mono (by decide)› ‹rfl› (aa (pv 6) (aa (pv 2) (aa (pv 4) (aa (pv 3) (aa (pv 5) ja)))))) (Og (K := K) (n := 2) ‹rfl› ‹rfl› (Va (Qa (i := 7) ‹sc.nd› ‹rfl› ‹Or.inl rfl›) (Va (Qa (i := 8) ‹sc.nd› ‹rfl› ‹Or.inl rfl›) vc)))) (ba (Sa (ya (neK (K := K) ‹rfl› ‹hu›) (Ia (ixK (K := K) ‹rfl›) (pe_c ‹C_l_said› ‹hr.mono (by decide)› ‹rfl› (aa (pv 6) (aa (pv 2) (aa (pv 4) (aa (pv 3) (aa (pv 5) ja)))))) ia ‹fun _ _ => rfl›) (pv 7) ‹za _›) (ma (xa ai)) Ca) (ba (Sa (ya (neK (K := K) ‹rfl› ‹hu›) (pv 7) Ha ‹za _›) (ma (xa ai)) Ca) (ba (Ea (i := 9) ‹sc.nd› ‹rfl› ‹Or.inl rfl› (pe_c ‹C_l_named› ‹hr.mono (by decide)› ‹rfl› (aa (pv 6) (aa (pv 2) (aa (pv 4) (aa (pv 3) (aa (pv 5) ja))))))) (ma (xa (ej (pe_c ‹C_l_int› ‹hr.mono (by decide)› ‹rfl› (aa (pv 9) ja)) (Wf (Xa (eqK (K := K) ‹rfl› ‹hu›) (pv 9) (pv 8) ‹za _›)))))))))))))))), ?_⟩
   rw [show L2.start ["_law_script", "_law_draw", "_law_count", "_law_row", "_law_friends", "_law_wish", "_law_way", "_law_fault_here", "_law_at", "_law_found"] [V.ref a] = [some (V.ref a), none, none, none, none, none, none, none, none, none] from rfl]
   left
   refine Sn hS fun d l H1 hd hl D1 s1 => ?_
   left
   refine Mq D1 fun c H2 c1 c2 D2 f2 => ?_
   left
   refine Hq D2 c1 c2 fun b H3 ps os R3 ol D3 f3 hb => ?_
   have nb : b ≠ d := (D2.ne hb).1
   have pl := R3.ln
   left
   have hob : ∀ q : On, ∃ xs, onO q = .tup xs := fun q => by cases q <;> exact ⟨_, rfl⟩
   refine Ao (fun σ' H' => ∃ (b : Addr) (ps : List Addr) (os : List On), TsAt onO H' b ps os /\ os.length <= 6 /\ DrL H' d l /\ b ≠ d /\ σ' = [some (.ref a), some (.ref d), some (.int c), some (.ref b), none, none, none, none, none, none]) ?_ ?_
   . left
     refine Wa D3 (by omega) (by omega) fun g1 H4 g10 g11 D4 f4 => ?_
     have R4 := R3.fr1 hob D3 nb f4
     left
     refine va (fun z => ?_) (fun z => ?_)
     . left
       intro tp htp
       have s5 := (Same.refl H4).new (o := .tup [.str "lot", .int 1]) htp
       have t5 : upd H4 tp (.tup [.str "lot", .int 1]) tp = some (onO (.lt true 1)) := ka
       generalize upd H4 tp (.tup [.str "lot", .int 1]) = H5 at s5 t5 ⊢
       left
       intro ls hls
       have s6 := (Same.refl H5).new (o := .lst [.ref tp]) hls
       have G6 : TsAt onO (upd H5 ls (.lst [.ref tp])) ls [tp] [.lt true 1] := ⟨ka, fun i p h => by
        match i, h with
        | 0, h =>
         have : tp = p := by simpa using h
         subst this
         exact ⟨_, rfl, s6 _ _ t5⟩
        | i + 1, h => simp at h, rfl⟩
       generalize upd H5 ls (.lst [.ref tp]) = H6 at s6 G6 ⊢
       have S6 := s5.tr s6
       left
       refine Sf (R4.same S6).ls G6.ls (by rw [List.length_map, List.length_map, sizeLine_eq]; simp; omega) fun p hp => ?_
       have G7 := (R4.same S6).cat G6 hp
       have D7 := (D4.same S6).new (o := .lst (ps.map V.ref ++ [tp].map V.ref)) hp
       have np : p ≠ d := ((D4.same S6).ne hp).1
       left
       exact ⟨p, _, _, G7, by rw [List.length_append]; simp; omega, D7, np, rfl⟩
     . left
       exact ⟨b, ps, os, R4, by omega, D4, nb, rfl⟩
   . rintro σ' H4 ⟨b, ps, os, R4, ol, D4, nb, rfl⟩
     left
     refine Wa D4 (by split <;> omega) (by split <;> omega) fun g2 H5 g20 g21 D5 f5 => ?_
     have R5 := R4.fr1 hob D4 nb f5
     left
     intro p0 hp0
     have s0 := (Same.refl H5).new (o := .tup [.int 0, .int 1]) hp0
     have a0 : upd H5 p0 (.tup [.int 0, .int 1]) p0 = some (.tup [.int 0, .int 1]) := ka
     generalize upd H5 p0 (.tup [.int 0, .int 1]) = J0 at s0 a0 ⊢
     left
     intro p1 hp1
     have s1 := (Same.refl J0).new (o := .tup [.int 1, .int 1]) hp1
     have a1 : upd J0 p1 (.tup [.int 1, .int 1]) p1 = some (.tup [.int 1, .int 1]) := ka
     generalize upd J0 p1 (.tup [.int 1, .int 1]) = J1 at s1 a1 ⊢
     left
     intro p2 hp2
     have s2 := (Same.refl J1).new (o := .tup [.int (-1), .int 3]) hp2
     have a2 : upd J1 p2 (.tup [.int (-1), .int 3]) p2 = some (.tup [.int (-1), .int 3]) := ka
     generalize upd J1 p2 (.tup [.int (-1), .int 3]) = J2 at s2 a2 ⊢
     left
     intro p3 hp3
     have s3 := (Same.refl J2).new (o := .tup [.int 4, .int 3]) hp3
     have a3 : upd J2 p3 (.tup [.int 4, .int 3]) p3 = some (.tup [.int 4, .int 3]) := ka
     generalize upd J2 p3 (.tup [.int 4, .int 3]) = J3 at s3 a3 ⊢
     left
     intro p4 hp4
     have s4 := (Same.refl J3).new (o := .tup [.int 1, .int 2]) hp4
     have a4 : upd J3 p4 (.tup [.int 1, .int 2]) p4 = some (.tup [.int 1, .int 2]) := ka
     generalize upd J3 p4 (.tup [.int 1, .int 2]) = J4 at s4 a4 ⊢
     left
     intro pT hpT
     have S6 := ((((s0.tr s1).tr s2).tr s3).tr s4).new (o := .tup [.ref p0, .ref p1, .ref p2, .ref p3, .ref p4]) hpT
     have aT : upd J4 pT (.tup [.ref p0, .ref p1, .ref p2, .ref p3, .ref p4]) pT = some (.tup [.ref p0, .ref p1, .ref p2, .ref p3, .ref p4]) := ka
     have sT := (Same.refl J4).new (o := .tup [.ref p0, .ref p1, .ref p2, .ref p3, .ref p4]) hpT
     have b0 := sT _ _ (s4 _ _ (s3 _ _ (s2 _ _ (s1 _ _ a0))))
     have b1 := sT _ _ (s4 _ _ (s3 _ _ (s2 _ _ a1)))
     have b2 := sT _ _ (s4 _ _ (s3 _ _ a2))
     have b3 := sT _ _ (s4 _ _ a3)
     have b4 := sT _ _ a4
     generalize upd J4 pT (.tup [.ref p0, .ref p1, .ref p2, .ref p3, .ref p4]) = J5 at S6 aT sT b0 b1 b2 b3 b4 ⊢
     have D6 := D5.same S6
     have R6 := R5.same S6
     left
     refine Wa D6 (by omega) (by omega) fun g3 H7 g30 g31 D7 f7 => ?_
     have R7 := R6.fr1 hob D6 nb f7
     have aT7 := f7.get aT (Ei D6 aT)
     obtain ⟨w, p, ew, hw, bg, pp⟩ : ∃ (w : Addr) (p : Int × Int), atI [V.ref p0, V.ref p1, V.ref p2, V.ref p3, V.ref p4] g3 = some (.ref w) /\ H7 w = some (tupF p) /\ Big p /\ 0 < p.2 := by
      have : g3 = 0 \/ g3 = 1 \/ g3 = 2 \/ g3 = 3 \/ g3 = 4 := by omega
      rcases this with rfl | rfl | rfl | rfl | rfl
      . exact ⟨p0, (0, 1), Oc (j := 0) rfl, f7.get b0 (Ei D6 b0), vd (by decide) (by decide), by decide⟩
      . exact ⟨p1, (1, 1), Oc (j := 1) rfl, f7.get b1 (Ei D6 b1), vd (by decide) (by decide), by decide⟩
      . exact ⟨p2, ((-1), 3), Oc (j := 2) rfl, f7.get b2 (Ei D6 b2), vd (by decide) (by decide), by decide⟩
      . exact ⟨p3, (4, 3), Oc (j := 3) rfl, f7.get b3 (Ei D6 b3), vd (by decide) (by decide), by decide⟩
      . exact ⟨p4, (1, 2), Oc (j := 4) rfl, f7.get b4 (Ei D6 b4), vd (by decide) (by decide), by decide⟩
     left
     refine Yb aT7 ew ?_
     left
     refine Wa D7 (by omega) (by omega) fun g4 H8 g40 g41 D8 f8 => ?_
     have R8 := R7.fr1 hob D7 nb f8
     have A8 : Ask g4 b w ps os p H8 := ⟨R8, ol, f8.get hw (Ei D7 hw), bg, pp, g40, by omega⟩
     left
     refine Kq A8 fun t1 H9 ht1 s9 h9 => ?_
     left
     refine vn (A8.same s9) fun t2 H10 ht2 s10 h10 => ?_
     left
     refine Gb (fun z => absurd rfl z) (fun _ => ?_)
     left
     refine Gb (fun z => ?_) (fun z => ?_)
     . left
       exact q _
     . obtain ⟨k1, k2, k, hk, ek⟩ := Mp z
       left
       refine jm (A8.same (s9.tr s10)) k1 k2 hk fun H11 s11 => ?_
       rw [ek]
       left
       refine au ?_
       left
       rw [decide_eq_true rfl]
       exact q _
inductive Dn (K : PySem.W.Frag) (x : Str) (st : Stmt) : Prop
 | mk {f : Addr} {od an : Option Addr} {sl : Array (Option Value)} {oc kV dc pm cd ct : Value} (a : PySem.W.nsIn K mainGlobals x = some (some (.ref f))) (l : K.lookup f = some ⟨oc, od, .func (PySem.W.fnOf x x (Nc st) (Ba st) (ua st) .none kV dc pm an cd ct), sl⟩) (c : PySem.W.codeIn K cd x = true) (k : PySem.W.keepIn K (.ref f) = true) : Dn K x st
theorem Dn.up {h : Heap} {x : Str} {st : Stmt} (D : Dn K x st) (X : K.In h) (G : h.Ns mainGlobals mg) {ps : List Str} (b : ∀ (kV doc pm : Value) (an : Option Addr) (cdv ct : Value) (us : List Value), us.length = ps.length -> bindArgs (PySem.W.fnOf x x (Nc st) (Ba st) (ua st) .none kV doc pm an cdv ct) ⟨us, []⟩ = pure (ps.zip us)) : Up K mg x st ps := by
 cases D with
 | mk a l c k => exact up_mk X G a l c k b
theorem all_mk {l : PySem.W.OpenLaw} {w : World} {K : PySem.W.Frag} {h : Heap} {mg : Str -> Option Value} {fa : Addr} (X : K.In h) (G : h.Ns mainGlobals mg) (hfa : mg "law" = some (.ref fa))
 (D0 : Dn K "ways" qo)
 (D1 : Dn K "fits_vote" Vd)
 (D2 : Dn K "fits" xo)
 (D3 : Dn K "sizes" Qj)
 (D4 : Dn K "sizes_ahead" Hc)
 (D5 : Dn K "whole" Oj)
 (D6 : Dn K "need_whole" Yc)
 (D7 : Dn K "need_friends" nc)
 (D8 : Dn K "round_draws" Ic)
 (D9 : Dn K "draws_row" Xd)
 (D10 : Dn K "draws" Uj)
 (D11 : Dn K "draws_behind" qc)
 (D12 : Dn K "ways_up_to" Xc)
 (D13 : Dn K "behind_lot" md)
 (D14 : Dn K "side" uo)
 (D15 : Dn K "seated" Hh)
 (D16 : Dn K "all_lead_to" Lc)
 (D17 : Dn K "behind" Qh)
 (D18 : Dn K "common_part" Kc)
 (D19 : Dn K "lowest" Ih)
 (D20 : Dn K "less" vo)
 (D21 : Dn K "roads_on" Le)
 (D22 : Dn K "roads" Rj)
 (D23 : Dn K "worths_ahead" kc)
 (D24 : Dn K "worths" Gh)
 (D25 : Dn K "friendly_many" Rb)
 (D26 : Dn K "chance" Ph)
 (D27 : Dn K "span" so)
 (D28 : Dn K "spans" Pj)
 (D29 : Dn K "is_settled" jd)
 (D30 : Dn K "settled" Of)
 (D31 : Dn K "standing" Ke)
 (D32 : Dn K "fewest" Oh)
 (D33 : Dn K "gain" wo)
 (D34 : Dn K "_law_begin" Rf)
 (D35 : Dn K "_law_take" Jh)
 (D36 : Dn K "_law_int" Sj)
 (D37 : Dn K "_law_step" Kh)
 (D38 : Dn K "_law_any_step" Zc)
 (D39 : Dn K "_law_odd_row" Ud)
 (D40 : Dn K "_law_fits" Mh)
 (D41 : Dn K "_law_fault" Qf)
 (D42 : Dn K "_law_any_count" Jc)
 (D43 : Dn K "_law_call" Nh)
 (D44 : Dn K "_law_said" Lh)
 (D45 : Dn K "_law_named" Pf)
 (D46 : Dn K "_law_due" Tj)
 (D47 : Dn K "law" Uq)
 (z_ValueError : PySem.W.nsIn K mainGlobals "ValueError" = some none)
 (z_abs : PySem.W.nsIn K mainGlobals "abs" = some none)
 (z_all : PySem.W.nsIn K mainGlobals "all" = some none)
 (z_bool : PySem.W.nsIn K mainGlobals "bool" = some none)
 (z_enumerate : PySem.W.nsIn K mainGlobals "enumerate" = some none)
 (z_int : PySem.W.nsIn K mainGlobals "int" = some none)
 (z_isinstance : PySem.W.nsIn K mainGlobals "isinstance" = some none)
 (z_len : PySem.W.nsIn K mainGlobals "len" = some none)
 (z_list : PySem.W.nsIn K mainGlobals "list" = some none)
 (z_max : PySem.W.nsIn K mainGlobals "max" = some none)
 (z_min : PySem.W.nsIn K mainGlobals "min" = some none)
 (z_range : PySem.W.nsIn K mainGlobals "range" = some none)
 (z_sum : PySem.W.nsIn K mainGlobals "sum" = some none)
 (z_zip : PySem.W.nsIn K mainGlobals "zip" = some none)
 {t_MOST_PEOPLE : Tok} (m_MOST_PEOPLE : PySem.W.nsIn K mainGlobals "MOST_PEOPLE" = some (some (.int 500 t_MOST_PEOPLE)))
 {t_MOST_SEATS : Tok} (m_MOST_SEATS : PySem.W.nsIn K mainGlobals "MOST_SEATS" = some (some (.int 60 t_MOST_SEATS)))
 {A_ALL : Addr} {t_ALL_0 t_ALL_1 : Tok} {od_ALL : Option Addr} {nn_ALL : Nat} {sl_ALL : Array (Option Value)} (m_ALL : PySem.W.nsIn K mainGlobals "ALL" = some (some (.ref A_ALL))) (n_ALL : K.lookup A_ALL = some ⟨.type "tuple", od_ALL, .seq ⟨[.int 1 t_ALL_0, .int 1 t_ALL_1]⟩ nn_ALL, sl_ALL⟩)
 {A_NONE : Addr} {t_NONE_0 t_NONE_1 : Tok} {od_NONE : Option Addr} {nn_NONE : Nat} {sl_NONE : Array (Option Value)} (m_NONE : PySem.W.nsIn K mainGlobals "NONE" = some (some (.ref A_NONE))) (n_NONE : K.lookup A_NONE = some ⟨.type "tuple", od_NONE, .seq ⟨[.int 0 t_NONE_0, .int 1 t_NONE_1]⟩ nn_NONE, sl_NONE⟩)
 {C_BallotError : Addr} (g0_0 : PySem.W.nsIn K mainGlobals "BallotError" = some (some (.ref C_BallotError))) (g0_2 : PySem.W.findIn K (.ref C_BallotError) "__getattribute__" = some (some (.builtin "BaseException.__getattribute__"))) (g0_3 : PySem.W.findIn K (.ref C_BallotError) "__getattr__" = some none) (g0_4 : PySem.W.findIn K (.ref C_BallotError) "__class__" = some (some (.builtin "object.__class__"))) (g0_5 : PySem.W.mroIn K C_BallotError (.type "BaseException") = some true) (g0_6 : PySem.W.mroIn K C_BallotError (.type "object") = some true)
 {C_BadCount : Addr} (g1_0 : PySem.W.nsIn K mainGlobals "BadCount" = some (some (.ref C_BadCount))) (g1_2 : PySem.W.findIn K (.ref C_BadCount) "__getattribute__" = some (some (.builtin "BaseException.__getattribute__"))) (g1_3 : PySem.W.findIn K (.ref C_BadCount) "__getattr__" = some none) (g1_4 : PySem.W.findIn K (.ref C_BadCount) "__class__" = some (some (.builtin "object.__class__"))) (g1_5 : PySem.W.mroIn K C_BadCount (.type "BaseException") = some true) (g1_6 : PySem.W.mroIn K C_BadCount (.type "object") = some true)
 {C_NotWhole : Addr} (g2_0 : PySem.W.nsIn K mainGlobals "NotWhole" = some (some (.ref C_NotWhole))) (g2_2 : PySem.W.findIn K (.ref C_NotWhole) "__getattribute__" = some (some (.builtin "BaseException.__getattribute__"))) (g2_3 : PySem.W.findIn K (.ref C_NotWhole) "__getattr__" = some none) (g2_4 : PySem.W.findIn K (.ref C_NotWhole) "__class__" = some (some (.builtin "object.__class__"))) (g2_5 : PySem.W.mroIn K C_NotWhole (.type "BaseException") = some true) (g2_6 : PySem.W.mroIn K C_NotWhole (.type "object") = some true)
 {C_BadChance : Addr} (g3_0 : PySem.W.nsIn K mainGlobals "BadChance" = some (some (.ref C_BadChance))) (g3_2 : PySem.W.findIn K (.ref C_BadChance) "__getattribute__" = some (some (.builtin "BaseException.__getattribute__"))) (g3_3 : PySem.W.findIn K (.ref C_BadChance) "__getattr__" = some none) (g3_4 : PySem.W.findIn K (.ref C_BadChance) "__class__" = some (some (.builtin "object.__class__"))) (g3_5 : PySem.W.mroIn K C_BadChance (.type "BaseException") = some true) (g3_6 : PySem.W.mroIn K C_BadChance (.type "object") = some true)
 {C_BadRound : Addr} (g4_0 : PySem.W.nsIn K mainGlobals "BadRound" = some (some (.ref C_BadRound))) (g4_2 : PySem.W.findIn K (.ref C_BadRound) "__getattribute__" = some (some (.builtin "BaseException.__getattribute__"))) (g4_3 : PySem.W.findIn K (.ref C_BadRound) "__getattr__" = some none) (g4_4 : PySem.W.findIn K (.ref C_BadRound) "__class__" = some (some (.builtin "object.__class__"))) (g4_5 : PySem.W.mroIn K C_BadRound (.type "BaseException") = some true) (g4_6 : PySem.W.mroIn K C_BadRound (.type "object") = some true)
 (h_q_BallotError : PySem.W.excIn K C_BallotError bmV "ValueError.__new__" = true)
 (h_q_BadCount : PySem.W.excIn K C_BadCount bmV "ValueError.__new__" = true)
 (h_q_NotWhole : PySem.W.excIn K C_NotWhole bmV "ValueError.__new__" = true)
 (h_q_BadChance : PySem.W.excIn K C_BadChance bmV "ValueError.__new__" = true)
 (h_I_BadRound : Nm K C_BadRound C_BallotError)
 (h_f_BadRound : PySem.W.findIn K (.ref C_BadRound) "at" = some none)
 (h_d_BadRound : PySem.W.hasDictIn K C_BadRound = true)
 (h_x_BallotError_BadRound : PySem.W.exmOne K (.ref C_BallotError) (.ref C_BadRound) = some false)
 (h_x_BallotError_BallotError : PySem.W.exmOne K (.ref C_BallotError) (.ref C_BallotError) = some true)
 (h_i_BallotError_BadChance : PySem.W.kitOne K (.ref C_BallotError) (.ref C_BadChance) = some false)
 (h_i_BallotError_BadCount : PySem.W.kitOne K (.ref C_BallotError) (.ref C_BadCount) = some false)
 (h_i_BallotError_BadRound : PySem.W.kitOne K (.ref C_BallotError) (.ref C_BadRound) = some false)
 (h_i_BallotError_NotWhole : PySem.W.kitOne K (.ref C_BallotError) (.ref C_NotWhole) = some false)
 (h_i_BallotError_ValueError : PySem.W.kitOne K (.ref C_BallotError) (.type "ValueError") = some true)
 (h_x_BadCount_BadRound : PySem.W.exmOne K (.ref C_BadCount) (.ref C_BadRound) = some false)
 (h_x_BadCount_BallotError : PySem.W.exmOne K (.ref C_BadCount) (.ref C_BallotError) = some true)
 (h_i_BadCount_BadChance : PySem.W.kitOne K (.ref C_BadCount) (.ref C_BadChance) = some false)
 (h_i_BadCount_BadCount : PySem.W.kitOne K (.ref C_BadCount) (.ref C_BadCount) = some true)
 (h_i_BadCount_BadRound : PySem.W.kitOne K (.ref C_BadCount) (.ref C_BadRound) = some false)
 (h_i_BadCount_NotWhole : PySem.W.kitOne K (.ref C_BadCount) (.ref C_NotWhole) = some false)
 (h_i_BadCount_ValueError : PySem.W.kitOne K (.ref C_BadCount) (.type "ValueError") = some true)
 (h_x_NotWhole_BadRound : PySem.W.exmOne K (.ref C_NotWhole) (.ref C_BadRound) = some false)
 (h_x_NotWhole_BallotError : PySem.W.exmOne K (.ref C_NotWhole) (.ref C_BallotError) = some true)
 (h_i_NotWhole_BadChance : PySem.W.kitOne K (.ref C_NotWhole) (.ref C_BadChance) = some false)
 (h_i_NotWhole_BadCount : PySem.W.kitOne K (.ref C_NotWhole) (.ref C_BadCount) = some false)
 (h_i_NotWhole_BadRound : PySem.W.kitOne K (.ref C_NotWhole) (.ref C_BadRound) = some false)
 (h_i_NotWhole_NotWhole : PySem.W.kitOne K (.ref C_NotWhole) (.ref C_NotWhole) = some true)
 (h_i_NotWhole_ValueError : PySem.W.kitOne K (.ref C_NotWhole) (.type "ValueError") = some true)
 (h_x_BadChance_BadRound : PySem.W.exmOne K (.ref C_BadChance) (.ref C_BadRound) = some false)
 (h_x_BadChance_BallotError : PySem.W.exmOne K (.ref C_BadChance) (.ref C_BallotError) = some true)
 (h_i_BadChance_BadChance : PySem.W.kitOne K (.ref C_BadChance) (.ref C_BadChance) = some true)
 (h_i_BadChance_BadCount : PySem.W.kitOne K (.ref C_BadChance) (.ref C_BadCount) = some false)
 (h_i_BadChance_BadRound : PySem.W.kitOne K (.ref C_BadChance) (.ref C_BadRound) = some false)
 (h_i_BadChance_NotWhole : PySem.W.kitOne K (.ref C_BadChance) (.ref C_NotWhole) = some false)
 (h_i_BadChance_ValueError : PySem.W.kitOne K (.ref C_BadChance) (.type "ValueError") = some true)
 (h_x_BadRound_BadRound : PySem.W.exmOne K (.ref C_BadRound) (.ref C_BadRound) = some true)
 (h_x_BadRound_BallotError : PySem.W.exmOne K (.ref C_BadRound) (.ref C_BallotError) = some true)
 (h_i_BadRound_BadChance : PySem.W.kitOne K (.ref C_BadRound) (.ref C_BadChance) = some false)
 (h_i_BadRound_BadCount : PySem.W.kitOne K (.ref C_BadRound) (.ref C_BadCount) = some false)
 (h_i_BadRound_BadRound : PySem.W.kitOne K (.ref C_BadRound) (.ref C_BadRound) = some true)
 (h_i_BadRound_NotWhole : PySem.W.kitOne K (.ref C_BadRound) (.ref C_NotWhole) = some false)
 (h_i_BadRound_ValueError : PySem.W.kitOne K (.ref C_BadRound) (.type "ValueError") = some true)
 : ∃ fd : FuncData, (∀ (s : Shared) (v : Value), BindsTo s fd ⟨[v], []⟩ [("_law_script", v)]) /\ ∀ base : Heap, K.In base -> base.Ns mainGlobals mg -> FnOk l.prog w K mg base CX0 14 fa fd ["_law_script"] (Jn K) := by
 have T : Txt K mg C_BallotError C_BadCount C_NotWhole C_BadChance C_BadRound := ⟨PySem.W.mg_none_of X G z_ValueError, PySem.W.mg_none_of X G z_abs, PySem.W.mg_none_of X G z_all, PySem.W.mg_none_of X G z_bool, PySem.W.mg_none_of X G z_enumerate, PySem.W.mg_none_of X G z_int, PySem.W.mg_none_of X G z_isinstance, PySem.W.mg_none_of X G z_len, PySem.W.mg_none_of X G z_list, PySem.W.mg_none_of X G z_max, PySem.W.mg_none_of X G z_min, PySem.W.mg_none_of X G z_range, PySem.W.mg_none_of X G z_sum, PySem.W.mg_none_of X G z_zip, ⟨_, PySem.W.mg_of X G m_MOST_PEOPLE⟩, ⟨_, PySem.W.mg_of X G m_MOST_SEATS⟩, ⟨_, PySem.W.mg_of X G m_ALL, ⟨_, _, _, n_ALL, rfl, rfl, by show 2 <= sizeLine; decide, .cons ⟨_, rfl⟩ (.cons ⟨_, rfl⟩ .nil)⟩⟩, ⟨_, PySem.W.mg_of X G m_NONE, ⟨_, _, _, n_NONE, rfl, rfl, by show 2 <= sizeLine; decide, .cons ⟨_, rfl⟩ (.cons ⟨_, rfl⟩ .nil)⟩⟩, PySem.W.mg_of X G g0_0, ⟨g0_2, g0_3, g0_4, g0_5, g0_6⟩, h_q_BallotError, PySem.W.mg_of X G g1_0, ⟨g1_2, g1_3, g1_4, g1_5, g1_6⟩, h_q_BadCount, PySem.W.mg_of X G g2_0, ⟨g2_2, g2_3, g2_4, g2_5, g2_6⟩, h_q_NotWhole, PySem.W.mg_of X G g3_0, ⟨g3_2, g3_3, g3_4, g3_5, g3_6⟩, h_q_BadChance, PySem.W.mg_of X G g4_0, ⟨g4_2, g4_3, g4_4, g4_5, g4_6⟩, h_I_BadRound, h_f_BadRound, h_d_BadRound, h_x_BallotError_BadRound, h_x_BallotError_BallotError, h_i_BallotError_BadChance, h_i_BallotError_BadCount, h_i_BallotError_BadRound, h_i_BallotError_NotWhole, h_i_BallotError_ValueError, h_x_BadCount_BadRound, h_x_BadCount_BallotError, h_i_BadCount_BadChance, h_i_BadCount_BadCount, h_i_BadCount_BadRound, h_i_BadCount_NotWhole, h_i_BadCount_ValueError, h_x_NotWhole_BadRound, h_x_NotWhole_BallotError, h_i_NotWhole_BadChance, h_i_NotWhole_BadCount, h_i_NotWhole_BadRound, h_i_NotWhole_NotWhole, h_i_NotWhole_ValueError, h_x_BadChance_BadRound, h_x_BadChance_BallotError, h_i_BadChance_BadChance, h_i_BadChance_BadCount, h_i_BadChance_BadRound, h_i_BadChance_NotWhole, h_i_BadChance_ValueError, h_x_BadRound_BadRound, h_x_BadRound_BallotError, h_i_BadRound_BadChance, h_i_BadRound_BadCount, h_i_BadRound_BadRound, h_i_BadRound_NotWhole, h_i_BadRound_ValueError⟩
 have U_law : Up K mg "law" Uq ["_law_script"] := D47.up X G fun _ _ _ _ _ _ us hl => match us, hl with | [_], _ => rfl
 refine law_fn U_law hfa (fun base kb nb f fd F => ?_) (fun _ _ _ _ _ _ s u => .of_eq rfl)
 have C_ways : nq l.prog w K mg base := Uu T (D0.up X G fun _ _ _ _ _ _ us hl => match us, hl with | [_, _], _ => rfl)
 have C_fits_vote : ie l.prog w K mg base := gj T (D1.up X G fun _ _ _ _ _ _ us hl => match us, hl with | [_, _, _, _, _], _ => rfl)
 have C_fits : vq l.prog w K mg base := Zu T (D2.up X G fun _ _ _ _ _ _ us hl => match us, hl with | [_, _, _], _ => rfl) C_fits_vote
 have C_sizes : Mk l.prog w K mg base C_BadCount C_BadRound := xr T (D3.up X G fun _ _ _ _ _ _ us hl => match us, hl with | [_, _], _ => rfl) C_fits
 have C_sizes_ahead : yb l.prog w K mg base C_BadCount C_BadRound := Gg T (D4.up X G fun _ _ _ _ _ _ us hl => match us, hl with | [_, _], _ => rfl) C_sizes
 have C_whole : Kk l.prog w K mg base C_BadCount C_BadRound := sr T (D5.up X G fun _ _ _ _ _ _ us hl => match us, hl with | [_, _], _ => rfl) C_sizes_ahead
 have C_need_whole : cc l.prog w K mg base C_BadCount C_BadRound C_NotWhole := fi T (D6.up X G fun _ _ _ _ _ _ us hl => match us, hl with | [_, _], _ => rfl) C_whole
 have C_need_friends : Eb l.prog w K mg base C_BadCount C_BadRound C_NotWhole := Yf T (D7.up X G fun _ _ _ _ _ _ us hl => match us, hl with | [_, _, _], _ => rfl) C_need_whole
 have C_round_draws : Pb l.prog w K mg base := Hg T (D8.up X G fun _ _ _ _ _ _ us hl => match us, hl with | [_, _, _], _ => rfl) C_ways
 have C_draws_row : Rc l.prog w K mg base C_BadCount C_BadRound := ij T (D9.up X G fun _ _ _ _ _ _ us hl => match us, hl with | [_, _], _ => rfl) C_sizes_ahead C_round_draws
 have C_draws : Ag l.prog w K mg base C_BadCount C_BadRound := Br T (D10.up X G fun _ _ _ _ _ _ us hl => match us, hl with | [_, _], _ => rfl) C_draws_row
 have C_draws_behind : Ac l.prog w K mg base C_BadCount C_BadRound := Zf T (D11.up X G fun _ _ _ _ _ _ us hl => match us, hl with | [_, _], _ => rfl) C_draws_row
 have C_ways_up_to : zd l.prog w K mg base := ei T (D12.up X G fun _ _ _ _ _ _ us hl => match us, hl with | [_, _], _ => rfl)
 have C_behind_lot : Cd l.prog w K mg base := ki T (D13.up X G fun _ _ _ _ _ _ us hl => match us, hl with | [_, _, _], _ => rfl) C_ways_up_to
 have C_side : pq l.prog w K mg base := Wu T (D14.up X G fun _ _ _ _ _ _ us hl => match us, hl with | [_, _, _], _ => rfl)
 have C_seated : Gi l.prog w K mg base := Wo T (D15.up X G fun _ _ _ _ _ _ us hl => match us, hl with | [_, _, _, _], _ => rfl)
 have C_all_lead_to : Uc l.prog w K mg base := Kg T (D16.up X G fun _ _ _ _ _ _ us hl => match us, hl with | [_, _, _], _ => rfl)
 have C_behind : Df l.prog w K mg base := rp T (D17.up X G fun _ _ _ _ _ _ us hl => match us, hl with | [_, _, _, _, _], _ => rfl) C_round_draws C_behind_lot C_side C_seated C_all_lead_to
 have C_common_part : Tc l.prog w K mg base := Jg T (D18.up X G fun _ _ _ _ _ _ us hl => match us, hl with | [_, _], _ => rfl)
 have C_lowest : Af l.prog w K mg base := Xo T (D19.up X G fun _ _ _ _ _ _ us hl => match us, hl with | [_, _], _ => rfl) C_common_part
 have C_less : rq l.prog w K mg base := Xu T (D20.up X G fun _ _ _ _ _ _ us hl => match us, hl with | [_, _], _ => rfl)
 have C_roads_on : Xe l.prog w K mg base := ck T (D21.up X G fun _ _ _ _ _ _ us hl => match us, hl with | [_, _, _, _], _ => rfl) C_behind
 have C_roads : Ye l.prog w K mg base C_BadCount C_BadRound C_NotWhole := yr T (D22.up X G fun _ _ _ _ _ _ us hl => match us, hl with | [_, _, _], _ => rfl) C_need_friends C_roads_on
 have C_worths_ahead : zc l.prog w K mg base := Xf T (D23.up X G fun _ _ _ _ _ _ us hl => match us, hl with | [_, _, _, _, _], _ => rfl) C_behind
 have C_worths : yf l.prog w K mg base C_BadCount C_BadRound C_NotWhole := Vo T (D24.up X G fun _ _ _ _ _ _ us hl => match us, hl with | [_, _, _], _ => rfl) C_sizes_ahead C_need_friends C_worths_ahead
 have C_friendly_many : Za l.prog w K mg base C_BadCount C_BadRound C_NotWhole := mf T (D25.up X G fun _ _ _ _ _ _ us hl => match us, hl with | [_, _, _], _ => rfl) C_roads
 have C_chance : De l.prog w K mg base C_BadCount C_BadRound C_NotWhole := qp T (D26.up X G fun _ _ _ _ _ _ us hl => match us, hl with | [_, _, _], _ => rfl) C_draws C_lowest C_friendly_many
 have C_span : oq l.prog w K mg base := Vu T (D27.up X G fun _ _ _ _ _ _ us hl => match us, hl with | [_], _ => rfl)
 have C_spans : Lk l.prog w K mg base C_BadCount C_BadRound C_NotWhole := ur T (D28.up X G fun _ _ _ _ _ _ us hl => match us, hl with | [_, _, _], _ => rfl) C_roads C_span
 have C_is_settled : Bd l.prog w K mg base := ji T (D29.up X G fun _ _ _ _ _ _ us hl => match us, hl with | [_, _, _], _ => rfl)
 have C_settled : wg l.prog w K mg base C_BadCount C_BadRound C_NotWhole := xm T (D30.up X G fun _ _ _ _ _ _ us hl => match us, hl with | [_, _, _], _ => rfl) C_draws C_draws_behind C_roads C_worths C_friendly_many C_is_settled
 have C_standing : We l.prog w K mg base C_BadCount C_BadRound C_NotWhole := ak T (D31.up X G fun _ _ _ _ _ _ us hl => match us, hl with | [_, _, _], _ => rfl) C_chance
 have C_fewest : Ji l.prog w K mg base C_BadChance C_BadCount C_BadRound C_NotWhole := ip T (D32.up X G fun _ _ _ _ _ _ us hl => match us, hl with | [_, _, _], _ => rfl) C_need_whole C_less C_chance
 have C_gain : uq l.prog w K mg base C_BadCount C_BadRound C_NotWhole := Yu T (D33.up X G fun _ _ _ _ _ _ us hl => match us, hl with | [_, _, _], _ => rfl) C_draws C_lowest C_friendly_many
 have C_l_begin : zg l.prog w K mg base := Am T (D34.up X G fun _ _ _ _ _ _ us hl => match us, hl with | [_], _ => rfl)
 have C_l_take : Pc l.prog w K mg base := Yo T (D35.up X G fun _ _ _ _ _ _ us hl => match us, hl with | [_, _], _ => rfl)
 have C_l_int : Nk l.prog w K mg base := zr T (D36.up X G fun _ _ _ _ _ _ us hl => match us, hl with | [_], _ => rfl)
 have C_l_step : Bf l.prog w K mg base := Zo T (D37.up X G fun _ _ _ _ _ _ us hl => match us, hl with | [_, _, _, _], _ => rfl) C_l_take
 have C_l_any_step : Ad l.prog w K mg base := gi T (D38.up X G fun _ _ _ _ _ _ us hl => match us, hl with | [_, _, _], _ => rfl) C_l_take C_l_step
 have C_l_odd_row : fe l.prog w K mg base := fj T (D39.up X G fun _ _ _ _ _ _ us hl => match us, hl with | [_, _], _ => rfl) C_l_take C_l_step C_l_any_step
 have C_l_fits : Ii l.prog w K mg base := cp T (D40.up X G fun _ _ _ _ _ _ us hl => match us, hl with | [_, _, _], _ => rfl)
 have C_l_fault : yg l.prog w K mg base := zm T (D41.up X G fun _ _ _ _ _ _ us hl => match us, hl with | [_, _], _ => rfl) C_l_fits
 have C_l_any_count : Qc l.prog w K mg base := Ig T (D42.up X G fun _ _ _ _ _ _ us hl => match us, hl with | [_], _ => rfl) C_l_take
 have C_l_call : Cf l.prog w K mg base C_BadChance C_BadCount C_BadRound C_NotWhole := gp T (D43.up X G fun _ _ _ _ _ _ us hl => match us, hl with | [_, _, _, _, _], _ => rfl) C_roads C_worths C_friendly_many C_chance C_spans C_settled C_standing C_fewest C_gain
 have C_l_said : Hi l.prog w K mg base := bp T (D44.up X G fun _ _ _ _ _ _ us hl => match us, hl with | [_, _, _, _, _], _ => rfl) C_l_call
 have C_l_named : xg l.prog w K mg base := ym T (D45.up X G fun _ _ _ _ _ _ us hl => match us, hl with | [_, _, _, _, _], _ => rfl) C_l_call
 have C_l_due : Pk l.prog w K mg base := Ar T (D46.up X G fun _ _ _ _ _ _ us hl => match us, hl with | [_, _, _, _, _], _ => rfl) C_l_fault
 exact ok_law T F C_l_begin C_l_take C_l_int C_l_odd_row C_l_any_count C_l_said C_l_named C_l_due
end K25
def PySem.W.Fast.tw15139337473977710974 : Nat := 0
def PySem.W.Fast.tw18136698690060272825 : Nat := 0
def PySem.W.Fast.tw8283417707346621054 : Nat := 0
def PySem.W.Fast.tw13781586482753985730 : Nat := 0
def PySem.W.Fast.tw11216068458543633780 : Nat := 0
def PySem.W.Fast.tw10049750983518723407 : Nat := 0
def PySem.W.Fast.tw11650906985500656461 : Nat := 0
def PySem.W.Fast.tw9692540300993541048 : Nat := 0
def PySem.W.Fast.tw7473683545004631042 : Nat := 0
def PySem.W.Fast.tw14206057011637228350 : Nat := 0
def PySem.W.Fast.tw4166919068609989663 : Nat := 0
def PySem.W.Fast.tw11231944142375863089 : Nat := 0
def PySem.W.Fast.tw967118816678058054 : Nat := 0
def PySem.W.Fast.tw17629623453727331073 : Nat := 0
def PySem.W.Fast.tw15031179440218071870 : Nat := 0
def PySem.W.Fast.tw14398691475659863831 : Nat := 0
def PySem.W.Fast.tw17847067289077933969 : Nat := 0
def PySem.W.Fast.tw14619442665104362428 : Nat := 0
def PySem.W.Fast.tw6858611064605448043 : Nat := 0
def PySem.W.Fast.tw17659743013618687093 : Nat := 0
def PySem.W.Fast.tw9759159814973561833 : Nat := 0
def PySem.W.Fast.tw3653925039498665666 : Nat := 0
def PySem.W.Fast.tw7396972299268133841 : Nat := 0
def PySem.W.Fast.tw5658502337242294613 : Nat := 0
def PySem.W.Fast.tw12222182140168811516 : Nat := 0
def PySem.W.Fast.tw1542980660657514672 : Nat := 0
def PySem.W.Fast.tw6794550615008097606 : Nat := 0
def PySem.W.Fast.tw1997137558367252082 : Nat := 0
def PySem.W.Fast.tw3848392506862103050 : Nat := 0
def PySem.W.Fast.tw919537755153733796 : Nat := 0
def PySem.W.Fast.tw3365550974752806005 : Nat := 0
def PySem.W.Fast.tw3032918124599311050 : Nat := 0
def PySem.W.Fast.tw3923371346415984129 : Nat := 0
def PySem.W.Fast.tw5859115508568776964 : Nat := 0
def PySem.W.Fast.tw1948831402691984810 : Nat := 0
def PySem.W.Fast.tw13671053730719651763 : Nat := 0
def PySem.W.Fast.tw2700257495547062418 : Nat := 0
def PySem.W.Fast.tw714617537229550481 : Nat := 0
def PySem.W.Fast.tw8752316425014018667 : Nat := 0
def PySem.W.Fast.tw10633156281024072463 : Nat := 0
def PySem.W.Fast.tw12778051285747218840 : Nat := 0
def PySem.W.Fast.tw1806595698251728221 : Nat := 0
def PySem.W.Fast.tw5585737289297668240 : Nat := 0
def PySem.W.Fast.tw18416252119398657869 : Nat := 0
def PySem.W.Fast.tw5709826996800120377 : Nat := 0
def PySem.W.Fast.tw831405797098736332 : Nat := 0
def PySem.W.Fast.tw16583743683986799120 : Nat := 0
def PySem.W.Fast.tw10373968604041699201 : Nat := 0
def PySem.W.Fast.tw8771442328154280158 : Nat := 0
def PySem.W.Fast.tw18017981167420498623 : Nat := 0
def PySem.W.Fast.tw16976633973552415398 : Nat := 0
def PySem.W.Fast.tw11315934373932029968 : Nat := 0
def PySem.W.Fast.tw6049671698201737588 : Nat := 0
def PySem.W.Fast.tw10109592445113389840 : Nat := 0
def PySem.W.Fast.tw15733063810502655429 : Nat := 0
def PySem.W.Fast.tw740173614731203856 : Nat := 0
def PySem.W.Fast.tw903421739909828836 : Nat := 0
def PySem.W.Fast.tw15680076052492902849 : Nat := 0
def PySem.W.Fast.tw6900112532757577448 : Nat := 0
def PySem.W.Fast.tw2492274519137646771 : Nat := 0
def PySem.W.Fast.tw10315134650962993755 : Nat := 0
def PySem.W.Fast.tw9342987934193890849 : Nat := 0
def PySem.W.Fast.tw17756107447830863247 : Nat := 0
def PySem.W.Fast.tw11870016400014192466 : Nat := 0
def PySem.W.Fast.tw1141496674798364185 : Nat := 0
def PySem.W.Fast.tw18172767540678374553 : Nat := 0
def PySem.W.Fast.tw13383912867845289264 : Nat := 0
def PySem.W.Fast.tw13666774076073377270 : Nat := 0
open PySem PySem.W PyProof.Rows
set_option maxRecDepth 100000 in
set_option maxHeartbeats 0 in
theorem PySem.Challenge.cw_ballotin_k25_what_chains_refuse_holds : PySem.Challenge.rw_ballotin_k25_what_chains_refuse.Holds := by
 w_on; o_law; k_head; (case hw => w_witness2)
 k_fill
 refine L2.walkC (l := PySem.Challenge.rw_ballotin_k25_what_chains_refuse) (k := 14) (x := "_law_script") rfl rfl ⟨rfl, by decide, by decide⟩ (fun w h Y => PySem.W.kIn_of Y) ?F
 case F =>
  intro w mg fa h KX G hmg
  refine' K25.all_mk KX G hmg ?_ ?_ ?_ ?_ ?_ ?_ ?_ ?_ ?_ ?_ ?_ ?_ ?_ ?_ ?_ ?_ ?_ ?_ ?_ ?_ ?_ ?_ ?_ ?_ ?_ ?_ ?_ ?_ ?_ ?_ ?_ ?_ ?_ ?_ ?_ ?_ ?_ ?_ ?_ ?_ ?_ ?_ ?_ ?_ ?_ ?_ ?_ ?_ ?z_ValueError ?z_abs ?z_all ?z_bool ?z_enumerate ?z_int ?z_isinstance ?z_len ?z_list ?z_max ?z_min ?z_range ?z_sum ?z_zip ?m_MOST_PEOPLE ?m_MOST_SEATS ?m_ALL ?n_ALL ?m_NONE ?n_NONE ?g0_0 ?g0_2 ?g0_3 ?g0_4 ?g0_5 ?g0_6 ?g1_0 ?g1_2 ?g1_3 ?g1_4 ?g1_5 ?g1_6 ?g2_0 ?g2_2 ?g2_3 ?g2_4 ?g2_5 ?g2_6 ?g3_0 ?g3_2 ?g3_3 ?g3_4 ?g3_5 ?g3_6 ?g4_0 ?g4_2 ?g4_3 ?g4_4 ?g4_5 ?g4_6 ?h_q_BallotError ?h_q_BadCount ?h_q_NotWhole ?h_q_BadChance ?h_I_BadRound ?h_f_BadRound ?h_d_BadRound ?h_x_BallotError_BadRound ?h_x_BallotError_BallotError ?h_i_BallotError_BadChance ?h_i_BallotError_BadCount ?h_i_BallotError_BadRound ?h_i_BallotError_NotWhole ?h_i_BallotError_ValueError ?h_x_BadCount_BadRound ?h_x_BadCount_BallotError ?h_i_BadCount_BadChance ?h_i_BadCount_BadCount ?h_i_BadCount_BadRound ?h_i_BadCount_NotWhole ?h_i_BadCount_ValueError ?h_x_NotWhole_BadRound ?h_x_NotWhole_BallotError ?h_i_NotWhole_BadChance ?h_i_NotWhole_BadCount ?h_i_NotWhole_BadRound ?h_i_NotWhole_NotWhole ?h_i_NotWhole_ValueError ?h_x_BadChance_BadRound ?h_x_BadChance_BallotError ?h_i_BadChance_BadChance ?h_i_BadChance_BadCount ?h_i_BadChance_BadRound ?h_i_BadChance_NotWhole ?h_i_BadChance_ValueError ?h_x_BadRound_BadRound ?h_x_BadRound_BallotError ?h_i_BadRound_BadChance ?h_i_BadRound_BadCount ?h_i_BadRound_BadRound ?h_i_BadRound_NotWhole ?h_i_BadRound_ValueError
  (case z_ValueError => k_is)
  (case z_abs => k_is)
  (case z_all => k_is)
  (case z_bool => k_is)
  (case z_enumerate => k_is)
  (case z_int => k_is)
  (case z_isinstance => k_is)
  (case z_len => k_is)
  (case z_list => k_is)
  (case z_max => k_is)
  (case z_min => k_is)
  (case z_range => k_is)
  (case z_sum => k_is)
  (case z_zip => k_is)
  (case m_MOST_PEOPLE => k_is)
  (case m_MOST_SEATS => k_is)
  (case m_ALL => k_is); (case n_ALL => k_is)
  (case m_NONE => k_is); (case n_NONE => k_is)
  (case g0_0 => k_is); (case g0_2 => k_is); (case g0_3 => k_is); (case g0_4 => k_is); (case g0_5 => k_is); (case g0_6 => k_is)
  (case g1_0 => k_is); (case g1_2 => k_is); (case g1_3 => k_is); (case g1_4 => k_is); (case g1_5 => k_is); (case g1_6 => k_is)
  (case g2_0 => k_is); (case g2_2 => k_is); (case g2_3 => k_is); (case g2_4 => k_is); (case g2_5 => k_is); (case g2_6 => k_is)
  (case g3_0 => k_is); (case g3_2 => k_is); (case g3_3 => k_is); (case g3_4 => k_is); (case g3_5 => k_is); (case g3_6 => k_is)
  (case g4_0 => k_is); (case g4_2 => k_is); (case g4_3 => k_is); (case g4_4 => k_is); (case g4_5 => k_is); (case g4_6 => k_is)
  (case h_q_BallotError => k_exc)
  (case h_q_BadCount => k_exc)
  (case h_q_NotWhole => k_exc)
  (case h_q_BadChance => k_exc)
  (case h_I_BadRound => refine' L2.Nm.of ?i1 ?e1 ?i2 ?i3 ?i4 ?i5 ?e2 ?i6 ?i7 ?i8 ?i9 ?i10 ?i11 ?i12 ?i13 ?i14; (case i1 => k_is); (case e1 => rfl); (case i2 => k_is); (case i3 => kernel_rfl); (case i4 => k_is); (case i5 => k_is); (case e2 => rfl); (case i6 => k_is); (case i7 => rfl); (case i8 => k_exc); (case i9 => k_is); (case i10 => k_is); (case i11 => k_is); (case i12 => k_is); (case i13 => k_is); (case i14 => k_is))
  (case h_f_BadRound => k_is)
  (case h_d_BadRound => k_is)
  (case h_x_BallotError_BadRound => kts_exm)
  (case h_x_BallotError_BallotError => kts_exm)
  (case h_i_BallotError_BadChance => kit_is)
  (case h_i_BallotError_BadCount => kit_is)
  (case h_i_BallotError_BadRound => kit_is)
  (case h_i_BallotError_NotWhole => kit_is)
  (case h_i_BallotError_ValueError => kit_is)
  (case h_x_BadCount_BadRound => kts_exm)
  (case h_x_BadCount_BallotError => kts_exm)
  (case h_i_BadCount_BadChance => kit_is)
  (case h_i_BadCount_BadCount => kit_is)
  (case h_i_BadCount_BadRound => kit_is)
  (case h_i_BadCount_NotWhole => kit_is)
  (case h_i_BadCount_ValueError => kit_is)
  (case h_x_NotWhole_BadRound => kts_exm)
  (case h_x_NotWhole_BallotError => kts_exm)
  (case h_i_NotWhole_BadChance => kit_is)
  (case h_i_NotWhole_BadCount => kit_is)
  (case h_i_NotWhole_BadRound => kit_is)
  (case h_i_NotWhole_NotWhole => kit_is)
  (case h_i_NotWhole_ValueError => kit_is)
  (case h_x_BadChance_BadRound => kts_exm)
  (case h_x_BadChance_BallotError => kts_exm)
  (case h_i_BadChance_BadChance => kit_is)
  (case h_i_BadChance_BadCount => kit_is)
  (case h_i_BadChance_BadRound => kit_is)
  (case h_i_BadChance_NotWhole => kit_is)
  (case h_i_BadChance_ValueError => kit_is)
  (case h_x_BadRound_BadRound => kts_exm)
  (case h_x_BadRound_BallotError => kts_exm)
  (case h_i_BadRound_BadChance => kit_is)
  (case h_i_BadRound_BadCount => kit_is)
  (case h_i_BadRound_BadRound => kit_is)
  (case h_i_BadRound_NotWhole => kit_is)
  (case h_i_BadRound_ValueError => kit_is)
  all_goals (refine' K25.Dn.mk ?a ?l ?c ?k; (case a => k_is); (case l => k_is); (case c => k_is); (case k => k_is))
