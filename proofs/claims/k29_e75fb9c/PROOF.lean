import PyProof.Rows.All
import Wide.All
import OpenK.AllK
import Wide.FinOn
import Lean
import PyProof.EqAt
import PyProof.EqKinds
import PyProof.TupleCall
import PyProof.ListRange
import PyProof.Rows.SortWalk
import PyProof.StrBlock2
import PyProof.Rows.CountFlat
import PySem.Challenge.RW_ballotin_k29_whole_good_draws_numbered
local macro_rules | `(tactic| walk_at "w") => `(tactic| with_unfolding_all exact rfl)
local macro_rules | `(tactic| walk_at "v") => `(tactic| with_unfolding_all exact (Or.inl rfl))
set_option Elab.async false
set_option linter.all false
set_option maxRecDepth 100000
set_option maxHeartbeats 4000000
namespace L2
open PySem PySem.Spec PyProof.Rows
abbrev Key := Sum Int Str
def keyIs : Key -> Value -> Bool
 | .inl k, v => Value.isInt k v
 | .inr x, v => Value.isStrOf x v
def keyH (w : World) : Key -> Int
 | .inl k => hashInt k
 | .inr x => hashStr w x
theorem vb : ∀ {k : Key} {v : Value}, keyIs k v = true -> (∃ i t, k = Sum.inl i /\ v = Value.int i t) \/ (∃ x t, k = Sum.inr x /\ v = Value.str x t)
 | .inl i, v, h => by
  obtain ⟨t, e⟩ := Value.isInt_shape (k := i) (v := v) h
  exact .inl ⟨i, t, rfl, e⟩
 | .inr x, v, h => by
  obtain ⟨t, e⟩ := Value.isStrOf_shape (x := x) (v := v) h
  exact .inr ⟨x, t, rfl, e⟩
theorem key_ll (a b : Int) : decide ((Sum.inl a : Key) = Sum.inl b) = (a == b) := by
 by_cases e : a = b
 . subst e; simp
 . have h : ¬ (Sum.inl a : Key) = Sum.inl b := fun q => e (Sum.inl.inj q)
   rw [decide_eq_false h]
   exact (beq_eq_false_iff_ne.mpr e).symm
theorem key_rr (a b : Str) : decide ((Sum.inr a : Key) = Sum.inr b) = decide (a = b) := by
 by_cases e : a = b
 . subst e; simp
 . have h : ¬ (Sum.inr a : Key) = Sum.inr b := fun q => e (Sum.inr.inj q)
   rw [decide_eq_false h, decide_eq_false e]
theorem key_lr (a : Int) (b : Str) : decide ((Sum.inl a : Key) = Sum.inr b) = false := decide_eq_false (fun q => nomatch q)
theorem key_rl (a : Str) (b : Int) : decide ((Sum.inr a : Key) = Sum.inl b) = false := decide_eq_false (fun q => nomatch q)
def xm (prog : Program) (w : World) : PySem.KeyKind prog w Key where
 is := keyIs
 hash := keyH w
 inj := fun v a b ha hb => by
  rcases vb ha with ⟨i, t, rfl, rfl⟩ | ⟨x, t, rfl, rfl⟩
  . rcases vb hb with ⟨j, u, rfl, e⟩ | ⟨y, u, rfl, e⟩
    . injection e with e1 _; rw [e1]
    . exact nomatch e
  . rcases vb hb with ⟨j, u, rfl, e⟩ | ⟨y, u, rfl, e⟩
    . exact nomatch e
    . injection e with e1 _; rw [e1]
 byValue := fun k v h => by
  rcases vb h with ⟨i, t, rfl, rfl⟩ | ⟨x, t, rfl, rfl⟩ <;> rfl
 pyHash := fun hv h => by
  rcases vb hv with ⟨i, t, rfl, rfl⟩ | ⟨x, t, rfl, rfl⟩
  . exact wpAny_pyHash_int h
  . exact wpAny_pyHash_str h
 eqBool := fun hu hv h => by
  rcases vb hu with ⟨i, t, rfl, rfl⟩ | ⟨x, t, rfl, rfl⟩
  . rcases vb hv with ⟨j, u, rfl, rfl⟩ | ⟨y, u, rfl, rfl⟩
    . rw [key_ll] at h; exact wpAny_eqBool_int h
    . rw [key_lr] at h; exact SeqAt.EqAt.int_str i t y u _ _ _ _ h
  . rcases vb hv with ⟨j, u, rfl, rfl⟩ | ⟨y, u, rfl, rfl⟩
    . rw [key_rl] at h; exact SeqAt.EqAt.str_int x t j u _ _ _ _ h
    . rw [key_rr] at h; exact wpAny_eqBool_str h
 «strs» := fun k x t v h => by
  rcases vb h with ⟨i, u, rfl, e⟩ | ⟨y, u, rfl, e⟩
  . exact nomatch e
  . injection e with e1 _
    subst e1
    cases v <;> rfl
end L2
namespace L2
open PySem PySem.Spec PyProof.Rows
inductive V where
 | non | bl (b : Bool) | int (i : Int) | str (x : Str) | byt (b : Array UInt8) | flt (b : UInt64) | ref (a : Addr) | ty (n : String)
 deriving DecidableEq
def RelV : V -> Value -> Prop
 | .non, u => u = Value.none
 | .bl b, u => u = Value.bool b
 | .int i, u => ∃ t, u = Value.int i t
 | .str x, u => ∃ t, u = Value.str x t
 | .byt b, u => ∃ t, u = Value.bytes b t
 | .flt b, u => ∃ t, u = Value.float b t
 | .ref a, u => u = Value.ref a
 | .ty n, u => u = Value.type n
abbrev Vals : List V -> List Value -> Prop := Paired RelV
theorem Vals.length {xs : List V} {us : List Value} (r : Vals xs us) : xs.length = us.length := Paired.length r
theorem Vals.get : ∀ {xs : List V} {us : List Value} {i : Nat} {x : V}, Vals xs us -> xs[i]? = some x -> ∃ u, us[i]? = some u /\ RelV x u
 | _, _, _, _, .nil, e => by simp at e
 | _, _, 0, _, .cons r _, e => by simp at e; subst e; exact ⟨_, rfl, r⟩
 | _, _, i + 1, x, .cons _ t, e => by
  obtain ⟨u, h1, h2⟩ := Vals.get (i := i) (x := x) t (by simpa using e)
  exact ⟨u, by simpa using h1, h2⟩
theorem Vals.set {x : V} {u : Value} (r : RelV x u) : ∀ {xs : List V} {us : List Value} (i : Nat), Vals xs us -> Vals (xs.set i x) (us.set i u)
 | _, _, _, .nil => .nil
 | _, _, 0, .cons _ t => .cons r t
 | _, _, i + 1, .cons q t => .cons q (Vals.set r i t)
theorem Vals.append : ∀ {xs ys : List V} {us ws : List Value}, Vals xs us -> Vals ys ws -> Vals (xs ++ ys) (us ++ ws)
 | _, _, _, _, .nil, s => s
 | _, _, _, _, .cons r t, s => .cons r (Vals.append t s)
theorem Vals.take : ∀ {xs : List V} {us : List Value} (n : Nat), Vals xs us -> Vals (xs.take n) (us.take n)
 | _, _, 0, _ => .nil
 | _, _, _ + 1, .nil => .nil
 | _, _, n + 1, .cons r t => .cons r (Vals.take n t)
theorem Vals.drop : ∀ {xs : List V} {us : List Value} (n : Nat), Vals xs us -> Vals (xs.drop n) (us.drop n)
 | _, _, 0, r => r
 | _, _, _ + 1, .nil => .nil
 | _, _, n + 1, .cons _ t => Vals.drop n t
def RelO : Option V -> Option Value -> Prop
 | some v, some u => RelV v u
 | none, none => True
 | _, _ => False
def KV {κ : Type} : List (κ × V) -> List (κ × Value) -> Prop := Paired fun (p : κ × V) (q : κ × Value) => p.1 = q.1 /\ RelV p.2 q.2
def kV : Key -> V
 | .inl i => .int i
 | .inr x => .str x
inductive HO where
 | lst (xs : List V)
 | tup (xs : List V)
 | dK (kvs : List (Key × V)) | dT (kvs : List (List Key × V))
 | set (S : Int -> Bool) (n : Nat)
 | ins (C dx : Addr) (fs : List (Str × V))
 | own (x : Addr)
 | xd (fs : List (Str × V))
 | met (f x : Addr)
 | rng (lo hi : Int)
 | frz (o : Obj) (u : HO)
 | tbl (ps : Array Value)
 | ext (φ : Heap -> Prop)
abbrev Hp := Addr -> Option HO
def upd (H : Hp) (a : Addr) (o : HO) : Hp := fun b => if b = a then some o else H b
theorem ja {H : Hp} {a : Addr} {o : HO} : upd H a o a = some o := by unfold upd; rw [if_pos rfl]
theorem La {H : Hp} {a b : Addr} {o : HO} (h : b ≠ a) : upd H a o b = H b := by unfold upd; rw [if_neg h]
theorem ne_of {H : Hp} {a b : Addr} {o u : HO} (h : H a = some o) (h' : H b = some u) (d : o ≠ u) : a ≠ b := by
 intro e; subst e; rw [h] at h'; exact d (Option.some.inj h')
theorem oa {H : Hp} {a b : Addr} {o : HO} (h : H a = some o) (h' : H b = none) : a ≠ b := by
 intro e; subst e; rw [h] at h'; cases h'
section
variable (P : Program) (w : World)
def Hc (H : Hp) (h : Heap) (a : Addr) : HO -> Prop
 | .lst xs => xs.length <= sizeLine /\ ∃ (its : List Value) (n : Nat), Vals xs its /\ h.get? a = some { cls := .type "list", data := .seq its.toArray n }
 | .tup xs => xs.length <= sizeLine /\ ∃ its : List Value, Vals xs its /\ IsTup h a its.toArray
 | .dK kvs => kvs.length <= sizeLine /\ (a == sysModules) = false /\ ∃ vs, KV kvs vs /\ h.DictOf (xm P w) a vs
 | .dT kvs => kvs.length <= sizeLine /\ (a == sysModules) = false /\ ∃ xs : List (List Key × Addr × Value),
  Paired (fun (p : List Key × V) (q : List Key × Addr × Value) => p.1 = q.1 /\ H q.2.1 = some (.tup (p.1.map kV)) /\ RelV p.2 q.2.2) kvs xs /\
  ∃ o es ep, h.get? a = some o /\ o.ExactDict /\ o.data = .dict es ep /\ es.toList = xs.map (entryOfKey (tupleKind (xm P w))) /\ (xs.map (·.1)).Nodup
 | .set S n => h.SetOf (intKind P w) a S n
 | .ins C dx fs => H dx = some (.own a) /\ fs.length <= 1000 /\ dx ≠ a /\ h.get? a = some (PySem.W.instObj C dx) /\
  ∃ mA, h.Ns1 dx mA /\ (∀ f, RelO (fs.lookup f) (mA f)) /\ PySem.Within mA (fs.map (·.1))
 | .own _ => ∃ o, h.get? a = some o
 | .xd fs => ∃ mA, h.Ns1 a mA /\ ∀ f, RelO (fs.lookup f) (mA f)
 | .rng lo hi => ∃ t u v, h.get? a = some { cls := .type "range", data := .fields #[.int lo t, .int hi u, .int 1 v] }
 | .frz o u => h.get? a = some o /\ Hc H h a u
 | .tbl ps => h.get? a = some { cls := .none, data := .fields ps }
 | .met f x => h.get? a = some (PySem.W.methodObj (.ref f) (.ref x))
 | .ext φ => φ h /\ (∃ o, h.get? a = some o) /\ ∀ h1 h2 : Heap, φ h1 -> (∀ o, h1.get? a = some o -> h2.get? a = some o) -> φ h2
def HOk (H : Hp) (h : Heap) : Prop := ∀ a o, H a = some o -> Hc P w H h a o
end
section
variable {P : Program} {w : World} {H H' : Hp} {h h' : Heap} {a : Addr} {o : HO}
theorem Hc.lt (x : Hc P w H h a o) : a < h.objs.size := by
 cases o with
 | lst xs => obtain ⟨_, _, _, _, e⟩ := x; exact Heap.lt_size e
 | tup xs => obtain ⟨_, _, _, p⟩ := x; exact p.lt
 | dK kvs => obtain ⟨_, _, _, _, o, _, _, e, _⟩ := x; exact Heap.lt_size e
 | dT kvs => obtain ⟨_, _, _, _, o, _, _, e, _⟩ := x; exact Heap.lt_size e
 | set S n => obtain ⟨o, _, _, _, e, _⟩ := x; exact Heap.lt_size e
 | ins C dx fs => obtain ⟨_, _, _, e, _⟩ := x; exact Heap.lt_size e
 | own y => obtain ⟨_, e⟩ := x; exact Heap.lt_size e
 | xd fs => obtain ⟨_, ⟨_, _, _, e, _⟩, _⟩ := x; exact Heap.lt_size e
 | rng lo hi => obtain ⟨_, _, _, e⟩ := x; exact Heap.lt_size e
 | frz ob u => obtain ⟨e, _⟩ := x; exact Heap.lt_size e
 | tbl ps => exact Heap.lt_size (show h.get? a = some _ from x)
 | met f y => exact Heap.lt_size (show h.get? a = some _ from x)
 | ext φ => obtain ⟨_, ⟨_, e⟩, _⟩ := x; exact Heap.lt_size e
theorem Paired.mapP {α β : Type} {F G : α -> β -> Prop} : ∀ {l₁ : List α} {l₂ : List β}, Paired F l₁ l₂ -> (∀ a b, F a b -> G a b) -> Paired G l₁ l₂
 | _, _, .nil, _ => .nil
 | _, _, .cons r t, f => .cons (f _ _ r) (Paired.mapP t f)
theorem Hc.stay (x : Hc P w H h a o) (k : ∀ b u, (b = a \/ H b = some (.own a)) -> h.get? b = some u -> h'.get? b = some u)
 (ho : ∀ b, H b = some (.own a) -> H' b = some (.own a)) (ht : ∀ b xs, H b = some (.tup xs) -> H' b = some (.tup xs)) : Hc P w H' h' a o := by
 induction o with
 | lst xs => obtain ⟨z, its, n, r, e⟩ := x; exact ⟨z, its, n, r, k _ _ (.inl rfl) e⟩
 | tup xs => obtain ⟨z, its, r, ob, e, c⟩ := x; exact ⟨z, its, r, ob, k _ _ (.inl rfl) e, c⟩
 | dK kvs => obtain ⟨z, y, vs, r, ob, es, ep, e, c⟩ := x; exact ⟨z, y, vs, r, ob, es, ep, k _ _ (.inl rfl) e, c⟩
 | dT kvs =>
  obtain ⟨z, y, xs, r, ob, es, ep, e, c⟩ := x
  exact ⟨z, y, xs, Paired.mapP r fun p q z => ⟨z.1, ht _ _ z.2.1, z.2.2⟩, ob, es, ep, k _ _ (.inl rfl) e, c⟩
 | set S n => obtain ⟨ob, es, ep, t, e, c⟩ := x; exact ⟨ob, es, ep, t, k _ _ (.inl rfl) e, c⟩
 | ins C dx fs =>
  obtain ⟨d, z, ne, e, mA, ⟨od, es, ep, e2, c⟩, r⟩ := x
  exact ⟨ho _ d, z, ne, k _ _ (.inl rfl) e, mA, ⟨od, es, ep, k _ _ (.inr d) e2, c⟩, r⟩
 | own y => obtain ⟨ob, e⟩ := x; exact ⟨ob, k _ _ (.inl rfl) e⟩
 | xd fs => obtain ⟨mA, ⟨od, es, ep, e, c⟩, r⟩ := x; exact ⟨mA, ⟨od, es, ep, k _ _ (.inl rfl) e, c⟩, r⟩
 | rng lo hi => obtain ⟨t, u, v, e⟩ := x; exact ⟨t, u, v, k _ _ (.inl rfl) e⟩
 | frz ob u ih => obtain ⟨e, q⟩ := x; exact ⟨k _ _ (.inl rfl) e, ih q⟩
 | tbl ps =>
  have e : h.get? a = some { cls := .none, data := .fields ps } := x
  show h'.get? a = some { cls := .none, data := .fields ps }
  exact k a _ (.inl rfl) e
 | met f y =>
  have e : h.get? a = some (PySem.W.methodObj (.ref f) (.ref y)) := x
  show h'.get? a = some (PySem.W.methodObj (.ref f) (.ref y))
  exact k a _ (.inl rfl) e
 | ext φ => obtain ⟨p, ⟨o, e⟩, st⟩ := x; exact ⟨st _ _ p fun o q => k _ _ (.inl rfl) q, ⟨o, k _ _ (.inl rfl) e⟩, st⟩
theorem HOk.lt (x : HOk P w H h) (e : H a = some o) : a < h.objs.size := (x a o e).lt
theorem HOk.fresh (x : HOk P w H h) (e : h.objs.size <= a) : H a = none := by
 cases q : H a with
 | none => rfl
 | some u => exact absurd (Nat.lt_of_lt_of_le (x.lt q) e) (Nat.lt_irrefl _)
theorem HOk.kept (x : HOk P w H h) (k : ∀ b u, h.get? b = some u -> h'.get? b = some u) : HOk P w H h' := fun a o e =>
 (x a o e).stay (fun b u _ q => k b u q) (fun _ q => q) fun _ _ q => q
theorem HOk.laid (x : HOk P w H h) (k : ∀ b u, h.get? b = some u -> h'.get? b = some u) (hp : h.objs.size <= a) (new : Hc P w (upd H a o) h' a o) : HOk P w (upd H a o) h' := fun b u e => by
 have hn := x.fresh hp
 by_cases hb : b = a
 . subst hb; rw [ja] at e; cases e; exact new
 . rw [La hb] at e
   exact (x b u e).stay (fun c v _ q => k c v q) (fun c q => by rw [La (oa q hn)]; exact q) fun c xs q => by rw [La (oa q hn)]; exact q
end
def Rd (H : Hp) (a : Addr) (u : HO) : Prop := H a = some u \/ ∃ o, H a = some (.frz o u)
theorem Rd.of {H : Hp} {a : Addr} {u : HO} (h : H a = some u) : Rd H a u := .inl h
theorem Rd.ok {P : Program} {w : World} {H : Hp} {h : Heap} {a : Addr} {u : HO} (r : Rd H a u) (x : HOk P w H h) : Hc P w H h a u := by
 rcases r with r | ⟨o, r⟩
 . exact x a u r
 . obtain ⟨_, q⟩ := x a _ r
   exact q
def Mut : Option HO -> Prop
 | some (.lst _) => True
 | some (.dK _) => True
 | some (.dT _) => True
 | some (.set _ _) => True
 | some (.ins _ _ _) => True
 | some (.ext _) => True
 | _ => False
section
variable {P : Program} {w : World} {H : Hp} {h h' : Heap} {x e : Addr} {o' : HO}
theorem HOk.write (ok : HOk P w H h) (mu : Mut (H x)) (he : e = x \/ H e = some (.own x)) (k : ∀ b u, b ≠ e -> h.get? b = some u -> h'.get? b = some u) (heo : ∃ u, h'.get? e = some u)
 (new : Hc P w (upd H x o') h' x o') : HOk P w (upd H x o') h' := fun b u q => by
 have nown : ∀ c y, H c = some (.own y) -> c ≠ x := fun c y r z => by subst z; rw [r] at mu; exact mu
 have ntup : ∀ c xs, H c = some (.tup xs) -> c ≠ x := fun c xs r z => by subst z; rw [r] at mu; exact mu
 by_cases hb : b = x
 . subst hb; rw [ja] at q; cases q; exact new
 . rw [La hb] at q
   by_cases hbe : b = e
   . have q' : H b = some (.own x) := by
      rcases he with z | z
      . exact absurd (hbe.trans z) hb
      . rw [hbe]; exact z
     rw [q] at q'; cases q'
     obtain ⟨v, hv⟩ := heo
     exact ⟨v, by rw [hbe]; exact hv⟩
   . refine (ok b u q).stay (fun c v hc r => k c v ?_ r) (fun c r => by rw [La (nown c b r)]; exact r) fun c xs r => by rw [La (ntup c xs r)]; exact r
     rcases hc with rfl | hc
     . exact hbe
     . rintro rfl
       rcases he with z | z
       . exact nown c b hc z
       . rw [hc] at z; cases z; exact hb rfl
end
structure Un (fs ex : List Addr) (H H' : Hp) (h h' : Heap) : Prop where
 keep : ∀ b o, h.get? b = some o -> H b = none -> b ∉ fs -> b ∉ ex -> h'.get? b = some o
 slot : ∀ b o, h.get? b = some o -> H b = none -> b ∈ fs -> b ∉ ex -> ∃ sl, h'.get? b = some { o with slots := sl }
 free : ∀ b o, h.get? b = some o -> H b = none -> b ∉ ex -> H' b = none
 there : ∀ b o, h.get? b = some o -> b ∉ ex -> ∃ o', h'.get? b = some o'
 tups : ∀ b xs, H b = some (.tup xs) -> H' b = some (.tup xs)
 frzs : ∀ b o u, H b = some (.frz o u) -> H' b = some (.frz o u)
 tbls : ∀ b ps, H b = some (.tbl ps) -> ∃ more, H' b = some (.tbl (ps ++ more))
section
variable {fs fs' ex ex' : List Addr} {H H1 H2 : Hp} {h h1 h2 h' : Heap} {a x e : Addr} {o : HO}
theorem Un.any (u : Un fs ex H H1 h h1) {b : Addr} {ob : Obj} (q : h.get? b = some ob) (n : H b = none) (hx : b ∉ ex) : ∃ sl, h1.get? b = some { ob with slots := sl } := by
 by_cases hb : b ∈ fs
 . exact u.slot b ob q n hb hx
 . exact ⟨ob.slots, u.keep b ob q n hb hx⟩
theorem Un.trans (a : Un fs ex H H1 h h1) (b : Un fs ex H1 H2 h1 h2) : Un fs ex H H2 h h2 where
 keep := fun c ob q n hc hx => b.keep c ob (a.keep c ob q n hc hx) (a.free c ob q n hx) hc hx
 slot := fun c ob q n hc hx => by
  obtain ⟨sl, e1⟩ := a.slot c ob q n hc hx
  obtain ⟨sl', e2⟩ := b.slot c _ e1 (a.free c ob q n hx) hc hx
  exact ⟨sl', e2⟩
 free := fun c ob q n hx => by
  obtain ⟨o', e1⟩ := a.there c ob q hx
  exact b.free c o' e1 (a.free c ob q n hx) hx
 there := fun c ob q hx => by
  obtain ⟨o', e1⟩ := a.there c ob q hx
  exact b.there c o' e1 hx
 tups := fun c xs q => b.tups c xs (a.tups c xs q)
 frzs := fun c ob xs q => b.frzs c ob xs (a.frzs c ob xs q)
 tbls := fun c ps q => by
  obtain ⟨m1, e1⟩ := a.tbls c ps q
  obtain ⟨m2, e2⟩ := b.tbls c _ e1
  exact ⟨m1 ++ m2, by rw [e2, Array.append_assoc]⟩
theorem Un.kept (k : ∀ b u, h.get? b = some u -> h'.get? b = some u) : Un fs ex H H h h' :=
 ⟨fun b ob q _ _ _ => k b ob q, fun b ob q _ _ _ => ⟨ob.slots, k b ob q⟩, fun _ _ _ n _ => n, fun b ob q _ => ⟨ob, k b ob q⟩, fun _ _ q => q, fun _ _ _ q => q, fun _ ps q => ⟨#[], by rw [q]; simp⟩⟩
theorem Un.refl : Un fs ex H H h h := Un.kept fun _ _ q => q
theorem Un.laid (k : ∀ b u, h.get? b = some u -> h'.get? b = some u) (hp : h.objs.size <= a) (hn : H a = none) : Un fs ex H (upd H a o) h h' where
 keep := fun b u q _ _ _ => k b u q
 slot := fun b u q _ _ _ => ⟨u.slots, k b u q⟩
 free := fun b u q n _ => by rw [La (Nat.ne_of_lt (Nat.lt_of_lt_of_le (Heap.lt_size q) hp))]; exact n
 there := fun b u q _ => ⟨u, k b u q⟩
 tups := fun b xs q => by rw [La (oa q hn)]; exact q
 frzs := fun b u xs q => by rw [La (oa q hn)]; exact q
 tbls := fun b ps q => ⟨#[], by rw [La (oa q hn), q]; simp⟩
theorem Un.write (mu : Mut (H x)) (he : e = x \/ H e = some (.own x)) (k : ∀ b u, b ≠ e -> h.get? b = some u -> h'.get? b = some u) (heo : ∃ u, h'.get? e = some u) : Un fs ex H (upd H x o) h h' := by
 have hx : ∀ b, H b = none -> b ≠ x := fun b n z => by subst z; rw [n] at mu; exact mu
 have hb : ∀ b, H b = none -> b ≠ e := fun b n z => by
  subst z
  rcases he with r | r
  . exact hx b n r
  . rw [n] at r; cases r
 have hm : ∀ b u, H b = some u -> ¬ Mut (some u) -> b ≠ x := fun b u q nm z => by subst z; rw [q] at mu; exact nm mu
 refine ⟨fun b u q n _ _ => k b u (hb b n) q, fun b u q n _ _ => ⟨u.slots, k b u (hb b n) q⟩, fun b u q n _ => by rw [La (hx b n)]; exact n, fun b u q _ => ?_,
  fun b xs q => by rw [La (hm b _ q fun z => z)]; exact q, fun b u xs q => by rw [La (hm b _ q fun z => z)]; exact q, fun b ps q => ⟨#[], by rw [La (hm b _ q fun z => z), q]; simp⟩⟩
 by_cases hbe : b = e
 . subst hbe; exact heo
 . exact ⟨u, k b u hbe q⟩
end
def trk (h : Heap) (H : Hp) : List Addr := (List.range h.objs.size).filter fun a => (H a).isSome
def hidT (h : Heap) (H : Hp) : Heap := PySem.W.hideAll h (trk h H)
theorem Js (h : Heap) (H : Hp) : (hidT h H).objs.size = h.objs.size := PySem.W.hideAll_size _ _
theorem Cu {h : Heap} {H : Hp} {b : Addr} {o : Obj} (e : h.get? b = some o) (n : H b = none) : (hidT h H).get? b = some o :=
 PySem.W.hideAll_get _ e fun hm => by
  have q : (H b).isSome = true := (List.mem_filter.mp hm).2
  rw [n] at q; simp at q
theorem bx {h : Heap} {H : Hp} {b : Addr} {o : Obj} (e : (hidT h H).get? b = some o) : h.get? b = some o /\ H b = none := by
 have e' : h.get? b = some o := PySem.W.of_hideAll (trk h H) e
 refine ⟨e', ?_⟩
 cases q : H b with
 | none => rfl
 | some x =>
  have hm : b ∈ trk h H := List.mem_filter.mpr ⟨List.mem_range.mpr (Heap.lt_size e'), by simp [q]⟩
  have z : (hidT h H).get? b = none := PySem.W.hideAll_none (trk h H) hm
  rw [z] at e; cases e
def Fx (g h : Heap) (L : Addr) : List (Addr × Obj) := (List.range h.objs.size).filterMap fun a => if a = L \/ (g.get? a).isSome = true then none else (h.get? a).map fun o => (a, o)
def rest (g h : Heap) (L d : Addr) : List (Addr × Obj) := (Fx g h L).filter fun p => decide (p.1 ≠ d)
end L2
namespace L2
open PySem PySem.Spec PyProof.Rows
structure Mod (K : PySem.W.Frag) (mg : Str -> Option Value) (base : Heap) : Prop where
 kin : K.In base
 glob : base.Ns mainGlobals mg
 blt : ∃ mb, base.Ns builtinsNs mb /\ ∀ x : Str, x ≠ "__name__" -> mb x = bootBuiltins x
 nolimit : base.NoLimit
structure Cx where
 prog : Program
 w : World
 K : PySem.W.Frag
 mg : Str -> Option Value
 base : Heap
 A : Around
 N : List Str
 s₀ : Shared
 H₀ : Hp
 env : Env
 outer : List Env
 stack : List Env
 ex : List Addr
 fn : Str -> Bool
 calm : Bool
 pn : List (Addr × Obj)
 xe : Value -> Shared -> Prop
def frs (l : List Env) : List Addr := l.filterMap (·.frame)
abbrev Cx.fs (X : Cx) : List Addr := frs X.outer
def Vis (sc : Scope) (x : Str) : Prop := sc.names.lookup x = some .local \/ sc.names.lookup x = some .cell \/ sc.names.lookup x = some .free
def Loc (sc : Scope) (x : Str) : Prop := sc.names.lookup x = some .local \/ sc.names.lookup x = some .cell
def Look (env : Env) (h : Heap) (m : Str -> Option Value) (x : Str) (u : Value) : Prop :=
 (env.kindOf x = some .local /\ m x = some u) \/ ((env.kindOf x = some .cell \/ env.kindOf x = some .free) /\ ∃ c, env.cells.lookup x = some c /\ h.IsCell c (some u))
structure Cx.Ok (X : Cx) : Prop where
 mod : Mod X.K X.mg X.base
 kind : X.env.scope.kind = .function
 glob : X.env.globals = mainGlobals
 blt : X.env.builtins = builtinsNs
 above : X.s₀.heap.objs.size <= X.env.locals
 inj : ∀ x y c, X.env.cells.lookup x = some c -> X.env.cells.lookup y = some c -> x = y
 has : ∀ x, (X.env.kindOf x = some .cell \/ X.env.kindOf x = some .free) -> ∃ c, X.env.cells.lookup x = some c
 cab : ∀ x c, X.fn x = true -> X.env.cells.lookup x = some c -> X.s₀.heap.objs.size <= c
 hd : X.calm = true -> X.A.handled = none
 frames : X.A.frames = some X.stack
 stk : X.stack = X.outer \/ (X.stack = X.env :: X.outer /\ X.env.frame = some X.env.locals)
 exf : ∀ b ∈ X.ex, b ≠ X.env.locals /\ ∀ x c, X.env.cells.lookup x = some c -> c ≠ b
 bs : ∀ b o, X.base.get? b = some o -> X.s₀.heap.get? b = some o /\ X.H₀ b = none
 bsz : X.base.objs.size <= X.s₀.heap.objs.size
 noex : ∀ b o, X.base.get? b = some o -> b ∉ X.ex
 exfs : ∀ b ∈ X.ex, b ∉ X.fs
 funs : X.s₀.heap.FunFrames X.base X.outer
 frf : ∀ b ∈ X.fs, X.H₀ b = none
structure Inv (X : Cx) (pins : List (Addr × Obj)) (σ : List (Option V)) (H : Hp) (s : Shared) : Prop where
 ok : X.Ok
 os : s.os = X.s₀.os
 bare : AllBare s.gens
 base : Un X.fs X.ex X.H₀ H X.s₀.heap s.heap
 loc : ∃ m, s.heap.Ns X.env.locals m /\ ∀ (i : Nat) (x : Str) (v : V), X.N[i]? = some x -> σ[i]? = some (some v) -> Vis X.env.scope x -> ∃ u, RelV v u /\ Look X.env s.heap m x u
 cell : ∀ x c, X.env.cells.lookup x = some c -> ∃ v, s.heap.IsCell c v
 free : H X.env.locals = none
 freeC : ∀ x c, X.env.cells.lookup x = some c -> H c = none
 pin : ∀ p ∈ X.pn ++ pins, s.heap.get? p.1 = some p.2 /\ H p.1 = none /\ p.1 ≠ X.env.locals /\ p.1 ∉ X.fs /\ ∀ v, p.2.data ≠ .cell v
 hok : HOk X.prog X.w H s.heap
 len : σ.length = X.N.length
section
variable {X : Cx} {pins : List (Addr × Obj)} {σ : List (Option V)} {H H' : Hp} {s : Shared} {h' : Heap}
theorem Cx.Ok.nofr (ok : X.Ok) {b : Addr} {o : Obj} (e : X.base.get? b = some o) : b ∉ X.fs := fun hb => by
 have := (ok.funs.mem hb).1
 rw [e] at this; cases this
theorem Inv.bs (I : Inv X pins σ H s) : ∀ b o, X.base.get? b = some o -> s.heap.get? b = some o /\ H b = none := fun b o e =>
 ⟨I.base.keep b o (I.ok.bs b o e).1 (I.ok.bs b o e).2 (I.ok.nofr e) (I.ok.noex b o e), I.base.free b o (I.ok.bs b o e).1 (I.ok.bs b o e).2 (I.ok.noex b o e)⟩
theorem Inv.bk (I : Inv X pins σ H s) : ∀ b o, X.base.get? b = some o -> s.heap.get? b = some o := fun b o e => (I.bs b o e).1
theorem Inv.mod (I : Inv X pins σ H s) : Mod X.K X.mg X.base := I.ok.mod
theorem Inv.kIn (I : Inv X pins σ H s) : X.K.In s.heap := I.ok.mod.kin.keeps I.bk
theorem Inv.fr (I : Inv X pins σ H s) : ∃ m, Fr X.base X.env.locals s.heap m :=
 let ⟨m, hn, _⟩ := I.loc
 ⟨m, hn, I.bk, Nat.le_trans I.ok.bsz I.ok.above⟩
theorem Inv.lt (I : Inv X pins σ H s) : X.env.locals < s.heap.objs.size := let ⟨_, hn, _⟩ := I.loc; hn.lt
theorem Inv.sz (I : Inv X pins σ H s) : X.s₀.heap.objs.size <= s.heap.objs.size := Nat.le_trans I.ok.above (Nat.le_of_lt I.lt)
theorem Inv.nofs (I : Inv X pins σ H s) {a : Addr} (h : s.heap.objs.size <= a) : a ∉ X.fs := fun hb => by
 obtain ⟨_, o, ho, _⟩ := I.ok.funs.mem hb
 exact absurd (Nat.lt_of_lt_of_le (Heap.lt_size ho) (Nat.le_trans I.sz h)) (Nat.lt_irrefl _)
theorem Inv.cne (I : Inv X pins σ H s) : ∀ x c, X.env.cells.lookup x = some c -> c ≠ X.env.locals := fun x c e z => by
 obtain ⟨v, o, ho, hd⟩ := I.cell x c e
 obtain ⟨m, ⟨o', es, ep, ho', hd', _⟩, _⟩ := I.loc
 rw [z, ho'] at ho; cases ho; rw [hd'] at hd; cases hd
theorem Inv.funs (I : Inv X pins σ H s) : s.heap.FunFrames X.base X.outer := by
 have all : ∀ (l : List Env), (∀ b ∈ frs l, b ∈ X.fs) -> X.s₀.heap.FunFrames X.base l -> s.heap.FunFrames X.base l := by
  intro l
  induction l with
  | nil => intro _ _; trivial
  | cons env r ih =>
   intro hs hl
   obtain ⟨hk, ⟨L, o, hf, hn, ho, hd⟩, hr⟩ := hl
   have hL : L ∈ X.fs := hs L (by unfold frs; rw [List.filterMap_cons, hf]; exact List.mem_cons_self)
   obtain ⟨sl, e⟩ := I.base.slot L o ho (I.ok.frf L hL) hL fun z => I.ok.exfs L z hL
   exact ⟨hk, ⟨L, _, hf, hn, e, hd⟩, ih (fun b hb => hs b (by unfold frs; rw [List.filterMap_cons, hf]; exact List.mem_cons_of_mem _ hb)) hr⟩
 exact all X.outer (fun _ hb => hb) I.ok.funs
theorem Inv.stack (I : Inv X pins σ H s) : s.heap.FunFrames X.base X.stack := by
 rcases I.ok.stk with e | ⟨e, hf⟩
 . rw [e]; exact I.funs
 . rw [e]
   obtain ⟨m, hn, _⟩ := I.loc
   refine .cons (by rw [I.ok.kind]; decide) hf hn ?_ I.funs
   exact Heap.get?_none_of_le (Nat.le_trans I.ok.bsz I.ok.above)
theorem Inv.di (I : Inv X pins σ H s) : ∀ b ∈ frs X.stack, b ∈ X.env.locals :: X.fs := fun b hb => by
 rcases I.ok.stk with e | ⟨e, hf⟩
 . rw [e] at hb; exact List.mem_cons_of_mem _ hb
 . rw [e] at hb
   unfold frs at hb
   rw [List.filterMap_cons, hf] at hb
   exact hb
theorem Inv.Lp (I : Inv X pins σ H s) : ∀ b ∈ frs X.stack, H b = none := fun b hb => by
 rcases List.mem_cons.mp (I.di b hb) with e | hb
 . rw [e]; exact I.free
 . obtain ⟨_, o, ho, _⟩ := I.ok.funs.mem hb
   exact I.base.free b o ho (I.ok.frf b hb) fun z => I.ok.exfs b z hb
theorem Inv.step {g' : Array GenState} {t' : Nat} {d' : Drawn} {ch : List Addr} (I : Inv X pins σ H s)
 (hch : ∀ b ∈ ch, (b ∈ X.ex \/ X.s₀.heap.objs.size <= b) /\ b ≠ X.env.locals /\ (∀ x c, X.env.cells.lookup x = some c -> c ≠ b) /\ ∀ p ∈ X.pn ++ pins, p.1 ≠ b)
 (keep : ∀ b o, b ≠ X.env.locals -> b ∉ X.fs -> b ∉ ch -> s.heap.get? b = some o -> H b = none -> h'.get? b = some o)
 (slot : ∀ b o, b ≠ X.env.locals -> b ∈ X.fs -> b ∉ ch -> s.heap.get? b = some o -> H b = none -> ∃ sl, h'.get? b = some { o with slots := sl }) (free : ∀ b o, b ∉ ch -> s.heap.get? b = some o -> H b = none -> H' b = none)
 (there : ∀ b o, b ∉ ch -> s.heap.get? b = some o -> ∃ o', h'.get? b = some o')
 (tups : ∀ b xs, H b = some (.tup xs) -> H' b = some (.tup xs)) (frzs : ∀ b o u, H b = some (.frz o u) -> H' b = some (.frz o u)) (tbls : ∀ b ps, H b = some (.tbl ps) -> ∃ more, H' b = some (.tbl (ps ++ more)))
 (ns : ∀ m, s.heap.Ns X.env.locals m -> h'.Ns X.env.locals m) (hok : HOk X.prog X.w H' h') (hg : AllBare g') :
 Inv X pins σ H' { s with heap := h', gens := g', drawn := d', toks := t' } := by
 have neL : ∀ b o, X.s₀.heap.get? b = some o -> b ≠ X.env.locals := fun b o e => Nat.ne_of_lt (Nat.lt_of_lt_of_le (Heap.lt_size e) I.ok.above)
 have neC : ∀ b o, X.s₀.heap.get? b = some o -> b ∉ X.ex -> b ∉ ch := fun b o e hx hb => by
  rcases (hch b hb).1 with z | z
  . exact hx z
  . exact absurd (Nat.lt_of_lt_of_le (Heap.lt_size e) z) (Nat.lt_irrefl _)
 have cellK : ∀ x c, X.env.cells.lookup x = some c -> ∀ v, s.heap.IsCell c v -> h'.IsCell c v := fun x c e v ⟨o, ho, hd⟩ => by
  have nch : c ∉ ch := fun z => (hch c z).2.2.1 x c e rfl
  by_cases hc : c ∈ X.fs
  . obtain ⟨sl, q⟩ := slot c o (I.cne x c e) hc nch ho (I.freeC x c e)
    exact ⟨_, q, hd⟩
  . exact ⟨o, keep c o (I.cne x c e) hc nch ho (I.freeC x c e), hd⟩
 refine ⟨I.ok, I.os, hg, ⟨fun b o e n hb hx => ?_, fun b o e n hb hx => ?_, fun b o e n hx => ?_, fun b o e hx => ?_, fun b xs e => tups b xs (I.base.tups b xs e), fun b o xs e => frzs b o xs (I.base.frzs b o xs e), fun b ps e => ?_⟩, ?_, fun x c e => ?_, ?_, fun x c e => ?_, fun p hp => ?_, hok, I.len⟩
 . exact keep b o (neL b o e) hb (neC b o e hx) (I.base.keep b o e n hb hx) (I.base.free b o e n hx)
 . obtain ⟨sl, e1⟩ := I.base.slot b o e n hb hx
   obtain ⟨sl', e2⟩ := slot b _ (neL b o e) hb (neC b o e hx) e1 (I.base.free b o e n hx)
   exact ⟨sl', e2⟩
 . obtain ⟨o', e1⟩ := I.base.there b o e hx
   exact free b o' (neC b o e hx) e1 (I.base.free b o e n hx)
 . obtain ⟨o', e1⟩ := I.base.there b o e hx
   exact there b o' (neC b o e hx) e1
 . obtain ⟨m1, e1⟩ := I.base.tbls b ps e
   obtain ⟨m2, e2⟩ := tbls b _ e1
   exact ⟨m1 ++ m2, by rw [e2, Array.append_assoc]⟩
 . obtain ⟨m, hn, hl⟩ := I.loc
   refine ⟨m, ns m hn, fun i x v e1 e2 e3 => ?_⟩
   obtain ⟨u, r, l⟩ := hl i x v e1 e2 e3
   refine ⟨u, r, ?_⟩
   rcases l with l | ⟨k, c, e, z⟩
   . exact .inl l
   . exact .inr ⟨k, c, e, cellK x c e _ z⟩
 . obtain ⟨v, z⟩ := I.cell x c e
   exact ⟨v, cellK x c e v z⟩
 . obtain ⟨m, ⟨o, _, _, ho, _⟩, _⟩ := I.loc
   exact free _ o (fun z => (hch _ z).2.1 rfl) ho I.free
 . obtain ⟨v, o, ho, hd⟩ := I.cell x c e
   exact free c o (fun z => (hch c z).2.2.1 x c e rfl) ho (I.freeC x c e)
 . obtain ⟨e, n, ne, nf, d⟩ := I.pin p hp
   have nch : p.1 ∉ ch := fun z => (hch p.1 z).2.2.2 p hp rfl
   exact ⟨keep p.1 p.2 ne nf nch e n, free p.1 p.2 nch e n, ne, nf, d⟩
theorem Inv.un {t' : Nat} (I : Inv X pins σ H s) (u : Un X.fs [] H H' s.heap h') (hok : HOk X.prog X.w H' h') : Inv X pins σ H' { s with heap := h', toks := t' } := by
 obtain ⟨m, ⟨o, es, ep, ho, r⟩, _⟩ := id I.loc
 obtain ⟨sl, hL⟩ := u.any ho I.free (by simp)
 exact I.step (g' := s.gens) (d' := s.drawn) (ch := []) (fun _ z => nomatch z) (fun b o _ hb _ e n => u.keep b o e n hb (by simp)) (fun b o _ hb _ e n => u.slot b o e n hb (by simp)) (fun b o _ e n => u.free b o e n (by simp)) (fun b o _ e => u.there b o e (by simp)) u.tups u.frzs u.tbls (fun m' hm => by
  obtain ⟨o', es', ep', ho', r'⟩ := hm
  rw [ho] at ho'; cases ho'
  exact ⟨_, es', ep', hL, r'⟩) hok I.bare
theorem Inv.call {g' : Array GenState} {t' : Nat} {d' : Drawn} {ch : List Addr} (I : Inv X pins σ H s) (u : Un (frs X.stack) ch H H' s.heap h') (hok : HOk X.prog X.w H' h') (hg : AllBare g')
 (hch : ∀ b ∈ ch, (b ∈ X.ex \/ X.s₀.heap.objs.size <= b) /\ b ≠ X.env.locals /\ (∀ x c, X.env.cells.lookup x = some c -> c ≠ b) /\ ∀ p ∈ X.pn ++ pins, p.1 ≠ b) :
 Inv X pins σ H' { s with heap := h', gens := g', drawn := d', toks := t' } := by
 obtain ⟨m, ⟨o, es, ep, ho, r⟩, _⟩ := id I.loc
 obtain ⟨sl, hL⟩ := u.any ho I.free fun z => (hch _ z).2.1 rfl
 exact I.step (ch := ch) hch (fun b o hL hb hc e n => u.keep b o e n (fun z => (List.mem_cons.mp (I.di b z)).elim hL hb) hc) (fun b o _ _ hc e n => u.any e n hc) (fun b o hc e n => u.free b o e n hc) (fun b o hc e => u.there b o e hc) u.tups u.frzs u.tbls (fun m' hm => by
  obtain ⟨o', es', ep', ho', r'⟩ := hm
  rw [ho] at ho'; cases ho'
  exact ⟨_, es', ep', hL, r'⟩) hok hg
theorem Inv.turned {t' : Nat} {it : Addr} (I : Inv X pins σ H s) (k : ∀ b o, b ≠ it -> s.heap.get? b = some o -> h'.get? b = some o) (hn : H it = none) (hL : it ≠ X.env.locals)
 (h1 : it ∈ X.ex \/ X.s₀.heap.objs.size <= it) (h2 : ∀ x c, X.env.cells.lookup x = some c -> c ≠ it) (h3 : ∀ p ∈ X.pn ++ pins, p.1 ≠ it) : Inv X pins σ H { s with heap := h', toks := t' } := by
 have nit : ∀ b u, H b = some u -> b ≠ it := fun b u e z => by rw [z, hn] at e; cases e
 refine I.step (g' := s.gens) (d' := s.drawn) (ch := [it]) (fun b hb => ?_) (fun b o _ _ hc e _ => k b o (fun z => hc (by simp [z])) e) (fun b o _ _ hc e _ => ⟨o.slots, k b o (fun z => hc (by simp [z])) e⟩) (fun _ _ _ _ n => n)
  (fun b o hc e => ⟨o, k b o (fun z => hc (by simp [z])) e⟩) (fun _ _ e => e) (fun _ _ _ e => e) (fun b ps e => ⟨#[], by rw [e]; simp⟩) (fun m hm => ?_) (fun b u e => ?_) I.bare
 . have e : b = it := by simpa using hb
   subst e
   exact ⟨h1, hL, h2, h3⟩
 . obtain ⟨o, es, ep, ho, r⟩ := hm
   exact ⟨o, es, ep, k _ o (Ne.symm hL) ho, r⟩
 . refine (I.hok b u e).stay (fun c v hc q => k c v ?_ q) (fun _ q => q) fun _ _ q => q
   rcases hc with z | z
   . rw [z]; exact nit b u e
   . exact nit c _ z
theorem Inv.tok (I : Inv X pins σ H s) (t : Nat) : Inv X pins σ H { s with toks := t } := I.un (h' := s.heap) (t' := t) Un.refl I.hok
theorem Inv.kept {t' : Nat} (I : Inv X pins σ H s) (k : ∀ b u, s.heap.get? b = some u -> h'.get? b = some u) : Inv X pins σ H { s with heap := h', toks := t' } := I.un (Un.kept k) (I.hok.kept k)
theorem Inv.laid {a : Addr} {o : HO} {t' : Nat} (I : Inv X pins σ H s) (k : ∀ b u, s.heap.get? b = some u -> h'.get? b = some u) (hp : s.heap.objs.size <= a) (new : Hc X.prog X.w (upd H a o) h' a o) :
 Inv X pins σ (upd H a o) { s with heap := h', toks := t' } := I.un (Un.laid k hp (I.hok.fresh hp)) (I.hok.laid k hp new)
theorem Inv.write {x e : Addr} {o : HO} {t' : Nat} (I : Inv X pins σ H s) (mu : Mut (H x)) (he : e = x \/ H e = some (.own x)) (k : ∀ b u, b ≠ e -> s.heap.get? b = some u -> h'.get? b = some u) (heo : ∃ u, h'.get? e = some u)
 (new : Hc X.prog X.w (upd H x o) h' x o) : Inv X pins σ (upd H x o) { s with heap := h', toks := t' } := I.un (Un.write mu he k heo) (I.hok.write mu he k heo new)
theorem Inv.Rc {pins' : List (Addr × Obj)} (I : Inv X pins σ H s) (h : ∀ p ∈ pins', s.heap.get? p.1 = some p.2 /\ H p.1 = none /\ p.1 ≠ X.env.locals /\ p.1 ∉ X.fs /\ ∀ v, p.2.data ≠ .cell v) : Inv X pins' σ H s :=
 ⟨I.ok, I.os, I.bare, I.base, I.loc, I.cell, I.free, I.freeC, fun p hp => (List.mem_append.mp hp).elim (fun z => I.pin p (List.mem_append_left _ z)) (h p), I.hok, I.len⟩
theorem Sn {N : List Str} (hN : N.Nodup) {i j : Nat} {x : Str} (a : N[i]? = some x) (b : N[j]? = some x) : i = j := by
 obtain ⟨h1, e1⟩ := List.getElem?_eq_some_iff.mp a
 obtain ⟨h2, e2⟩ := List.getElem?_eq_some_iff.mp b
 exact (List.getElem_inj hN).mp (e1.trans e2.symm)
theorem Kp {M : Model} {A : Around} {E : Value -> Shared -> Prop} {i : Nat} {x : Str} {v : V} {u : Value} {Q : Unit -> Shared -> Prop} (I : Inv X pins σ H s) (hN : X.N.Nodup) (hi : X.N[i]? = some x) (hx : Loc X.env.scope x) (r : RelV v u)
 (h : ∀ s', Inv X pins (σ.set i (some v)) H s' -> (∃ a, Heap.SameBut a s.heap s'.heap /\ (a = X.env.locals \/ X.env.cells.lookup x = some a)) -> Q () s') (hf : X.fn x = true \/ X.env.scope.names.lookup x = some .local := by first | exact .inl rfl | exact .inr rfl | assumption | with_unfolding_all exact .inl rfl | with_unfolding_all exact .inr rfl) : wpAny M A (storeName X.env x u) Q E s := by
 obtain ⟨m, hn, hl⟩ := id I.loc
 have hcls : (X.env.scope.kind == .class || (X.env.scope.kind == .module && X.env.locals != X.env.globals)) = false := by rw [I.ok.kind]; rfl
 have hiσ : i < σ.length := by rw [I.len]; exact (List.getElem?_eq_some_iff.mp hi).1
 have cne := I.cne
 have tracked : ∀ {a : Addr} {h' : Heap}, (∃ o, s.heap.get? a = some o /\ H a = none) -> Heap.SameBut a s.heap h' -> HOk X.prog X.w H h' := fun {a h'} ha hs b ob e => by
  obtain ⟨_, _, hfree⟩ := ha
  refine (I.hok b ob e).stay (fun c w' hc q => (hs.2 c ?_).trans q) (fun _ q => q) fun _ _ q => q
  rintro rfl
  rcases hc with rfl | hc
  . rw [hfree] at e; cases e
  . rw [hfree] at hc; cases hc
 rcases hx with hk | hk
 . refine wpAny_storeName_local hk hn (fun h' hn' hs => ?_) hcls
   obtain ⟨oL, _, _, hoL, _⟩ := id hn
   refine h _ ⟨I.ok, I.os, I.bare, ⟨fun b o e n hb hx => ?_, fun b o e n hb hx => ?_, I.base.free, fun b o e hx => ?_, I.base.tups, I.base.frzs, I.base.tbls⟩, ⟨_, hn', fun j y v' e1 e2 e3 => ?_⟩, fun y c e => ?_, I.free, I.freeC, fun p hp => ?_, tracked ⟨oL, hoL, I.free⟩ hs, by simpa using I.len⟩ ⟨_, hs, .inl rfl⟩
   . exact (hs.2 b (Nat.ne_of_lt (Nat.lt_of_lt_of_le (Heap.lt_size e) I.ok.above))).trans (I.base.keep b o e n hb hx)
   . obtain ⟨sl, e1⟩ := I.base.slot b o e n hb hx
     exact ⟨sl, (hs.2 b (Nat.ne_of_lt (Nat.lt_of_lt_of_le (Heap.lt_size e) I.ok.above))).trans e1⟩
   . obtain ⟨o', e1⟩ := I.base.there b o e hx
     exact ⟨o', (hs.2 b (Nat.ne_of_lt (Nat.lt_of_lt_of_le (Heap.lt_size e) I.ok.above))).trans e1⟩
   . by_cases hj : j = i
     . subst hj
       rw [hi] at e1; cases e1
       rw [List.getElem?_set_self hiσ] at e2
       cases e2
       exact ⟨u, r, .inl ⟨hk, by simp⟩⟩
     . rw [List.getElem?_set_ne (Ne.symm hj)] at e2
       obtain ⟨u', r', q⟩ := hl j y v' e1 e2 e3
       refine ⟨u', r', ?_⟩
       rcases q with ⟨k, e⟩ | ⟨k, c, e, z⟩
       . refine .inl ⟨k, ?_⟩
         have : y ≠ x := fun e => hj (Sn hN e1 (e ▸ hi))
         simp [this, e]
       . exact .inr ⟨k, c, e, z.sameBut hs (cne y c e)⟩
   . obtain ⟨w', z⟩ := I.cell y c e
     exact ⟨w', z.sameBut hs (cne y c e)⟩
   . obtain ⟨e, n, ne, nf, d⟩ := I.pin p hp
     exact ⟨(hs.2 p.1 ne).trans e, n, ne, nf, d⟩
 . have hfn : X.fn x = true := by
    rcases hf with z | z
    . exact z
    . rw [z] at hk; cases hk
   obtain ⟨c, hc⟩ := I.ok.has x (.inl hk)
   obtain ⟨w', z⟩ := I.cell x c hc
   refine wpAny_storeName_cell I.ok.kind hk hc z (fun h' hc' hs => ?_)
   obtain ⟨oc, hoc, hocd⟩ := id z
   refine h { s with heap := h' } ⟨I.ok, I.os, I.bare, ⟨fun b o e n hb hx => ?_, fun b o e n hb hx => ?_, I.base.free, fun b o e hx => ?_, I.base.tups, I.base.frzs, I.base.tbls⟩, ⟨m, hn.sameBut hs (Ne.symm (cne x c hc)), fun j y v' e1 e2 e3 => ?_⟩, fun y c' e => ?_, I.free, I.freeC, fun p hp => ?_, tracked ⟨oc, hoc, I.freeC x c hc⟩ hs, by simpa using I.len⟩ ⟨c, hs, .inr hc⟩
   . exact (hs.2 b (Nat.ne_of_lt (Nat.lt_of_lt_of_le (Heap.lt_size e) (I.ok.cab x c hfn hc)))).trans (I.base.keep b o e n hb hx)
   . obtain ⟨sl, e1⟩ := I.base.slot b o e n hb hx
     exact ⟨sl, (hs.2 b (Nat.ne_of_lt (Nat.lt_of_lt_of_le (Heap.lt_size e) (I.ok.cab x c hfn hc)))).trans e1⟩
   . obtain ⟨o', e1⟩ := I.base.there b o e hx
     exact ⟨o', (hs.2 b (Nat.ne_of_lt (Nat.lt_of_lt_of_le (Heap.lt_size e) (I.ok.cab x c hfn hc)))).trans e1⟩
   . by_cases hj : j = i
     . subst hj
       rw [hi] at e1; cases e1
       rw [List.getElem?_set_self hiσ] at e2
       cases e2
       exact ⟨u, r, .inr ⟨.inl hk, c, hc, hc'⟩⟩
     . rw [List.getElem?_set_ne (Ne.symm hj)] at e2
       obtain ⟨u', r', q⟩ := hl j y v' e1 e2 e3
       refine ⟨u', r', ?_⟩
       rcases q with q | ⟨k, c', e, z'⟩
       . exact .inl q
       . refine .inr ⟨k, c', e, z'.sameBut hs ?_⟩
         rintro rfl
         exact hj (Sn hN e1 (I.ok.inj _ _ _ e hc ▸ hi))
   . by_cases hcc : c' = c
     . subst hcc; exact ⟨_, hc'⟩
     . obtain ⟨w2, z2⟩ := I.cell y c' e
       exact ⟨w2, z2.sameBut hs hcc⟩
   . obtain ⟨e, n, ne, nf, d⟩ := I.pin p hp
     refine ⟨(hs.2 p.1 ?_).trans e, n, ne, nf, d⟩
     intro q
     rw [q, hoc] at e
     have q' : oc = p.2 := Option.some.inj e
     exact d w' (by rw [<- q']; exact hocd)
theorem Li {M : Model} {A : Around} {E : Value -> Shared -> Prop} {i : Nat} {x : Str} {v : V} {u : Value} {Q : Unit -> Shared -> Prop} (I : Inv X pins σ H s) (hN : X.N.Nodup) (hi : X.N[i]? = some x) (hx : Loc X.env.scope x) (r : RelV v u)
 (h : ∀ s', Inv X pins (σ.set i (some v)) H s' -> Q () s') (hf : X.fn x = true \/ X.env.scope.names.lookup x = some .local := by first | exact .inl rfl | exact .inr rfl | assumption | with_unfolding_all exact .inl rfl | with_unfolding_all exact .inr rfl) : wpAny M A (storeName X.env x u) Q E s :=
 Kp I hN hi hx r (fun s' I' _ => h s' I') hf
end
abbrev XK := Value -> Option Addr -> Hp -> Prop
abbrev St := List (Option V)
abbrev VK := V -> Hp -> Prop
abbrev TE := St -> Hp -> VK -> Prop
abbrev TT := St -> Hp -> (Bool -> Hp -> Prop) -> Prop
abbrev TA := St -> Hp -> (List V -> Hp -> Prop) -> Prop
structure Ends where
 nx : St -> Hp -> Prop
 rt : VK
 bk : St -> Hp -> Prop := fun _ _ => False
 ct : St -> Hp -> Prop := fun _ _ => False
abbrev TS := Ends -> St -> Hp -> Prop
def EP (X : Cx) (pins : List (Addr × Obj)) (σ : St) (Q : VK) (u : Value) (s' : Shared) : Prop := ∃ v H', Inv X pins σ H' s' /\ RelV v u /\ Q v H'
def TP (X : Cx) (pins : List (Addr × Obj)) (σ : St) (Q : Bool -> Hp -> Prop) (b : Bool) (s' : Shared) : Prop := ∃ H', Inv X pins σ H' s' /\ Q b H'
def AP (X : Cx) (pins : List (Addr × Obj)) (σ : St) (Q : List V -> Hp -> Prop) (us : List Value) (s' : Shared) : Prop := ∃ vs H', Inv X pins σ H' s' /\ Vals vs us /\ Q vs H'
def SP (X : Cx) (pins : List (Addr × Obj)) (D : Ends) (f : Flow) (s' : Shared) : Prop :=
 match f with
 | .next => ∃ σ' H', Inv X pins σ' H' s' /\ D.nx σ' H'
 | .brk => ∃ σ' H', Inv X pins σ' H' s' /\ D.bk σ' H'
 | .cont => ∃ σ' H', Inv X pins σ' H' s' /\ D.ct σ' H'
 | .ret u => ∃ v σ' H', Inv X pins σ' H' s' /\ RelV v u /\ D.rt v H'
def PE (X : Cx) (e : Expr) (t : TE) : Prop :=
 ∀ (pins : List (Addr × Obj)) (s : Shared) (σ : St) (H : Hp) (Q : VK), Inv X pins σ H s -> t σ H Q -> wpAny (model X.prog X.w) X.A (eval e X.env) (EP X pins σ Q) X.xe s
def PT (X : Cx) (e : Expr) (t : TT) : Prop :=
 ∀ (pins : List (Addr × Obj)) (s : Shared) (σ : St) (H : Hp) (Q : Bool -> Hp -> Prop), Inv X pins σ H s -> t σ H Q -> wpAny (model X.prog X.w) X.A (isTrue e X.env (eval e X.env)) (TP X pins σ Q) X.xe s
def PW (X : Cx) (e : Expr) (t : TT) : Prop :=
 ∀ (whole : Sem Value) (pins : List (Addr × Obj)) (s : Shared) (σ : St) (H : Hp) (Q : Bool -> Hp -> Prop), Inv X pins σ H s -> t σ H Q -> wpAny (model X.prog X.w) X.A (isTrue e X.env whole) (TP X pins σ Q) X.xe s
theorem PW.pt {X : Cx} {e : Expr} {t : TT} (h : PW X e t) : PT X e t := h _
def PA (X : Cx) (es : List Expr) (t : TA) : Prop :=
 ∀ (pos : Pos) (pins : List (Addr × Obj)) (s : Shared) (σ : St) (H : Hp) (Q : List V -> Hp -> Prop), Inv X pins σ H s -> t σ H Q -> wpAny (model X.prog X.w) X.A (spliced (backTo pos (starEach es X.env))) (AP X pins σ Q) X.xe s
def PS (X : Cx) (st : Stmt) (t : TS) : Prop :=
 ∀ (pins : List (Addr × Obj)) (s : Shared) (σ : St) (H : Hp) (D : Ends), Inv X pins σ H s -> t D σ H -> wpAny (model X.prog X.w) X.A (exec st X.env) (SP X pins D) X.xe s
def PSs (X : Cx) (st : List Stmt) (t : TS) : Prop :=
 ∀ (pins : List (Addr × Obj)) (s : Shared) (σ : St) (H : Hp) (D : Ends), Inv X pins σ H s -> t D σ H -> wpAny (model X.prog X.w) X.A (execs st X.env) (SP X pins D) X.xe s
theorem thn {α : Type} {t : Sem α} {Q Q' : α -> Shared -> Prop} {M : Model} {A : Around} {E : Value -> Shared -> Prop} {s : Shared} (h : wpAny M A t Q E s) (hQ : ∀ a s, Q a s -> Q' a s) : wpAny M A t Q' E s := wpAny_mono h hQ fun _ _ x => x
end L2
namespace L2
open PySem PySem.Spec PyProof.Rows
section
variable {X : Cx}
def tVar (i : Nat) : TE := fun σ H Q => ∃ v, σ[i]? = some (some v) /\ Q v H
def tC (v : V) : TE := fun _ H Q => Q v H
theorem pe_var {i : Nat} {x : Str} {pos : Pos} (hN : X.N[i]? = some x) (hv : Vis X.env.scope x) (hd : (x == ("__debug__" : Str)) = false := by decide) (hcd : (x == ("__classdict__" : Str)) = false := by decide) : PE X (.Name x pos) (tVar i) := by
 intro pins s σ H Q I h
 obtain ⟨v, e, h⟩ := h
 obtain ⟨m, hn, hl⟩ := I.loc
 obtain ⟨u, r, l⟩ := hl i x v hN e hv
 have fin : EP X pins σ Q u s := ⟨v, H, I, r, h⟩
 rcases l with ⟨hk, hm⟩ | ⟨hk, c, hc, hcell⟩
 . exact wpAny_Name (wpAny_loadName_local I.ok.kind hk hn hm fin) hd
 . rcases hk with hk | hk
   . exact wpAny_Name (wpAny_loadName_cell I.ok.kind hk hc hcell fin) hd
   . exact wpAny_Name (wpAny_loadName_free I.ok.kind hk hc hcell fin hcd) hd
theorem qa {i j pos} : PE X (.Constant (.int i) j pos) (tC (.int i)) := fun _ _ _ H _ I h => wpAny_Constant_int ⟨.int i, H, I.tok _, ⟨_, rfl⟩, h⟩
theorem Tc {b j pos} : PE X (.Constant (.bool b) j pos) (tC (.bl b)) := fun _ _ _ H _ I h => Constant_bool ⟨.bl b, H, I, rfl, h⟩
theorem sf {j pos} : PE X (.Constant .none j pos) (tC .non) := fun _ _ _ H _ I h => Constant_none ⟨.non, H, I, rfl, h⟩
theorem Ra {x j pos} : PE X (.Constant (.str x) j pos) (tC (.str x)) := fun _ _ _ H _ I h => Calls.Constant_str ⟨.str x, H, I.tok _, ⟨_, rfl⟩, h⟩
def Gl (X : Cx) (x : Str) : Prop := X.env.kindOf x = some .globalImplicit
theorem Es {E : Value -> Shared -> Prop} {pins : List (Addr × Obj)} {s : Shared} {σ : St} {H : Hp} {x : Str} {u : Value} {pos : Pos} {Q : Value -> Shared -> Prop} (I : Inv X pins σ H s) (hg : Gl X x) (hm : X.mg x = some u) (h : Q u s)
 (hd : (x == ("__debug__" : Str)) = false := by decide) : wpAny (model X.prog X.w) X.A (eval (.Name x pos) X.env) Q E s :=
 Calls.Name_function_global I.ok.kind hg (Calls.loadGlobal_global (by rw [I.ok.glob]; exact I.mod.glob.keeps I.bk) hm h) hd
theorem Ge {E : Value -> Shared -> Prop} {pins : List (Addr × Obj)} {s : Shared} {σ : St} {H : Hp} {x : Str} {u : Value} {pos : Pos} {Q : Value -> Shared -> Prop} (I : Inv X pins σ H s) (hg : Gl X x) (hm : X.mg x = none) (hv : bootBuiltins x = some u) (h : Q u s)
 (hn : x ≠ "__name__" := by decide) (hd : (x == ("__debug__" : Str)) = false := by decide) : wpAny (model X.prog X.w) X.A (eval (.Name x pos) X.env) Q E s := by
 obtain ⟨mb, h1, h2⟩ := I.mod.blt
 exact Calls.Name_function_global I.ok.kind hg (Calls.loadGlobal_builtin (by rw [I.ok.glob]; exact I.mod.glob.keeps I.bk) hm (by rw [I.ok.blt]; exact h1.keeps I.bk) ((h2 x hn).trans hv) h) hd
theorem Sw {x : Str} {v : V} {u : Value} {pos : Pos} (hg : Gl X x) (hm : X.mg x = some u) (r : RelV v u) (hd : (x == ("__debug__" : Str)) = false := by decide) : PE X (.Name x pos) (tC v) :=
 fun _ _ _ H _ I h => Es I hg hm ⟨v, H, I, r, h⟩ hd
theorem vj {x : Str} {v : V} {u : Value} {pos : Pos} (hg : Gl X x) (hm : X.mg x = none) (hv : bootBuiltins x = some u) (r : RelV v u) (hn : x ≠ "__name__" := by decide) (hd : (x == ("__debug__" : Str)) = false := by decide) : PE X (.Name x pos) (tC v) :=
 fun _ _ _ H _ I h => Ge I hg hm hv ⟨v, H, I, r, h⟩ hn hd
variable {a b : Expr} {ta tb : TE} {pos : Pos}
variable {tA tB' : TT} {rest : List Expr}
def tAnd (t u : TT) : TT := fun σ H Q => t σ H fun c H1 => if c = true then u σ H1 Q else Q false H1
def tOr (t u : TT) : TT := fun σ H Q => t σ H fun c H1 => if c = true then Q true H1 else u σ H1 Q
def tNot (t : TT) : TT := fun σ H Q => t σ H fun c H1 => Q (!c) H1
theorem Bd (ha : PT X a tA) : PW X (.BoolOp .And [a] pos) tA := by
 intro wh pins s σ H Q I h
 refine isTrue_and (thn (ha pins s σ H Q I h) fun c s1 e => ?_)
 cases c with
 | true => exact isTrue_and_nil e
 | false => exact e
theorem Cc (ha : PT X a tA) : PW X (.BoolOp .Or [a] pos) tA := by
 intro wh pins s σ H Q I h
 refine isTrue_or (thn (ha pins s σ H Q I h) fun c s1 e => ?_)
 cases c with
 | false => exact isTrue_or_nil e
 | true => exact e
theorem qf (ha : PT X a tA) (hb : PW X (.BoolOp .And (b :: rest) pos) tB') : PW X (.BoolOp .And (a :: b :: rest) pos) (tAnd tA tB') := by
 intro wh pins s σ H Q I h
 refine isTrue_and (thn (ha pins s σ H _ I h) fun c s1 ⟨H1, I1, q1⟩ => ?_)
 cases c with
 | true => exact hb wh pins s1 σ H1 Q I1 q1
 | false => exact ⟨H1, I1, q1⟩
theorem Nd (ha : PT X a tA) (hb : PW X (.BoolOp .Or (b :: rest) pos) tB') : PW X (.BoolOp .Or (a :: b :: rest) pos) (tOr tA tB') := by
 intro wh pins s σ H Q I h
 refine isTrue_or (thn (ha pins s σ H _ I h) fun c s1 ⟨H1, I1, q1⟩ => ?_)
 cases c with
 | true => exact ⟨H1, I1, q1⟩
 | false => exact hb wh pins s1 σ H1 Q I1 q1
theorem rf (ha : PT X a tA) : PT X (.UnaryOp .Not a pos) (tNot tA) := by
 intro pins s σ H Q I h
 exact isTrue_not (ha pins s σ H (fun c H1 => Q (!c) H1) I h)
def tAndV (ta tb : TE) : TE := fun σ H Q => ta σ H fun x H1 => ∃ c, x = .bl c /\ if c = true then tb σ H1 Q else Q (.bl false) H1
def tNotV (ta : TE) : TE := fun σ H Q => ta σ H fun x H1 => ∃ c, x = .bl c /\ Q (.bl (!c)) H1
theorem pe_one {op} {t : TE} (h : PE X a t) : PE X (.BoolOp op [a] pos) t := fun pins s σ H Q I hw => BoolOp_one (h pins s σ H Q I hw)
theorem pe_and (ha : PE X a ta) (hb : PE X (.BoolOp .And (b :: rest) pos) tb) : PE X (.BoolOp .And (a :: b :: rest) pos) (tAndV ta tb) := by
 intro pins s σ H Q I h
 refine BoolOp_and (thn (ha pins s σ H _ I h) fun v s1 ⟨x, H1, I1, r1, q1⟩ => ?_)
 obtain ⟨c, rfl, q1⟩ := q1
 cases r1
 refine wpAny_truthy_bool ?_
 cases c with
 | true => exact hb pins s1 σ H1 Q I1 q1
 | false => exact ⟨.bl false, H1, I1, rfl, q1⟩
theorem pe_not (ha : PE X a ta) : PE X (.UnaryOp .Not a pos) (tNotV ta) := by
 intro pins s σ H Q I h
 refine UnaryOp_ (thn (ha pins s σ H _ I h) fun v s1 ⟨x, H1, I1, r1, q1⟩ => ?_)
 obtain ⟨c, rfl, q1⟩ := q1
 cases r1
 exact not_of (wpAny_truthy_bool ⟨.bl (!c), H1, I1, rfl, q1⟩)
def tIf (t : TT) (ta tb : TE) : TE := fun σ H Q => t σ H fun c H1 => if c = true then ta σ H1 Q else tb σ H1 Q
theorem uj {c : Expr} (hc : PT X c tA) (ha : PE X a ta) (hb : PE X b tb) : PE X (.IfExp c a b pos) (tIf tA ta tb) := by
 intro pins s σ H Q I h
 refine wpAny_IfExp (thn (hc pins s σ H _ I h) fun d s1 ⟨H1, I1, q1⟩ => ?_)
 cases d with
 | true => exact ha pins s1 σ H1 Q I1 q1
 | false => exact hb pins s1 σ H1 Q I1 q1
end
end L2
namespace L2
open PySem PySem.Spec PyProof.Rows
def SqL (K : PySem.W.Frag) (H : Hp) (a : Addr) (xs : List V) : Prop :=
 Rd H a (.lst xs) \/
  ∃ (o : Obj) (its : Array Value) (n : Nat), K.lookup a = some o /\ o.cls = .type "list" /\ o.dict = none /\ o.data = .seq its n /\ its.size <= sizeLine /\ Vals xs its.toList
def SqT (K : PySem.W.Frag) (H : Hp) (a : Addr) (xs : List V) : Prop :=
 Rd H a (.tup xs) \/
  ∃ (o : Obj) (its : Array Value) (n : Nat), K.lookup a = some o /\ o.cls = .type "tuple" /\ o.data = .seq its n /\ its.size <= sizeLine /\ Vals xs its.toList
def absV : Value -> Option V
 | .none => some .non
 | .bool b => some (.bl b)
 | .int i _ => some (.int i)
 | .str x _ => some (.str x)
 | .bytes b _ => some (.byt b)
 | .float b _ => some (.flt b)
 | .ref a => some (.ref a)
 | .type n => some (.ty n)
 | _ => none
theorem RelV.abs {x : V} {u : Value} (r : RelV x u) : absV u = some x := by
 cases x with
 | non => cases r; rfl
 | bl _ => cases r; rfl
 | int _ => obtain ⟨t, rfl⟩ := r; rfl
 | str _ => obtain ⟨t, rfl⟩ := r; rfl
 | byt _ => obtain ⟨t, rfl⟩ := r; rfl
 | flt _ => obtain ⟨t, rfl⟩ := r; rfl
 | ref _ => cases r; rfl
 | ty _ => cases r; rfl
theorem RelV.inj {x y : V} {u : Value} (r : RelV x u) (q : RelV y u) : x = y := Option.some.inj (r.abs.symm.trans q.abs)
theorem Vals.inj : ∀ {xs ys : List V} {us : List Value}, Vals xs us -> Vals ys us -> xs = ys
 | _, _, _, .nil, .nil => rfl
 | _, _, _, .cons r t, .cons r' t' => by rw [r.inj r', Vals.inj t t']
section
variable {X : Cx} {pins : List (Addr × Obj)} {σ : St} {H : Hp} {s : Shared} {a : Addr} {xs ys : List V}
theorem SqL.of {K : PySem.W.Frag} (h : H a = some (.lst xs)) : SqL K H a xs := .inl (.inl h)
theorem SqT.of {K : PySem.W.Frag} (h : H a = some (.tup xs)) : SqT K H a xs := .inl (.inl h)
theorem Inv.list (I : Inv X pins σ H s) (h : SqL X.K H a xs) : ∃ its : List Value, Vals xs its /\ PlainL s.heap a its.toArray /\ xs.length <= sizeLine := by
 rcases h with h | ⟨o, its, n, hk, hc, hd, hs, hz, r⟩
 . obtain ⟨z, its, n, r, e⟩ := h.ok I.hok
   exact ⟨its, r, ⟨_, n, e, rfl, rfl, rfl⟩, z⟩
 . refine ⟨its.toList, r, ⟨o, n, I.kIn a o hk, hc, hd, by simpa using hs⟩, ?_⟩
   have e := r.length
   simp only [Array.length_toList] at e
   omega
theorem Inv.tuple (I : Inv X pins σ H s) (h : SqT X.K H a xs) : ∃ its : List Value, Vals xs its /\ IsTup s.heap a its.toArray /\ xs.length <= sizeLine := by
 rcases h with h | ⟨o, its, n, hk, hc, hs, hz, r⟩
 . obtain ⟨z, its, r, p⟩ := h.ok I.hok
   exact ⟨its, r, p, z⟩
 . refine ⟨its.toList, r, ⟨o, I.kIn a o hk, hc, n, by simpa using hs⟩, ?_⟩
   have e := r.length
   simp only [Array.length_toList] at e
   omega
theorem Inv.Vn (I : Inv X pins σ H s) (h : SqL X.K H a xs) (h' : SqL X.K H a ys) : xs = ys := by
 obtain ⟨its, r, ⟨o, n, e, _, _, d⟩, _⟩ := I.list h
 obtain ⟨its', r', ⟨o', n', e', _, _, d'⟩, _⟩ := I.list h'
 rw [e] at e'; cases e'
 rw [d] at d'
 injection d' with d1 _
 have : its = its' := by simpa using congrArg Array.toList d1
 subst this
 exact r.inj r'
theorem Inv.dk (I : Inv X pins σ H s) (h : SqT X.K H a xs) (h' : SqT X.K H a ys) : xs = ys := by
 obtain ⟨its, r, ⟨o, e, _, n, d⟩, _⟩ := I.tuple h
 obtain ⟨its', r', ⟨o', e', _, n', d'⟩, _⟩ := I.tuple h'
 rw [e] at e'; cases e'
 rw [d] at d'
 injection d' with d1 _
 have : its = its' := by simpa using congrArg Array.toList d1
 subst this
 exact r.inj r'
end
abbrev Cx.wish (X : Cx) (E : Value -> Shared -> Prop) : Cx := { X with xe := E }
abbrev Cx.nox (X : Cx) : Cx := X.wish fun _ _ => False
theorem Cx.Ok.wish {X : Cx} (ok : X.Ok) (E : Value -> Shared -> Prop) : (X.wish E).Ok :=
 ⟨ok.mod, ok.kind, ok.glob, ok.blt, ok.above, ok.inj, ok.has, ok.cab, ok.hd, ok.frames, ok.stk, ok.exf, ok.bs, ok.bsz, ok.noex, ok.exfs, ok.funs, ok.frf⟩
theorem Cx.Ok.Yf {X : Cx} {E : Value -> Shared -> Prop} (ok : (X.wish E).Ok) : X.Ok :=
 ⟨ok.mod, ok.kind, ok.glob, ok.blt, ok.above, ok.inj, ok.has, ok.cab, ok.hd, ok.frames, ok.stk, ok.exf, ok.bs, ok.bsz, ok.noex, ok.exfs, ok.funs, ok.frf⟩
section
variable {X : Cx} {pins : List (Addr × Obj)} {σ : St} {H : Hp} {s : Shared} {E : Value -> Shared -> Prop}
theorem Inv.wish (I : Inv X pins σ H s) (E : Value -> Shared -> Prop) : Inv (X.wish E) pins σ H s := ⟨I.ok.wish E, I.os, I.bare, I.base, I.loc, I.cell, I.free, I.freeC, I.pin, I.hok, I.len⟩
theorem Inv.Yf (I : Inv (X.wish E) pins σ H s) : Inv X pins σ H s := ⟨I.ok.Yf, I.os, I.bare, I.base, I.loc, I.cell, I.free, I.freeC, I.pin, I.hok, I.len⟩
theorem SP.Yf {D : Ends} {f : Flow} {s' : Shared} (h : SP (X.wish E) pins D f s') : SP X pins D f s' := by
 cases f with
 | next => obtain ⟨σ', H', I, q⟩ := h; exact ⟨σ', H', I.Yf, q⟩
 | brk => obtain ⟨σ', H', I, q⟩ := h; exact ⟨σ', H', I.Yf, q⟩
 | cont => obtain ⟨σ', H', I, q⟩ := h; exact ⟨σ', H', I.Yf, q⟩
 | ret u => obtain ⟨v, σ', H', I, r, q⟩ := h; exact ⟨v, σ', H', I.Yf, r, q⟩
theorem PSs.nox {st : List Stmt} {t : TS} (h : PSs X.nox st t) : PSs X st t := fun pins s σ H D I hw =>
 wpAny_mono (h pins s σ H D (I.wish _) hw) (fun _ _ q => q.Yf) fun _ _ z => False.elim z
end
section
variable {X : Cx} {st : Stmt} {rest : List Stmt} {t u : TS} {e : Expr} {te : TE} {pos : Pos}
def tNext : TS := fun D σ H => D.nx σ H
def tSeq (t u : TS) : TS := fun D σ H => t { D with nx := u D } σ H
theorem Ka : PSs X [] tNext := fun _ _ σ H _ I h => wpAny_execs_nil ⟨σ, H, I, h⟩
theorem ba (h1 : PS X st t) (h2 : PSs X rest u) : PSs X (st :: rest) (tSeq t u) := by
 intro pins s σ H D I h
 refine wpAny_execs_cons (thn (h1 pins s σ H { D with nx := u D } I h) fun f s1 q => ?_)
 cases f with
 | next =>
  obtain ⟨σ', H', I', q⟩ := q
  exact h2 pins s1 σ' H' D I' q
 | ret v => exact q
 | brk => exact q
 | cont => exact q
theorem ka (h1 : PS X st t) : PSs X [st] t := by
 intro pins s σ H D I h
 refine wpAny_execs_cons (thn (h1 pins s σ H D I h) fun f s1 q => ?_)
 cases f with
 | next => exact wpAny_execs_nil q
 | ret v => exact q
 | brk => exact q
 | cont => exact q
theorem Inv.quiet {pins : List (Addr × Obj)} {σ : St} {H : Hp} {s : Shared} (I : Inv X pins σ H s) : interactive X.env = false := by simp [interactive, I.ok.kind]
def tDrop (te : TE) : TS := fun D σ H => te σ H fun _ H1 => D.nx σ H1
theorem ib (he : PE X e te) (hs : swapsWith e none pos.line X.env = pure false := by first | rfl | with_unfolding_all rfl) : PS X (.Expr e pos) (tDrop te) := by
 intro pins s σ H D I h
 exact wpAny_Expr_any (thn (he pins s σ H _ I h) fun v s1 ⟨x, H1, I1, r1, q1⟩ => ⟨σ, H1, I1, q1⟩) I.quiet hs
def tRet (te : TE) : TS := fun D σ H => te σ H D.rt
theorem Ea (he : PE X e te) : PS X (.Return (some e) pos) (tRet te) := by
 intro pins s σ H D I h
 exact wpAny_Return_some (thn (he pins s σ H _ I h) fun v s1 ⟨x, H1, I1, r1, q1⟩ => ⟨x, σ, H1, I1, r1, q1⟩)
def tIfS (c : TT) (t u : TS) : TS := fun D σ H => c σ H fun b H1 => if b = true then t D σ H1 else u D σ H1
theorem Sa {c : Expr} {a b : List Stmt} {tc : TT} (hc : PT X c tc) (ha : PSs X a t) (hb : PSs X b u) : PS X (.If c a b pos) (tIfS tc t u) := by
 intro pins s σ H D I h
 refine wpAny_If (thn (hc pins s σ H _ I h) fun d s1 ⟨H1, I1, q1⟩ => ?_)
 cases d with
 | true => exact ha pins s1 σ H1 D I1 q1
 | false => exact hb pins s1 σ H1 D I1 q1
def tNever : TS := fun _ _ _ => False
theorem nc : PS X st tNever := fun _ _ _ _ _ _ h => h.elim
end
abbrev TG := V -> St -> Hp -> (St -> Hp -> Prop) -> Prop
abbrev TGs := List V -> St -> Hp -> (St -> Hp -> Prop) -> Prop
def PG (X : Cx) (target : Expr) (t : TG) : Prop :=
 ∀ (pins : List (Addr × Obj)) (s : Shared) (σ : St) (H : Hp) (v : V) (u : Value) (Q : St -> Hp -> Prop), Inv X pins σ H s -> RelV v u -> t v σ H Q ->
  wpAny (model X.prog X.w) X.A (assign target X.env u) (fun _ s' => ∃ σ' H', Inv X pins σ' H' s' /\ Q σ' H') X.xe s
def PGs (X : Cx) (ts : List Expr) (t : TGs) : Prop :=
 ∀ (pins : List (Addr × Obj)) (s : Shared) (σ : St) (H : Hp) (vs : List V) (us : List Value) (Q : St -> Hp -> Prop), Inv X pins σ H s -> Vals vs us -> t vs σ H Q ->
  wpAny (model X.prog X.w) X.A (assignInOrder ((assignEach ts X.env).map (·.2)) us) (fun _ s' => ∃ σ' H', Inv X pins σ' H' s' /\ Q σ' H') X.xe s
abbrev TSet := V -> V -> V -> Hp -> (Hp -> Prop) -> Prop
def PSet (X : Cx) (t : TSet) : Prop :=
 ∀ (pins : List (Addr × Obj)) (s : Shared) (σ : St) (H : Hp) (o i v : V) (ov iv u : Value) (Q : Hp -> Prop), Inv X pins σ H s -> RelV o ov -> RelV i iv -> RelV v u -> t o i v H Q ->
  wpAny (model X.prog X.w) X.A (setItem ov iv u) (fun _ s' => ∃ H', Inv X pins σ H' s' /\ Q H') X.xe s
abbrev TIp := V -> V -> Hp -> VK -> Prop
def PIp (X : Cx) (op : Operator) (t : TIp) : Prop :=
 ∀ (pins : List (Addr × Obj)) (s : Shared) (σ : St) (H : Hp) (x y : V) (v u : Value) (Q : VK), Inv X pins σ H s -> RelV x v -> RelV y u -> t x y H Q ->
  wpAny (model X.prog X.w) X.A (inplaceOp op v u) (EP X pins σ Q) X.xe s
section
variable {X : Cx} {pos : Pos}
def Bm (i : Nat) : TG := fun v σ H Q => Q (σ.set i (some v)) H
theorem Aa {i : Nat} {x : Str} (hN : X.N.Nodup) (hi : X.N[i]? = some x) (hx : Loc X.env.scope x) (hf : X.fn x = true \/ X.env.scope.names.lookup x = some .local := by first | exact .inl rfl | exact .inr rfl | assumption | with_unfolding_all exact .inl rfl | with_unfolding_all exact .inr rfl) : PG X (.Name x pos) (Bm i) := by
 intro pins s σ H v u Q I r h
 exact wpAny_assign_Name (Li I hN hi hx r (fun s' I' => ⟨_, H, I', h⟩) hf)
def gNil : TGs := fun vs σ H Q => vs = [] /\ Q σ H
def gCons (t : TG) (u : TGs) : TGs := fun vs σ H Q => ∃ v r, vs = v :: r /\ t v σ H fun σ' H' => u r σ' H' Q
theorem Eb : PGs X [] gNil := by
 intro pins s σ H vs us Q I r h
 obtain ⟨e, h⟩ := h
 subst e
 cases r
 exact assignInOrder_nil ⟨σ, H, I, h⟩
theorem Pa {e : Expr} {es : List Expr} {t : TG} {u : TGs} (h1 : PG X e t) (h2 : PGs X es u)
 (hs : (assignEach (e :: es) X.env).map (·.2) = assign e X.env :: (assignEach es X.env).map (·.2) := by first | rfl | with_unfolding_all rfl) : PGs X (e :: es) (gCons t u) := by
 intro pins s σ H vs us Q I r h
 obtain ⟨v, vr, e1, h⟩ := h
 subst e1
 cases r with
 | cons r rr =>
  rw [hs]
  refine assignInOrder_cons (thn (h1 pins s σ H _ _ _ I r h) fun _ s1 ⟨σ1, H1, I1, q1⟩ => ?_)
  exact h2 pins s1 σ1 H1 _ _ Q I1 rr q1
def gTup (K : PySem.W.Frag) (n : Nat) (t : TGs) : TG := fun v σ H Q => ∃ a xs, v = .ref a /\ SqT K H a xs /\ xs.length = n /\ t xs σ H Q
theorem pg_tup {es : List Expr} {k : Nat} {t : TGs} {n : Nat} (hc : X.calm = true) (h : PGs X es t)
 (hn : (assignEach es X.env).length = n := by first | rfl | with_unfolding_all rfl) (hst : (assignEach es X.env).findIdx? (·.1) = none := by first | rfl | with_unfolding_all rfl) : PG X (.Tuple es k pos) (gTup X.K n t) := by
 intro pins s σ H v u Q I r hw
 obtain ⟨a, xs, e1, hq, hl, hw⟩ := hw
 subst e1
 cases r
 obtain ⟨its, rv, ht, hz⟩ := I.tuple hq
 refine assign_Tuple_tuple (I.ok.hd hc) ht (by simp [hn, <- hl, rv.length]) hst fun h' hx => ?_
 have I1 : Inv X pins σ H { s with heap := h' } := I.kept (t' := s.toks) fun b o e => hx b o (Nat.ne_of_lt (Heap.lt_size e)) e
 exact h pins _ σ H xs _ Q I1 (by simpa using rv) hw
def gSub (to ti : TE) (t : TSet) : TG := fun v σ H Q => to σ H fun o H1 => ti σ H1 fun i H2 => t o i v H2 fun H3 => Q σ H3
theorem bg {o i : Expr} {to ti : TE} {t : TSet} (ho : PE X o to) (hi : PE X i ti) (hs : PSet X t)
 (ha : ∀ v, assign (.Subscript o i pos) X.env v = (do
   let ov <- holding [v] (eval o X.env)
   let iv <- holding [v, ov] (eval i X.env)
   standAt pos
   holding [v, ov, iv] (setItem ov iv v)
   release [v, ov, iv] []) := by intro _; first | rfl | with_unfolding_all rfl) : PG X (.Subscript o i pos) (gSub to ti t) := by
 intro pins s σ H v u Q I r h
 rw [ha]
 refine wpAny_bind (wpAny_holding (thn (ho pins s σ H _ I h) fun ov s1 ⟨x, H1, I1, r1, q1⟩ => ?_))
 refine wpAny_bind (wpAny_holding (thn (hi pins s1 σ H1 _ I1 q1) fun iv s2 ⟨y, H2, I2, r2, q2⟩ => ?_))
 refine wpAny_bind (wpAny_standAt (wpAny_bind (wpAny_holding (thn (hs pins s2 σ H2 x y v ov iv u _ I2 r1 r2 r q2) fun _ s3 ⟨H3, I3, q3⟩ => ?_))))
 exact wpAny_release ⟨σ, H3, I3, q3⟩
def tAsg (te : TE) (g : TG) : TS := fun D σ H => te σ H fun x H1 => g x σ H1 D.nx
theorem Xd {tg e : Expr} {te : TE} {g : TG} (he : PE X e te) (hg : PG X tg g) (hs : swapsWithSole [tg] e pos.line X.env = pure false := by first | rfl | with_unfolding_all rfl) (hw : swappedStores [tg] e X.env = pure none := by first | rfl | with_unfolding_all rfl)
 (h1 : (assignEach [tg] X.env).map (·.2) = [assign tg X.env] := by first | rfl | with_unfolding_all rfl) : PS X (.Assign [tg] e pos) (tAsg te g) := by
 intro pins s σ H D I h
 refine wpAny_Assign_stores (thn (he pins s σ H _ I h) fun v s1 ⟨x, H1, I1, r1, q1⟩ => ?_) hs hw
 rw [h1]
 exact thn (hg pins s1 σ H1 x v _ I1 r1 q1) fun _ s2 q => q
theorem xa {i : Nat} {x : Str} {e : Expr} {te : TE} {pos' : Pos} (hN : X.N.Nodup) (hi : X.N[i]? = some x) (hx : Loc X.env.scope x) (he : PE X e te) (hs : swapsWith e (some (.Name x pos')) pos.line X.env = pure false := by first | rfl | with_unfolding_all rfl) (hf : X.fn x = true \/ X.env.scope.names.lookup x = some .local := by first | exact .inl rfl | exact .inr rfl | assumption | with_unfolding_all exact .inl rfl | with_unfolding_all exact .inr rfl) :
 PS X (.Assign [.Name x pos'] e pos) (tAsg te (Bm i)) := by
 intro pins s σ H D I h
 refine wpAny_Assign_Name (thn (he pins s σ H _ I h) fun v s1 ⟨y, H1, I1, r1, q1⟩ => ?_) hs
 exact Li I1 hN hi hx r1 (fun s2 I2 => ⟨_, H1, I2, q1⟩) hf
def tAug (i : Nat) (te : TE) (ti : TIp) : TS := fun D σ H => ∃ x, σ[i]? = some (some x) /\ te σ H fun y H1 => ti x y H1 fun z H2 => D.nx (σ.set i (some z)) H2
theorem jd {i : Nat} {x : Str} {e : Expr} {te : TE} {op : Operator} {ti : TIp} {pos' : Pos} (hN : X.N.Nodup) (hi : X.N[i]? = some x) (hx : Loc X.env.scope x) (he : PE X e te) (ho : PIp X op ti) (hf : X.fn x = true \/ X.env.scope.names.lookup x = some .local := by first | exact .inl rfl | exact .inr rfl | assumption | with_unfolding_all exact .inl rfl | with_unfolding_all exact .inr rfl) :
 PS X (.AugAssign (.Name x pos') op e pos) (tAug i te ti) := by
 intro pins s σ H D I h
 obtain ⟨v, e1, h⟩ := h
 obtain ⟨m, hn, hl⟩ := I.loc
 have vis : Vis X.env.scope x := by rcases hx with k | k; exact .inl k; exact .inr (.inl k)
 obtain ⟨u, r, l⟩ := hl i x v hi e1 vis
 refine wpAny_AugAssign_Name ?_
 have go : wpAny (model X.prog X.w) X.A (eval e X.env) (fun w s₂ => wpAny (model X.prog X.w) X.A (inplaceOp op u w) (fun r s₃ => wpAny (model X.prog X.w) X.A (storeName X.env x r) (fun _ => SP X pins D .next) X.xe s₃) X.xe s₂) X.xe s := by
  refine thn (he pins s σ H _ I h) fun w s1 ⟨y, H1, I1, r1, q1⟩ => ?_
  refine thn (ho pins s1 σ H1 v y u w _ I1 r r1 q1) fun z s2 ⟨zv, H2, I2, r2, q2⟩ => ?_
  exact Li I2 hN hi hx r2 (fun s3 I3 => ⟨_, H2, I3, q2⟩) hf
 rcases l with ⟨hk, hm⟩ | ⟨hk, c, hc, hcell⟩
 . exact wpAny_loadName_local I.ok.kind hk hn hm go
 . rcases hk with hk | hk
   . exact wpAny_loadName_cell I.ok.kind hk hc hcell go
   . rcases hx with k | k
     . have : X.env.scope.names.lookup x = some .free := hk
       rw [k] at this; cases this
     . have : X.env.scope.names.lookup x = some .free := hk
       rw [k] at this; cases this
def tAugS (to ti te : TE) (tget : V -> V -> Hp -> VK -> Prop) (tip : TIp) (tset : TSet) : TS := fun D σ H => to σ H fun o H1 => ti σ H1 fun i H2 => tget o i H2 fun x H3 => te σ H3 fun y H4 => tip x y H4 fun z H5 => tset o i z H5 fun H6 => D.nx σ H6
def PGet (X : Cx) (t : V -> V -> Hp -> VK -> Prop) : Prop :=
 ∀ (pins : List (Addr × Obj)) (s : Shared) (σ : St) (H : Hp) (o i : V) (ov iv : Value) (Q : VK), Inv X pins σ H s -> RelV o ov -> RelV i iv -> t o i H Q ->
  wpAny (model X.prog X.w) X.A (getItem ov iv) (EP X pins σ Q) X.xe s
theorem Ow {o i e : Expr} {to ti te : TE} {tget : V -> V -> Hp -> VK -> Prop} {tip : TIp} {tset : TSet} {op : Operator} {tpos : Pos} (ho : PE X o to) (hi : PE X i ti) (hg : PGet X tget) (he : PE X e te) (hp : PIp X op tip) (hs : PSet X tset)
 (ha : ∀ ov iv new, augStore i ov iv new = (do holding [new, ov, iv] (setItem ov iv new); release [new, ov, iv] []; pure .next) := by intros; first | rfl | with_unfolding_all rfl) : PS X (.AugAssign (.Subscript o i tpos) op e pos) (tAugS to ti te tget tip tset) := by
 intro pins s σ H D I h
 refine wpAny_AugAssign_SubscriptAny (thn (ho pins s σ H _ I h) fun ov s1 ⟨x1, H1, I1, r1, q1⟩ => ?_) ha
 refine thn (hi pins s1 σ H1 _ I1 q1) fun iv s2 ⟨x2, H2, I2, r2, q2⟩ => ?_
 refine thn (hg pins s2 σ H2 x1 x2 ov iv _ I2 r1 r2 q2) fun old s3 ⟨x3, H3, I3, r3, q3⟩ => ?_
 refine thn (he pins s3 σ H3 _ I3 q3) fun v s4 ⟨x4, H4, I4, r4, q4⟩ => ?_
 refine thn (hp pins s4 σ H4 x3 x4 old v _ I4 r3 r4 q4) fun new s5 ⟨x5, H5, I5, r5, q5⟩ => ?_
 exact thn (hs pins s5 σ H5 x1 x2 x5 ov iv new _ I5 r1 r2 r5 q5) fun _ s6 ⟨H6, I6, q6⟩ => ⟨σ, H6, I6, q6⟩
def ipI (f : Int -> Int -> Int) : TIp := fun x y H Q => ∃ i j, x = .int i /\ y = .int j /\ Q (.int (f i j)) H
theorem dg : PIp X .Add (ipI fun i j => i + j) := by
 intro pins s σ H x y v u Q I r1 r2 h
 obtain ⟨i, j, e1, e2, q⟩ := h
 subst e1; subst e2
 obtain ⟨t, rfl⟩ := r1
 obtain ⟨t', rfl⟩ := r2
 exact iadd_int ⟨.int _, H, I.tok _, ⟨_, rfl⟩, q⟩
theorem Wn : PIp X .Sub (ipI fun i j => i - j) := by
 intro pins s σ H x y v u Q I r1 r2 h
 obtain ⟨i, j, e1, e2, q⟩ := h
 subst e1; subst e2
 obtain ⟨t, rfl⟩ := r1
 obtain ⟨t', rfl⟩ := r2
 exact isub_int ⟨.int _, H, I.tok _, ⟨_, rfl⟩, q⟩
end
section
variable {X : Cx} {pos : Pos}
def Tu (c : TT) (tb : TS) : TS := fun D σ H => ∃ W : Nat -> St -> Hp -> Prop, (∃ m, W m σ H) /\ ∀ m σ H, W m σ H ->
 c σ H fun b H1 => if b = true then ∃ N : St -> Hp -> Prop, (∀ σ' H', N σ' H' -> ∃ m', m' < m /\ W m' σ' H') /\ tb { D with nx := N, ct := N, bk := D.nx } σ H1 else D.nx σ H1
theorem ku {c : Expr} {body : List Stmt} {tc : TT} {tb : TS} (hp : PassesOwn (model X.prog X.w) X.A X.env X.xe) (hc : PT X c tc) (hb : PSs X body tb) : PS X (.While c body [] pos) (Tu tc tb) := by
 intro pins s σ H D I h
 obtain ⟨W, ⟨m0, w0⟩, turn⟩ := h
 refine wpAny_While (codeAny_whileLoop (fun n s' => ∃ σ' H', Inv X pins σ' H' s' /\ W n σ' H') ?_ m0 ⟨σ, H, I, w0⟩)
 rintro n s1 ⟨σ1, H1, I1, w1⟩
 refine wpAny_passesOwn hp (thn (hc pins s1 σ1 H1 _ I1 (turn n σ1 H1 w1)) fun b s2 ⟨H2, I2, q2⟩ => ?_)
 cases b with
 | true =>
  obtain ⟨N, hN, q2⟩ := q2
  rw [if_pos rfl]
  refine wpAny_passesOwn hp (thn (hb pins s2 σ1 H2 _ I2 q2) fun f s3 q3 => ?_)
  cases f with
  | next =>
   obtain ⟨σ3, H3, I3, n3⟩ := q3
   obtain ⟨m', hm, w3⟩ := hN σ3 H3 n3
   exact ⟨m', hm, σ3, H3, I3, w3⟩
  | cont =>
   obtain ⟨σ3, H3, I3, n3⟩ := q3
   obtain ⟨m', hm, w3⟩ := hN σ3 H3 n3
   exact ⟨m', hm, σ3, H3, I3, w3⟩
  | brk => exact q3
  | ret v => exact q3
 | false =>
  rw [if_neg Bool.false_ne_true]
  exact wpAny_execs_nil ⟨σ1, H2, I2, q2⟩
end
structure It where
 go : Nat -> Hp -> Prop
 yld : Nat -> Hp -> V -> Hp -> Prop
 stop : Nat -> Hp -> Prop
def FpOk (X : Cx) (pins : List (Addr × Obj)) (H : Hp) (b : Addr) : Prop :=
 H b = none /\ b ≠ X.env.locals /\ b ∉ X.fs /\ (b ∈ X.ex \/ X.s₀.heap.objs.size <= b) /\ (∀ x c, X.env.cells.lookup x = some c -> c ≠ b) /\ ∀ p ∈ X.pn ++ pins, p.1 ≠ b
theorem Inv.fpOk {X : Cx} {pins : List (Addr × Obj)} {σ : St} {H H' : Hp} {s : Shared} {b : Addr} (I : Inv X pins σ H s) (hb : s.heap.objs.size <= b) (hn : H' b = none) : FpOk X pins H' b := by
 refine ⟨hn, Nat.ne_of_gt (Nat.lt_of_lt_of_le I.lt hb), I.nofs hb, .inr (Nat.le_trans I.sz hb), fun x c e z => ?_, fun p hp z => ?_⟩
 . obtain ⟨v, q⟩ := I.cell x c e
   exact absurd (Nat.lt_of_lt_of_le q.lt (by rw [z]; exact hb)) (Nat.lt_irrefl _)
 . exact absurd (Nat.lt_of_lt_of_le (Heap.lt_size (I.pin p hp).1) (by rw [z]; exact hb)) (Nat.lt_irrefl _)
structure Turn (P : Program) (w : World) (K : PySem.W.Frag) (tg : Expr) (J : It) (fp : List Addr) (it : Addr) (tn : Nat -> Heap -> Prop) : Prop where
 mem : it ∈ fp
 obj : ∀ i h, tn i h -> ∀ b ∈ fp, ∃ o, h.get? b = some o /\ ∀ v, o.data ≠ .cell v
 keep : ∀ i h h', tn i h -> (∀ b ∈ fp, ∀ o, h.get? b = some o -> h'.get? b = some o) -> tn i h'
 item : ∀ (X : Cx), X.prog = P -> X.w = w -> X.K = K -> X.calm = true -> ∀ (i : Nat) (pins : List (Addr × Obj)) (s : Shared) (σ : St) (H : Hp) (E : Value -> Shared -> Prop), Inv X pins σ H s -> (∀ b ∈ fp, FpOk X pins H b) -> tn i s.heap -> J.go i H ->
  wpAny (model P w) X.A (pyNext (.ref it)) (fun r s1 => ∃ u, r = some u /\
   wpAny (model P w) X.A (letOwnedTupleGo tg (.ref it) u) (fun _ s2 => ∃ x H', Inv X pins σ H' s2 /\ RelV x u /\ J.yld i H x H' /\ tn (i + 1) s2.heap /\ ∀ b ∈ fp, H' b = none) E s1) E s
 done : ∀ (X : Cx), X.prog = P -> X.w = w -> X.K = K -> X.calm = true -> ∀ (i : Nat) (pins : List (Addr × Obj)) (s : Shared) (σ : St) (H : Hp) (E : Value -> Shared -> Prop), Inv X pins σ H s -> (∀ b ∈ fp, FpOk X pins H b) -> tn i s.heap -> J.stop i H ->
  wpAny (model P w) X.A (pyNext (.ref it)) (fun r s1 => r = none /\ Inv X pins σ H s1) E s
 self : ∀ (A : Around) (i : Nat) (s : Shared) (Q : Value -> Shared -> Prop) (E : Value -> Shared -> Prop), tn i s.heap -> Q (.ref it) s -> wpAny (model P w) A (pyIter (.ref it)) Q E s
abbrev TI := St -> Hp -> (It -> Hp -> Prop) -> Prop
def PIE (X : Cx) (pins : List (Addr × Obj)) (σ : St) (tg : Expr) (R : It -> Hp -> Prop) (itv : Value) (s2 : Shared) : Prop :=
 ∃ (it : Addr) (fp : List Addr) (tn : Nat -> Heap -> Prop) (J : It) (H' : Hp), itv = .ref it /\ Inv X pins σ H' s2 /\ Turn X.prog X.w X.K tg J fp it tn /\ tn 0 s2.heap /\ (∀ b ∈ fp, FpOk X pins H' b) /\ R J H'
def PI (X : Cx) (tg iter : Expr) (wi : TI) : Prop :=
 ∀ (pins : List (Addr × Obj)) (s : Shared) (σ : St) (H : Hp) (R : It -> Hp -> Prop), Inv X pins σ H s -> wi σ H R ->
  wpAny (model X.prog X.w) X.A (eval iter X.env) (fun v s1 => wpAny (model X.prog X.w) X.A (pyIter v) (PIE X pins σ tg R) X.xe s1) X.xe s
theorem Du {M : Model} {A : Around} {E : Value -> Shared -> Prop} {s : Shared} {tg : Expr} {it : Addr} {u : Value} {o : Obj} {n : String} {vs : Array Value} {Q : Unit -> Shared -> Prop} (ho : s.heap.get? it = some o) (hc : o.cls = .type n) (hd : o.data = .fields vs)
 (hn : ["enumerate", "zip", "dict_itemiterator", "dict_reverseitemiterator", "odict_iterator", "itertools.zip_longest", "itertools.pairwise"].contains n = false) (hQ : Q () s) : wpAny M A (letOwnedTupleGo tg (.ref it) u) Q E s := by
 unfold letOwnedTupleGo
 cases tg <;> first
  | exact wpAny_pure hQ
  | (cases u <;> first
      | exact wpAny_pure hQ
      | (refine wpAny_bind (wpAny_load ho ?_)
         rw [hc, hd]
         show wpAny M A (if (["enumerate", "zip", "dict_itemiterator", "dict_reverseitemiterator", "odict_iterator", "itertools.zip_longest", "itertools.pairwise"].contains n && vs[0]? == some (rawInt _)) = true then _ else _) Q E s
         rw [if_neg (by intro h; rw [hn, Bool.false_and] at h; cases h)]
         exact wpAny_pure hQ))
def Itl (K : PySem.W.Frag) (a : Addr) : It :=
 ⟨fun i H => ∃ xs x, SqL K H a xs /\ xs[i]? = some x, fun i H x H' => H' = H /\ ∀ xs, SqL K H a xs -> xs[i]? = some x, fun i H => ∃ xs, SqL K H a xs /\ xs.length <= i⟩
def Itt (K : PySem.W.Frag) (a : Addr) : It :=
 ⟨fun i H => ∃ xs x, SqT K H a xs /\ xs[i]? = some x, fun i H x H' => H' = H /\ ∀ xs, SqT K H a xs -> xs[i]? = some x, fun i H => ∃ xs, SqT K H a xs /\ xs.length <= i⟩
def Itr (lo : Int) (n : Nat) : It := ⟨fun i _ => i < n, fun i H x H' => H' = H /\ x = .int (lo + i), fun i _ => n <= i⟩
theorem Fp {P : Program} {w : World} {K : PySem.W.Frag} {tg : Expr} (a it : Addr) : Turn P w K tg (Itl K a) [it] it (fun i h => h.IsListIter it a i) where
 mem := by simp
 obj := fun i h st b hb => by
  have e : b = it := by simpa using hb
  subst e
  obtain ⟨o, e, c, d⟩ := st
  exact ⟨o, e, fun v z => by rw [d] at z; cases z⟩
 keep := fun i h h' st k => st.at fun o e => k it (by simp) o e
 item := by
  intro X hP hw hK hc i pins s σ H E I hf st hg
  subst hP hw hK
  obtain ⟨xs, x, hq, hx⟩ := hg
  obtain ⟨its, rv, p, hz⟩ := I.list hq
  obtain ⟨u, hu, ru⟩ := rv.get hx
  obtain ⟨f0, f1, f2, f3, f4, f5⟩ := hf it (by simp)
  refine wpAny_pyNext_list_item st p.isList (x := u) (by simpa using hu) fun h' st' sb => ?_
  have I1 : Inv X pins σ H { s with heap := h' } := I.turned (t' := s.toks) (fun b o hb e => (sb.2 b hb).trans e) f0 f1 f3 f4 f5
  obtain ⟨o, e, c, d⟩ := id st'
  exact ⟨u, rfl, Du (s := { s with heap := h' }) e c d (by decide) ⟨x, H, I1, ru, ⟨rfl, fun ys hy => by rw [I.Vn hy hq]; exact hx⟩, st', fun b hb => (hf b hb).1⟩⟩
 done := by
  intro X hP hw hK hc i pins s σ H E I hf st hg
  subst hP hw hK
  obtain ⟨xs, hq, hx⟩ := hg
  obtain ⟨its, rv, p, hz⟩ := I.list hq
  obtain ⟨f0, f1, f2, f3, f4, f5⟩ := hf it (by simp)
  have hl := rv.length
  exact wpAny_pyNext_list_end (I.ok.hd hc) st p.isList (by simp; omega) fun h' eb => ⟨rfl, I.turned (t' := s.toks) (fun b o hb e => eb b o hb e) f0 f1 f3 f4 f5⟩
 self := fun _ _ _ _ _ st h => wpAny_pyIter_listiter st h
theorem yo {P : Program} {w : World} {K : PySem.W.Frag} {tg : Expr} (a it : Addr) : Turn P w K tg (Itt K a) [it] it (fun i h => h.IsTupleIter it a i) where
 mem := by simp
 obj := fun i h st b hb => by
  have e : b = it := by simpa using hb
  subst e
  obtain ⟨o, e, c, d⟩ := st
  exact ⟨o, e, fun v z => by rw [d] at z; cases z⟩
 keep := fun i h h' st k => st.at fun o e => k it (by simp) o e
 item := by
  intro X hP hw hK hc i pins s σ H E I hf st hg
  subst hP hw hK
  obtain ⟨xs, x, hq, hx⟩ := hg
  obtain ⟨its, rv, p, hz⟩ := I.tuple hq
  obtain ⟨u, hu, ru⟩ := rv.get hx
  obtain ⟨f0, f1, f2, f3, f4, f5⟩ := hf it (by simp)
  refine wpAny_pyNext_tuple_item st (show s.heap.IsTuple a its.toArray from p) (x := u) (by simpa using hu) fun h' st' sb => ?_
  have I1 : Inv X pins σ H { s with heap := h' } := I.turned (t' := s.toks) (fun b o hb e => (sb.2 b hb).trans e) f0 f1 f3 f4 f5
  obtain ⟨o, e, c, d⟩ := id st'
  exact ⟨u, rfl, Du (s := { s with heap := h' }) e c d (by decide) ⟨x, H, I1, ru, ⟨rfl, fun ys hy => by rw [I.dk hy hq]; exact hx⟩, st', fun b hb => (hf b hb).1⟩⟩
 done := by
  intro X hP hw hK hc i pins s σ H E I hf st hg
  subst hP hw hK
  obtain ⟨xs, hq, hx⟩ := hg
  obtain ⟨its, rv, p, hz⟩ := I.tuple hq
  obtain ⟨f0, f1, f2, f3, f4, f5⟩ := hf it (by simp)
  have hl := rv.length
  exact wpAny_pyNext_tuple_end (I.ok.hd hc) st (show s.heap.IsTuple a its.toArray from p) (by simp; omega) fun h' eb => ⟨rfl, I.turned (t' := s.toks) (fun b o hb e => eb b o hb e) f0 f1 f3 f4 f5⟩
 self := fun _ _ _ _ _ st h => wpAny_pyIter_tupleiter st h
theorem zo {P : Program} {w : World} {K : PySem.W.Frag} {tg : Expr} (it : Addr) (lo : Int) (n : Nat) : Turn P w K tg (Itr lo n) [it] it (fun i h => IsRangeIter h it (lo + (i : Nat) * 1) ((n : Int) - (i : Nat)) 1) where
 mem := by simp
 obj := fun i h st b hb => by
  have e : b = it := by simpa using hb
  subst e
  exact ⟨_, st, fun v z => by
   have z' : Data.fields _ = Data.cell v := z
   cases z'⟩
 keep := fun i h h' st k => k it (by simp) _ st
 item := by
  intro X hP hw hK hc i pins s σ H E I hf st hg
  subst hP hw hK
  obtain ⟨f0, f1, f2, f3, f4, f5⟩ := hf it (by simp)
  have W := Walks.range (prog := X.prog) (w := X.w) (I.ok.hd hc) it lo 1 n
  refine W.item i s _ _ hg st fun v h' tk hv st' kk => ?_
  obtain ⟨t, rfl⟩ := hv
  have I1 : Inv X pins σ H { s with heap := h', toks := tk } := I.turned (fun b o hb e => kk b o (by simpa using hb) e) f0 f1 f3 f4 f5
  refine ⟨_, rfl, Du (s := { s with heap := h', toks := tk }) (n := "range_iterator") st' rfl rfl (by decide) ⟨.int (lo + i), H, I1, ⟨t, ?_⟩, ⟨rfl, rfl⟩, st', fun b hb => (hf b hb).1⟩⟩
  rw [Int.mul_one]
 done := by
  intro X hP hw hK hc i pins s σ H E I hf st hg
  subst hP hw hK
  obtain ⟨f0, f1, f2, f3, f4, f5⟩ := hf it (by simp)
  exact wpAny_pyNext_range_end (I.ok.hd hc) st (by have : n <= i := hg; omega) fun h' eb => ⟨rfl, I.turned (t' := s.toks) (fun b o hb e => eb b o hb e) f0 f1 f3 f4 f5⟩
 self := fun _ _ _ _ _ st h => wpAny_pyIter_rangeiter st h
end L2
namespace L2
open PySem PySem.Spec PyProof.Rows
section
variable {X : Cx} {tg : Expr}
def Bu (K : PySem.W.Frag) (tl : TE) : TI := fun σ H R => tl σ H fun x H1 => ∃ a, x = .ref a /\ (∃ xs, SqL K H1 a xs) /\ R (Itl K a) H1
def iTup (K : PySem.W.Frag) (tl : TE) : TI := fun σ H R => tl σ H fun x H1 => ∃ a, x = .ref a /\ (∃ xs, SqT K H1 a xs) /\ R (Itt K a) H1
theorem Rw {l : Expr} {tl : TE} (hl : PE X l tl) : PI X tg l (Bu X.K tl) := by
 intro pins s σ H R I h
 refine thn (hl pins s σ H _ I h) fun v s1 ⟨x, H1, I1, r1, q1⟩ => ?_
 obtain ⟨a, e, ⟨xs, hq⟩, q⟩ := q1
 subst e
 cases r1
 obtain ⟨its, rv, p, hz⟩ := I1.list hq
 refine wpAny_pyIter_list p.isList ?_
 refine ⟨s1.heap.objs.size, [s1.heap.objs.size], _, _, H1, rfl, I1.kept (t' := s1.toks) fun b o e => Heap.get?_push_of_some _ e, Fp a _, ⟨_, Heap.get?_push_size _ rfl, rfl, rfl⟩, fun b hb => ?_, q⟩
 have e : b = s1.heap.objs.size := by simpa using hb
 subst e
 exact I1.fpOk (Nat.le_refl _) (I1.hok.fresh (Nat.le_refl _))
theorem pi_tup {l : Expr} {tl : TE} (hl : PE X l tl) : PI X tg l (iTup X.K tl) := by
 intro pins s σ H R I h
 refine thn (hl pins s σ H _ I h) fun v s1 ⟨x, H1, I1, r1, q1⟩ => ?_
 obtain ⟨a, e, ⟨xs, hq⟩, q⟩ := q1
 subst e
 cases r1
 obtain ⟨its, rv, p, hz⟩ := I1.tuple hq
 refine wpAny_pyIter_tuple (show s1.heap.IsTuple a its.toArray from p) ?_
 refine ⟨s1.heap.objs.size, [s1.heap.objs.size], _, _, H1, rfl, I1.kept (t' := s1.toks) fun b o e => Heap.get?_push_of_some _ e, yo a _, ⟨_, Heap.get?_push_size _ rfl, rfl, rfl⟩, fun b hb => ?_, q⟩
 have e : b = s1.heap.objs.size := by simpa using hb
 subst e
 exact I1.fpOk (Nat.le_refl _) (I1.hok.fresh (Nat.le_refl _))
theorem bu {pins : List (Addr × Obj)} {σ : St} {H : Hp} {s : Shared} {R : It -> Hp -> Prop} {E : Value -> Shared -> Prop} {lo hi : Int} {t u v : Tok} {tk : Nat} (I : Inv X pins σ H s) (h1 : -(2 ^ 62) <= lo) (h2 : lo < 2 ^ 62) (h3 : -(2 ^ 62) <= hi) (h4 : hi < 2 ^ 62)
 (q : R (Itr lo (hi - lo).toNat) H) : wpAny (model X.prog X.w) X.A (pyIter (.ref s.heap.objs.size)) (PIE X pins σ tg R) E { s with heap := s.heap.push { cls := .type "range", data := .fields #[.int lo t, .int hi u, .int 1 v] }, toks := tk } := by
 refine wpAny_pyIter_range (IsRange.new ..) (small_one h1 h2 h3 h4) ?_
 have I1 : Inv X pins σ H { s with heap := s.heap.push { cls := .type "range", data := .fields #[.int lo t, .int hi u, .int 1 v] }, toks := tk } := I.kept fun b o e => Heap.get?_push_of_some _ e
 refine ⟨(s.heap.push { cls := .type "range", data := .fields #[.int lo t, .int hi u, .int 1 v] }).objs.size, [(s.heap.push { cls := .type "range", data := .fields #[.int lo t, .int hi u, .int 1 v] }).objs.size], _, _, H, rfl,
  I1.kept (t' := tk) fun b o e => Heap.get?_push_of_some _ e, zo _ lo (hi - lo).toNat, ?_, fun b hb => ?_, q⟩
 . have e1 : lo + ((0 : Nat) : Int) * 1 = lo := by simp
   have e2 : (((hi - lo).toNat : Nat) : Int) - ((0 : Nat) : Int) = Builtin.Range.rangeSize lo hi 1 := by rw [rangeSize_one]; split <;> omega
   show IsRangeIter _ _ (lo + ((0 : Nat) : Int) * 1) ((((hi - lo).toNat : Nat) : Int) - ((0 : Nat) : Int)) 1
   rw [e1, e2]
   exact Heap.get?_push_size _ rfl
 . have e : b = (s.heap.push { cls := .type "range", data := .fields #[.int lo t, .int hi u, .int 1 v] }).objs.size := by simpa using hb
   subst e
   exact I1.fpOk (Nat.le_refl _) (I1.hok.fresh (Nat.le_refl _))
def sx (ta : TA) : TI := fun σ H R => ta σ H fun vs H1 => ∃ j : Int, vs = [.int j] /\ -(2 ^ 62) <= j /\ j < 2 ^ 62 /\ R (Itr 0 j.toNat) H1
theorem Cb {a : Expr} {ta : TA} {p pos : Pos} (hg : Gl X "range") (hm : X.mg "range" = none) (ha : PA X [a] ta) (hs : starEach [a] X.env = [(false, eval a X.env)] := by first | rfl | with_unfolding_all rfl) : PI X tg (.Call (.Name "range" p) [a] [] pos) (sx ta) := by
 intro pins s σ H R I h
 refine Call_ (Ge I hg hm boot_range (PyProof.Rows.callWith_type1 (thn (ha pos pins s σ H _ I h) fun us s1 ⟨vs, H1, I1, r1, q1⟩ => ?_) hs rfl))
 obtain ⟨j, e, q1, q2, q⟩ := q1
 subst e
 cases r1 with
 | cons r rr =>
  cases rr
  obtain ⟨t, rfl⟩ := r
  exact call_range_1 (bu I1 (by omega) (by omega) q1 q2 (by simpa using q))
def tFor (wi : TI) (g : TG) (tb : TS) : TS := fun D σ H => wi σ H fun J H1 => ∃ W : Nat -> Nat -> St -> Hp -> Prop, (∃ m, W 0 m σ H1) /\ ∀ i m σ H, W i m σ H ->
 (J.stop i H /\ D.nx σ H) \/ (J.go i H /\ ∃ N : St -> Hp -> Prop, (∀ σ' H', N σ' H' -> ∃ m', m' < m /\ W (i + 1) m' σ' H') /\ ∀ x H', J.yld i H x H' -> g x σ H' fun σ2 H2 => tb { D with nx := N, ct := N, bk := D.nx } σ2 H2)
def qi (fp : List Addr) (h : Heap) : List (Addr × Obj) := fp.filterMap fun b => (h.get? b).map fun o => (b, o)
theorem vc {fp : List Addr} {h : Heap} {b : Addr} {o : Obj} (hb : b ∈ fp) (e : h.get? b = some o) : (b, o) ∈ qi fp h := List.mem_filterMap.mpr ⟨b, hb, by rw [e]; rfl⟩
theorem Vr {fp : List Addr} {h : Heap} {p : Addr × Obj} (hp : p ∈ qi fp h) : p.1 ∈ fp /\ h.get? p.1 = some p.2 := by
 obtain ⟨b, hb, e⟩ := List.mem_filterMap.mp hp
 cases q : h.get? b with
 | none => rw [q] at e; cases e
 | some o =>
  rw [q] at e
  have e' : (b, o) = p := Option.some.inj e
  subst e'
  exact ⟨hb, q⟩
theorem Inv.pinned {pins : List (Addr × Obj)} {σ : St} {H : Hp} {s : Shared} {fp : List Addr} (I : Inv X pins σ H s) (hf : ∀ b ∈ fp, FpOk X pins H b) (ho : ∀ b ∈ fp, ∃ o, s.heap.get? b = some o /\ ∀ v, o.data ≠ .cell v) : Inv X (pins ++ qi fp s.heap) σ H s :=
 I.Rc fun p hp => (List.mem_append.mp hp).elim (fun z => I.pin p (List.mem_append_right _ z)) fun z => by
  obtain ⟨hb, e⟩ := Vr z
  obtain ⟨f0, f1, f2, _⟩ := hf p.1 hb
  obtain ⟨o, e', d⟩ := ho p.1 hb
  rw [e] at e'; cases e'
  exact ⟨e, f0, f1, f2, d⟩
theorem Inv.Fi {pins pl : List (Addr × Obj)} {σ : St} {H : Hp} {s : Shared} (I : Inv X (pins ++ pl) σ H s) : Inv X pins σ H s := I.Rc fun p hp => I.pin p (List.mem_append_right _ (List.mem_append_left _ hp))
theorem jb {iter : Expr} {body : List Stmt} {wi : TI} {g : TG} {tb : TS} {pos : Pos} (hp : PassesOwn (model X.prog X.w) X.A X.env X.xe) (hc : X.calm = true) (hi : PI X tg iter wi) (hg : PG X tg g) (hb : PSs X body tb)
 (hs : ∀ x, foldedSetIterable iter X.env x = pure x := by intro _; first | rfl | with_unfolding_all rfl) : PS X (.For tg iter body [] pos) (tFor wi g tb) := by
 intro pins s σ H D I h
 refine wpAny_For (thn (hi pins s σ H _ I h) fun v s1 h1 => thn h1 fun itv s2 h2 => ?_) hs
 obtain ⟨it, fp, tn, J, H2, e, I2, T, st2, f2, W, ⟨m0, w0⟩, turn⟩ := h2
 subst e
 have stat : ∀ {H' : Hp}, (∀ b ∈ fp, H' b = none) -> ∀ b ∈ fp, FpOk X pins H' b := fun hn b hb => ⟨hn b hb, (f2 b hb).2⟩
 refine codeAny_forLoop_any (fun n s' => ∃ i σ' H', Inv X pins σ' H' s' /\ tn i s'.heap /\ (∀ b ∈ fp, H' b = none) /\ W i n σ' H') ?_ m0 ⟨0, σ, H2, I2, st2, fun b hb => (f2 b hb).1, w0⟩
 rintro n s3 ⟨i, σ3, H3, I3, st3, fr3, w3⟩
 rcases turn i n σ3 H3 w3 with ⟨stop, qn⟩ | ⟨go, N, hN, step⟩
 . refine wpAny_passesOwn hp (thn (T.done X rfl rfl rfl hc i pins s3 σ3 H3 X.xe I3 (stat fr3) st3 stop) fun r s4 ⟨hr, I4⟩ => ?_)
   subst hr
   exact wpAny_execs_nil ⟨σ3, H3, I4, qn⟩
 . refine wpAny_passesOwn hp (thn (T.item X rfl rfl rfl hc i pins s3 σ3 H3 X.xe I3 (stat fr3) st3 go) fun r s4 ⟨u, hr, h4⟩ => ?_)
   subst hr
   refine wpAny_passesOwn hp (thn h4 fun _ s5 ⟨x, H5, I5, r5, y5, st5, fr5⟩ => ?_)
   have I5' := I5.pinned (stat fr5) (T.obj _ _ st5)
   refine wpAny_passesOwn hp (thn (hg _ s5 σ3 H5 x u _ I5' r5 (step x H5 y5)) fun _ s6 ⟨σ6, H6, I6, q6⟩ => ?_)
   refine wpAny_passesOwn hp (thn (hb _ s6 σ6 H6 _ I6 q6) fun f s7 q7 => ?_)
   have again : ∀ {σ7 : St} {H7 : Hp}, Inv X (pins ++ qi fp s5.heap) σ7 H7 s7 -> N σ7 H7 -> ∃ m, m < n /\ ∃ i σ' H', Inv X pins σ' H' s7 /\ tn i s7.heap /\ (∀ b ∈ fp, H' b = none) /\ W i m σ' H' := fun {σ7 H7} I7 n7 => by
    obtain ⟨m', hm, w7⟩ := hN σ7 H7 n7
    refine ⟨m', hm, i + 1, σ7, H7, I7.Fi, T.keep _ _ _ st5 fun b hb o e => (I7.pin (b, o) (List.mem_append_right _ (List.mem_append_right _ (vc hb e)))).1, fun b hb => ?_, w7⟩
    obtain ⟨o, e, d⟩ := T.obj _ _ st5 b hb
    exact (I7.pin (b, o) (List.mem_append_right _ (List.mem_append_right _ (vc hb e)))).2.1
   cases f with
   | next => obtain ⟨σ7, H7, I7, n7⟩ := q7; exact again I7 n7
   | cont => obtain ⟨σ7, H7, I7, n7⟩ := q7; exact again I7 n7
   | brk => obtain ⟨σ7, H7, I7, q7⟩ := q7; exact ⟨σ7, H7, I7.Fi, q7⟩
   | ret v => obtain ⟨x7, σ7, H7, I7, r7, q7⟩ := q7; exact ⟨x7, σ7, H7, I7.Fi, r7, q7⟩
end
theorem Eu {K : PySem.W.Frag} {a : Addr} {xs : List V} {g : TG} {tb : TS} {D : Ends} {σ : St} {H : Hp} (Pv : Nat -> St -> Hp -> Prop) (h0 : Pv 0 σ H) (hl : ∀ i σ H, i <= xs.length -> Pv i σ H -> SqL K H a xs)
 (hs : ∀ i x σ H, xs[i]? = some x -> Pv i σ H -> g x σ H fun σ2 H2 => tb { D with nx := Pv (i + 1), ct := Pv (i + 1), bk := D.nx } σ2 H2) (hd : ∀ σ H, Pv xs.length σ H -> D.nx σ H) :
 ∃ W : Nat -> Nat -> St -> Hp -> Prop, (∃ m, W 0 m σ H) /\ ∀ i m σ H, W i m σ H ->
  ((Itl K a).stop i H /\ D.nx σ H) \/ ((Itl K a).go i H /\ ∃ N : St -> Hp -> Prop, (∀ σ' H', N σ' H' -> ∃ m', m' < m /\ W (i + 1) m' σ' H') /\ ∀ x H', (Itl K a).yld i H x H' -> g x σ H' fun σ2 H2 => tb { D with nx := N, ct := N, bk := D.nx } σ2 H2) := by
 refine ⟨fun i m σ H => m = xs.length - i /\ i <= xs.length /\ Pv i σ H, ⟨xs.length, by simp, Nat.zero_le _, h0⟩, ?_⟩
 rintro i m σ H ⟨rfl, hi, p⟩
 have q := hl i σ H hi p
 by_cases hlt : i < xs.length
 . refine .inr ⟨⟨xs, xs[i], q, by simp [hlt]⟩, Pv (i + 1), fun σ' H' p' => ⟨xs.length - (i + 1), by omega, rfl, hlt, p'⟩, fun x H' y => ?_⟩
   obtain ⟨e, y⟩ := y
   subst e
   exact hs i x σ _ (y xs q) p
 . have e : i = xs.length := by omega
   subst e
   exact .inl ⟨⟨xs, q, Nat.le_refl _⟩, hd σ H p⟩
theorem wx {K : PySem.W.Frag} {a : Addr} {xs : List V} {g : TG} {tb : TS} {D : Ends} {σ : St} {H : Hp} (Pv : Nat -> St -> Hp -> Prop) (h0 : Pv 0 σ H) (hl : ∀ i σ H, i <= xs.length -> Pv i σ H -> SqT K H a xs)
 (hs : ∀ i x σ H, xs[i]? = some x -> Pv i σ H -> g x σ H fun σ2 H2 => tb { D with nx := Pv (i + 1), ct := Pv (i + 1), bk := D.nx } σ2 H2) (hd : ∀ σ H, Pv xs.length σ H -> D.nx σ H) :
 ∃ W : Nat -> Nat -> St -> Hp -> Prop, (∃ m, W 0 m σ H) /\ ∀ i m σ H, W i m σ H ->
  ((Itt K a).stop i H /\ D.nx σ H) \/ ((Itt K a).go i H /\ ∃ N : St -> Hp -> Prop, (∀ σ' H', N σ' H' -> ∃ m', m' < m /\ W (i + 1) m' σ' H') /\ ∀ x H', (Itt K a).yld i H x H' -> g x σ H' fun σ2 H2 => tb { D with nx := N, ct := N, bk := D.nx } σ2 H2) := by
 refine ⟨fun i m σ H => m = xs.length - i /\ i <= xs.length /\ Pv i σ H, ⟨xs.length, by simp, Nat.zero_le _, h0⟩, ?_⟩
 rintro i m σ H ⟨rfl, hi, p⟩
 have q := hl i σ H hi p
 by_cases hlt : i < xs.length
 . refine .inr ⟨⟨xs, xs[i], q, by simp [hlt]⟩, Pv (i + 1), fun σ' H' p' => ⟨xs.length - (i + 1), by omega, rfl, hlt, p'⟩, fun x H' y => ?_⟩
   obtain ⟨e, y⟩ := y
   subst e
   exact hs i x σ _ (y xs q) p
 . have e : i = xs.length := by omega
   subst e
   exact .inl ⟨⟨xs, q, Nat.le_refl _⟩, hd σ H p⟩
theorem Ms {lo : Int} {n : Nat} {g : TG} {tb : TS} {D : Ends} {σ : St} {H : Hp} (Pv : Nat -> St -> Hp -> Prop) (h0 : Pv 0 σ H)
 (hs : ∀ i σ H, i < n -> Pv i σ H -> g (.int (lo + i)) σ H fun σ2 H2 => tb { D with nx := Pv (i + 1), ct := Pv (i + 1), bk := D.nx } σ2 H2) (hd : ∀ σ H, Pv n σ H -> D.nx σ H) :
 ∃ W : Nat -> Nat -> St -> Hp -> Prop, (∃ m, W 0 m σ H) /\ ∀ i m σ H, W i m σ H ->
  ((Itr lo n).stop i H /\ D.nx σ H) \/ ((Itr lo n).go i H /\ ∃ N : St -> Hp -> Prop, (∀ σ' H', N σ' H' -> ∃ m', m' < m /\ W (i + 1) m' σ' H') /\ ∀ x H', (Itr lo n).yld i H x H' -> g x σ H' fun σ2 H2 => tb { D with nx := N, ct := N, bk := D.nx } σ2 H2) := by
 refine ⟨fun i m σ H => m = n - i /\ i <= n /\ Pv i σ H, ⟨n, by simp, Nat.zero_le _, h0⟩, ?_⟩
 rintro i m σ H ⟨rfl, hi, p⟩
 by_cases hlt : i < n
 . refine .inr ⟨hlt, Pv (i + 1), fun σ' H' p' => ⟨n - (i + 1), by omega, rfl, hlt, p'⟩, fun x H' y => ?_⟩
   obtain ⟨e, y⟩ := y
   subst e y
   exact hs i σ _ hlt p
 . have e : i = n := by omega
   subst e
   exact .inl ⟨Nat.le_refl _, hd σ H p⟩
end L2
namespace L2
open PySem PySem.Spec PyProof.Rows
abbrev R2 := V -> V -> Hp -> VK -> Prop
def OpR (X : Cx) (f : Value -> Value -> Sem Value) (r : R2) : Prop :=
 ∀ (pins : List (Addr × Obj)) (s : Shared) (σ : St) (H : Hp) (x y : V) (v u : Value) (Q : VK), Inv X pins σ H s -> RelV x v -> RelV y u -> r x y H Q ->
  wpAny (model X.prog X.w) X.A (f v u) (EP X pins σ Q) X.xe s
def UnR (X : Cx) (f : Value -> Sem Value) (r : V -> Hp -> VK -> Prop) : Prop :=
 ∀ (pins : List (Addr × Obj)) (s : Shared) (σ : St) (H : Hp) (x : V) (v : Value) (Q : VK), Inv X pins σ H s -> RelV x v -> r x H Q ->
  wpAny (model X.prog X.w) X.A (f v) (EP X pins σ Q) X.xe s
def Wc (X : Cx) (f : Value) (r : List V -> Hp -> VK -> Prop) : Prop :=
 ∀ (pins : List (Addr × Obj)) (s : Shared) (σ : St) (H : Hp) (xs : List V) (us : List Value) (Q : VK), Inv X pins σ H s -> Vals xs us -> r xs H Q ->
  wpAny (model X.prog X.w) X.A (call f us) (EP X pins σ Q) X.xe s
def TruR (X : Cx) (r : V -> Hp -> (Bool -> Hp -> Prop) -> Prop) : Prop :=
 ∀ (pins : List (Addr × Obj)) (s : Shared) (σ : St) (H : Hp) (x : V) (v : Value) (Q : Bool -> Hp -> Prop), Inv X pins σ H s -> RelV x v -> r x H Q ->
  wpAny (model X.prog X.w) X.A (truthy v) (TP X pins σ Q) X.xe s
def tOp (r : R2) (ta tb : TE) : TE := fun σ H Q => ta σ H fun x H1 => tb σ H1 fun y H2 => r x y H2 Q
def tUn (r : V -> Hp -> VK -> Prop) (ta : TE) : TE := fun σ H Q => ta σ H fun x H1 => r x H1 Q
def rI (C : Int -> Int -> Prop) (g : Int -> Int -> V) : R2 := fun x y H Q => ∃ i j, x = .int i /\ y = .int j /\ C i j /\ Q (g i j) H
def rI0 (g : Int -> Int -> V) : R2 := fun x y H Q => ∃ i j, x = .int i /\ y = .int j /\ Q (g i j) H
def rU (g : Int -> V) : V -> Hp -> VK -> Prop := fun x H Q => ∃ i, x = .int i /\ Q (g i) H
section
variable {X : Cx} {a b c : Expr} {ta tb tc : TE} {pos : Pos}
theorem binT (ha : PE X a ta) (hb : PE X b tb) {pins : List (Addr × Obj)} {s : Shared} {σ : St} {H : Hp} {R : V -> V -> Hp -> Prop} (I : Inv X pins σ H s)
 (h : ta σ H fun x H1 => tb σ H1 fun y H2 => R x y H2) {Q : Value -> Shared -> Prop} {f : Value -> Value -> Sem Value}
 (hf : ∀ v u s2 x y H2, Inv X pins σ H2 s2 -> RelV x v -> RelV y u -> R x y H2 -> wpAny (model X.prog X.w) X.A (f v u) Q X.xe s2) :
 wpAny (model X.prog X.w) X.A (eval a X.env) (fun v s₁ => wpAny (model X.prog X.w) X.A (eval b X.env) (fun u s₂ => wpAny (model X.prog X.w) X.A (f v u) Q X.xe s₂) X.xe s₁) X.xe s := by
 refine thn (ha pins s σ H _ I h) fun v s1 ⟨x, H1, I1, r1, q1⟩ => ?_
 refine thn (hb pins s1 σ H1 _ I1 q1) fun u s2 ⟨y, H2, I2, r2, q2⟩ => ?_
 exact hf v u s2 x y H2 I2 r1 r2 q2
theorem Ma {op : Operator} {r : R2} (ho : OpR X (binaryOp op) r) (ha : PE X a ta) (hb : PE X b tb) : PE X (.BinOp a op b pos) (tOp r ta tb) := by
 intro pins s σ H Q I h
 exact wpAny_BinOp (binT ha hb I h fun v u s2 x y H2 I2 rx ry q => ho pins s2 σ H2 x y v u Q I2 rx ry q)
theorem Qe {op : UnaryOp} {r : V -> Hp -> VK -> Prop} (ho : UnR X (unaryOp op) r) (ha : PE X a ta) : PE X (.UnaryOp op a pos) (tUn r ta) := by
 intro pins s σ H Q I h
 exact UnaryOp_ (thn (ha pins s σ H _ I h) fun v s1 ⟨x, H1, I1, r1, q1⟩ => ho pins s1 σ H1 x v Q I1 r1 q1)
theorem opI {f : Value -> Value -> Sem Value} {C : Int -> Int -> Prop} {g : Int -> Int -> Int}
 (rule : ∀ (i j : Int) (t u : Tok) (s : Shared) (Q : Value -> Shared -> Prop) (E : Value -> Shared -> Prop), C i j -> Q (.int (g i j) s.toks) { s with toks := s.toks + 1 } -> wpAny (model X.prog X.w) X.A (f (.int i t) (.int j u)) Q E s) :
 OpR X f (rI C fun i j => .int (g i j)) := by
 intro pins s σ H x y v u Q I rx ry h
 obtain ⟨i, j, rfl, rfl, hc, q⟩ := h
 obtain ⟨t, rfl⟩ := rx
 obtain ⟨t', rfl⟩ := ry
 exact rule i j t t' s _ _ hc ⟨.int (g i j), H, I.tok _, ⟨_, rfl⟩, q⟩
theorem opI0 {f : Value -> Value -> Sem Value} {g : Int -> Int -> Int}
 (rule : ∀ (i j : Int) (t u : Tok) (s : Shared) (Q : Value -> Shared -> Prop) (E : Value -> Shared -> Prop), Q (.int (g i j) s.toks) { s with toks := s.toks + 1 } -> wpAny (model X.prog X.w) X.A (f (.int i t) (.int j u)) Q E s) :
 OpR X f (rI0 fun i j => .int (g i j)) := by
 intro pins s σ H x y v u Q I rx ry h
 obtain ⟨i, j, rfl, rfl, q⟩ := h
 obtain ⟨t, rfl⟩ := rx
 obtain ⟨t', rfl⟩ := ry
 exact rule i j t t' s _ _ ⟨.int (g i j), H, I.tok _, ⟨_, rfl⟩, q⟩
theorem opB0 {f : Value -> Value -> Sem Value} {g : Int -> Int -> Bool}
 (rule : ∀ (i j : Int) (t u : Tok) (s : Shared) (Q : Value -> Shared -> Prop) (E : Value -> Shared -> Prop), Q (.bool (g i j)) s -> wpAny (model X.prog X.w) X.A (f (.int i t) (.int j u)) Q E s) :
 OpR X f (rI0 fun i j => .bl (g i j)) := by
 intro pins s σ H x y v u Q I rx ry h
 obtain ⟨i, j, rfl, rfl, q⟩ := h
 obtain ⟨t, rfl⟩ := rx
 obtain ⟨t', rfl⟩ := ry
 exact rule i j t t' s _ _ ⟨.bl (g i j), H, I, rfl, q⟩
def CPow (i j : Int) : Prop := 0 <= j /\ j <= 1000000 /\ i.natAbs < 2 ^ 64
def CMul (i j : Int) : Prop := (-(2 ^ 64) < i /\ i < 2 ^ 64) \/ (-(2 ^ 64) < j /\ j < 2 ^ 64)
theorem CMul.ok {i j : Int} (h : CMul i j) : IntMulOk i j := by
 rcases h with ⟨h1, h2⟩ | ⟨h1, h2⟩
 . exact .of_left (intBits_le_64 h1 h2)
 . exact .of_right (intBits_le_64 h1 h2)
theorem op_add : OpR X (binaryOp .Add) (rI0 fun i j => .int (i + j)) := opI0 fun _ _ _ _ _ _ _ q => add_int q
theorem Ya : OpR X (binaryOp .Sub) (rI0 fun i j => .int (i - j)) := opI0 fun _ _ _ _ _ _ _ q => sub_int q
theorem si : OpR X (binaryOp .Mod) (rI (fun _ j => 0 < j) fun i j => .int (i % j)) := opI fun i j _ _ _ _ _ hc q => by
 have h1 : (0 : Int) < j := hc
 exact mod_int' (by omega) (by rw [Int.fmod_eq_emod_of_nonneg i (by omega)]; exact q)
theorem op_pow : OpR X (binaryOp .Pow) (rI CPow fun i j => .int (i ^ j.toNat)) := opI fun _ _ _ _ _ _ _ hc q => pow_int_small hc.1 hc.2.1 hc.2.2 q
theorem unI {f : Value -> Sem Value} {g : Int -> Int}
 (rule : ∀ (i : Int) (t : Tok) (s : Shared) (Q : Value -> Shared -> Prop) (E : Value -> Shared -> Prop), Q (.int (g i) s.toks) { s with toks := s.toks + 1 } -> wpAny (model X.prog X.w) X.A (f (.int i t)) Q E s) :
 UnR X f (rU fun i => .int (g i)) := by
 intro pins s σ H x v Q I rx h
 obtain ⟨i, rfl, q⟩ := h
 obtain ⟨t, rfl⟩ := rx
 exact rule i t s _ _ ⟨.int (g i), H, I.tok _, ⟨_, rfl⟩, q⟩
theorem wc : UnR X (unaryOp .USub) (rU fun i => .int (-i)) := unI fun _ _ _ _ _ q => neg_int q
end
def scal : V -> V -> Bool
 | .non, .non => true | .non, .int _ => true | .int _, .non => true | .non, .bl _ => true | .bl _, .non => true | .non, .str _ => true | .str _, .non => true
 | .int _, .int _ => true | .bl _, .bl _ => true | .str _, .str _ => true | .byt _, .byt _ => true
 | .int _, .str _ => true | .str _, .int _ => true | .bl _, .str _ => true | .str _, .bl _ => true
 | _, _ => false
def rEq : R2 := fun x y H Q => scal x y = true /\ Q (.bl (decide (x = y))) H
def rNe : R2 := fun x y H Q => scal x y = true /\ Q (.bl (!decide (x = y))) H
theorem Us {i j : Int} : decide (V.int i = V.int j) = (i == j) := by
 rw [Bool.eq_iff_iff]
 simp
theorem Hv {i j : Bool} : decide (V.bl i = V.bl j) = (i == j) := by
 rw [Bool.eq_iff_iff]
 simp
theorem Ts {i j : Str} : decide (V.str i = V.str j) = (i == j) := by
 rw [Bool.eq_iff_iff]
 simp
theorem Vs {i j : Array UInt8} : decide (V.byt i = V.byt j) = (i.toList == j.toList) := by
 rw [Bool.eq_iff_iff]
 cases i
 cases j
 simp
section
variable {X : Cx} {a b c : Expr} {ta tb tc : TE} {pos : Pos}
theorem fb {pins : List (Addr × Obj)} {σ : St} {H : Hp} {s : Shared} {Q : VK} {k k' : Bool} (I : Inv X pins σ H s) (q : Q (.bl k) H) (e : k = k') : EP X pins σ Q (.bool k') s := by
 subst e
 exact ⟨.bl k, H, I, rfl, q⟩
theorem op_eq : OpR X (compareOp .Eq) rEq := by
 intro pins s σ H x y v u Q I rx ry h
 obtain ⟨hs, q⟩ := h
 cases x with
 | non =>
  cases rx
  cases y with
  | non => cases ry; exact PySem.EqNone.eq_none_none (fb I q (by simp))
  | bl j => cases ry; exact PySem.EqNone.eq_none_bool (fb I q (by simp))
  | int j => obtain ⟨t', rfl⟩ := ry; exact PySem.EqNone.eq_none_int (fb I q (by simp))
  | str j => obtain ⟨t', rfl⟩ := ry; exact PySem.EqNone.eq_none_str (fb I q (by simp))
  | _ => exact absurd (show false = true from hs) Bool.false_ne_true
 | bl i =>
  cases rx
  cases y with
  | non => cases ry; exact PySem.EqNone.eq_bool_none (fb I q (by simp))
  | bl j => cases ry; exact eq_bool (fb I q Hv)
  | str j => obtain ⟨t', rfl⟩ := ry; exact PySem.EqMixed.eq_bool_str (fb I q (by simp))
  | _ => exact absurd (show false = true from hs) Bool.false_ne_true
 | int i =>
  obtain ⟨t, rfl⟩ := rx
  cases y with
  | non => cases ry; exact PySem.EqNone.eq_int_none (fb I q (by simp))
  | int j => obtain ⟨t', rfl⟩ := ry; exact eq_int (fb I q Us)
  | str j => obtain ⟨t', rfl⟩ := ry; exact PySem.EqMixed.eq_int_str (fb I q (by simp))
  | _ => exact absurd (show false = true from hs) Bool.false_ne_true
 | str i =>
  obtain ⟨t, rfl⟩ := rx
  cases y with
  | non => cases ry; exact PySem.EqNone.eq_str_none (fb I q (by simp))
  | bl j => cases ry; exact PySem.EqMixed.eq_str_bool (fb I q (by simp))
  | int j => obtain ⟨t', rfl⟩ := ry; exact PySem.EqMixed.eq_str_int (fb I q (by simp))
  | str j => obtain ⟨t', rfl⟩ := ry; exact eq_str (fb I q Ts)
  | _ => exact absurd (show false = true from hs) Bool.false_ne_true
 | byt i =>
  obtain ⟨t, rfl⟩ := rx
  cases y with
  | byt j => obtain ⟨t', rfl⟩ := ry; exact PySem.W.eq_bytes (fb I q Vs)
  | _ => exact absurd (show false = true from hs) Bool.false_ne_true
 | _ => cases y <;> exact absurd (show false = true from hs) Bool.false_ne_true
theorem op_ne : OpR X (compareOp .NotEq) rNe := by
 intro pins s σ H x y v u Q I rx ry h
 obtain ⟨hs, q⟩ := h
 cases x with
 | non =>
  cases rx
  cases y with
  | non => cases ry; exact PySem.EqNone.ne_none_none (fb I q (by simp))
  | bl j => cases ry; exact PySem.EqNone.ne_none_bool (fb I q (by simp))
  | int j => obtain ⟨t', rfl⟩ := ry; exact PySem.EqNone.ne_none_int (fb I q (by simp))
  | str j => obtain ⟨t', rfl⟩ := ry; exact PySem.EqNone.ne_none_str (fb I q (by simp))
  | _ => exact absurd (show false = true from hs) Bool.false_ne_true
 | bl i =>
  cases rx
  cases y with
  | non => cases ry; exact PySem.EqNone.ne_bool_none (fb I q (by simp))
  | bl j => cases ry; exact ne_bool (fb I q (congrArg not Hv))
  | str j => obtain ⟨t', rfl⟩ := ry; exact PySem.EqMixed.ne_bool_str (fb I q (by simp))
  | _ => exact absurd (show false = true from hs) Bool.false_ne_true
 | int i =>
  obtain ⟨t, rfl⟩ := rx
  cases y with
  | non => cases ry; exact PySem.EqNone.ne_int_none (fb I q (by simp))
  | int j => obtain ⟨t', rfl⟩ := ry; exact ne_int (fb I q (congrArg not Us))
  | str j => obtain ⟨t', rfl⟩ := ry; exact PySem.EqMixed.ne_int_str (fb I q (by simp))
  | _ => exact absurd (show false = true from hs) Bool.false_ne_true
 | str i =>
  obtain ⟨t, rfl⟩ := rx
  cases y with
  | non => cases ry; exact PySem.EqNone.ne_str_none (fb I q (by simp))
  | bl j => cases ry; exact PySem.EqMixed.ne_str_bool (fb I q (by simp))
  | int j => obtain ⟨t', rfl⟩ := ry; exact PySem.EqMixed.ne_str_int (fb I q (by simp))
  | str j => obtain ⟨t', rfl⟩ := ry; exact ne_str (fb I q (congrArg not Ts))
  | _ => exact absurd (show false = true from hs) Bool.false_ne_true
 | byt i =>
  obtain ⟨t, rfl⟩ := rx
  cases y with
  | byt j => obtain ⟨t', rfl⟩ := ry; exact PySem.W.ne_bytes (fb I q (congrArg not Vs))
  | _ => exact absurd (show false = true from hs) Bool.false_ne_true
 | _ => cases y <;> exact absurd (show false = true from hs) Bool.false_ne_true
theorem op_lt : OpR X (compareOp .Lt) (rI0 fun i j => .bl (decide (i < j))) := opB0 fun _ _ _ _ _ _ _ q => lt_int q
theorem op_le : OpR X (compareOp .LtE) (rI0 fun i j => .bl (decide (i <= j))) := opB0 fun _ _ _ _ _ _ _ q => le_int q
theorem xj : OpR X (compareOp .Gt) (rI0 fun i j => .bl (decide (j < i))) := opB0 fun _ _ _ _ _ _ _ q => gt_int q
theorem yj : OpR X (compareOp .GtE) (rI0 fun i j => .bl (decide (j <= i))) := opB0 fun _ _ _ _ _ _ _ q => ge_int q
theorem op_isN : OpR X (compareOp .Is) (fun x y H Q => y = .non /\ Q (.bl (decide (x = .non))) H) := by
 intro pins s σ H x y v u Q I rx ry h
 obtain ⟨rfl, q⟩ := h
 cases ry
 refine is_none_gen (fb I q ?_)
 cases x <;> first
  | (cases rx; rfl)
  | (obtain ⟨t, rfl⟩ := rx; rfl)
theorem OpR.or {f : Value -> Value -> Sem Value} {r r' : R2} (h : OpR X f r) (h' : OpR X f r') : OpR X f (fun x y H Q => r x y H Q \/ r' x y H Q) := by
 intro pins s σ H x y v u Q I rx ry q
 rcases q with q | q
 . exact h pins s σ H x y v u Q I rx ry q
 . exact h' pins s σ H x y v u Q I rx ry q
theorem Ca (b : Expr) {op : CmpOp} (h : op ≠ .In := by decide) (h2 : op ≠ .NotIn := by decide) : behindInMarks op b = false := by
 have e1 : (op == CmpOp.In) = false := by cases op <;> first | rfl | exact absurd rfl h
 have e2 : (op == CmpOp.NotIn) = false := by cases op <;> first | rfl | exact absurd rfl h2
 cases b <;> simp [behindInMarks, e1, e2]
theorem Cd {op : CmpOp} {r : R2} (ho : OpR X (compareOp op) r) (ha : PE X a ta) (hb : PE X b tb) (hm : behindInMarks op b = false) : PE X (.Compare a [op] [b] pos) (tOp r ta tb) := by
 intro pins s σ H Q I h
 exact wpAny_Compare1 (binT ha hb I h fun v u s2 x y H2 I2 rx ry q => ho pins s2 σ H2 x y v u Q I2 rx ry q) hm
def tTest (t : TE) : TT := fun σ H Q => t σ H fun x H' => ∃ k, x = .bl k /\ Q k H'
theorem va {op : CmpOp} {r : R2} (ho : OpR X (compareOp op) r) (ha : PE X a ta) (hb : PE X b tb) (hm : behindInMarks op b = false) : PT X (.Compare a [op] [b] pos) (tTest (tOp r ta tb)) := by
 intro pins s σ H Q I h
 refine wpAny_isTrue_Compare1 (thn (ha pins s σ H _ I h) fun v s1 ⟨x, H1, I1, r1, q1⟩ => thn (hb pins s1 σ H1 _ I1 q1) fun u s2 ⟨y, H2, I2, r2, q2⟩ =>
  thn (ho pins s2 σ H2 x y v u _ I2 r1 r2 q2) fun c s3 ⟨z, H3, I3, r3, k, e, q3⟩ => ?_) hm
 subst e
 cases r3
 exact wpAny_truthy_bool ⟨H3, I3, q3⟩
def TruV (K : PySem.W.Frag) (x : V) (H : Hp) (k : Bool) : Prop :=
 match x with
 | .non => k = false
 | .bl b => k = b
 | .int i => k = (i != 0)
 | .str y => y.length <= sizeLine /\ k = ((y.length : Int) != 0)
 | .byt y => y.size <= sizeLine /\ k = ((y.size : Int) != 0)
 | .ref p => (∃ xs, SqL K H p xs /\ k = !xs.isEmpty) \/ (∃ xs, SqT K H p xs /\ k = !xs.isEmpty) \/ ∃ kvs, H p = some (.dK kvs) /\ k = !kvs.isEmpty
 | _ => False
theorem bp {κ : Type} {kvs : List (κ × V)} {vs : List (κ × Value)} (r : KV kvs vs) : (!vs.isEmpty) = !kvs.isEmpty := by
 cases r <;> rfl
theorem yi {xs : List V} {its : List Value} (r : Vals xs its) : (!its.toArray.isEmpty) = !xs.isEmpty := by
 cases r <;> simp
theorem oh : (sizeLine : Nat) < 2 ^ 63 := by rw [sizeLine_eq]; decide
theorem tru_ok : TruR X (fun x H Q => ∃ k, TruV X.K x H k /\ Q k H) := by
 intro pins s σ H x v Q I rx h
 obtain ⟨k, e, q⟩ := h
 have hl := oh
 have hs : sizeLine = 16777216 := sizeLine_eq
 cases x with
 | non =>
  cases rx
  have e' : k = false := e
  subst e'
  exact truthy_none ⟨H, I, q⟩
 | bl b =>
  cases rx
  have e' : k = b := e
  subst e'
  exact wpAny_truthy_bool ⟨H, I, q⟩
 | int i =>
  obtain ⟨t, rfl⟩ := rx
  have e' : k = (i != 0) := e
  subst e'
  exact PySem.P.truthy_int ⟨H, I, q⟩
 | str y =>
  obtain ⟨t, rfl⟩ := rx
  obtain ⟨hy, e'⟩ : y.length <= sizeLine /\ k = ((y.length : Int) != 0) := e
  subst e'
  exact PySem.P.truthy_str (by omega) ⟨H, I.tok _, q⟩
 | byt y =>
  obtain ⟨t, rfl⟩ := rx
  obtain ⟨hy, e'⟩ : y.size <= sizeLine /\ k = ((y.size : Int) != 0) := e
  subst e'
  exact PySem.W.truthy_bytes (by omega) ⟨H, I.tok _, q⟩
 | ref p =>
  cases rx
  have e' : (∃ xs, SqL X.K H p xs /\ k = !xs.isEmpty) \/ (∃ xs, SqT X.K H p xs /\ k = !xs.isEmpty) \/ ∃ kvs, H p = some (.dK kvs) /\ k = !kvs.isEmpty := e
  rcases e' with ⟨xs, hx, e'⟩ | ⟨xs, hx, e'⟩ | ⟨kvs, hx, e'⟩
  . subst e'
    obtain ⟨its, r, pl, hz⟩ := I.list hx
    have hlen := r.length
    exact wpAny_truthy_list pl.isList (by simp only [List.size_toArray]; omega) ⟨H, I.tok _, by rw [yi r]; exact q⟩
  . subst e'
    obtain ⟨its, r, pl, hz⟩ := I.tuple hx
    have hlen := r.length
    exact truthy_tuple pl (by simp only [List.size_toArray]; omega) ⟨H, I.tok _, by rw [yi r]; exact q⟩
  . subst e'
    obtain ⟨hz, hS, vs, r, m⟩ : kvs.length <= sizeLine /\ (p == sysModules) = false /\ ∃ vs, KV kvs vs /\ s.heap.DictOf (xm X.prog X.w) p vs := I.hok p _ hx
    have hlen : kvs.length = vs.length := Paired.length r
    exact wpAny_truthy_dict hS m (by omega) ⟨H, I.tok _, by rw [bp r]; exact q⟩
 | _ => exact (show False from e).elim
theorem ju (ha : PE X a ta) (he : ∀ whole, isTrue a X.env whole = (do let v <- whole; standAt a.pos; holding [v] (truthy v))) :
 PT X a (fun σ H Q => ta σ H fun x H' => ∃ k, TruV X.K x H' k /\ Q k H') := by
 intro pins s σ H Q I h
 exact isTrue_plain (thn (ha pins s σ H _ I h) fun v s1 ⟨x, H1, I1, r1, q1⟩ => tru_ok pins s1 σ H1 x v Q I1 r1 q1) (he _)
theorem ui : OpR X (binaryOp .Add) (fun x y H Q => ∃ i j, x = .str i /\ y = .str j /\ i.length + j.length <= sizeLine /\ Q (.str (i ++ j)) H) := by
 intro pins s σ H x y v u Q I rx ry h
 obtain ⟨i, j, rfl, rfl, hz, q⟩ := h
 obtain ⟨t, rfl⟩ := rx
 obtain ⟨t', rfl⟩ := ry
 exact add_str (fun t' tk => ⟨.str (i ++ j), H, I.tok _, ⟨_, rfl⟩, q⟩) hz
theorem vals1 {x : V} {us : List Value} (r : Vals [x] us) : ∃ u, us = [u] /\ RelV x u := by
 cases r with
 | cons r1 r2 => cases r2; exact ⟨_, rfl, r1⟩
theorem vals2 {x y : V} {us : List Value} (r : Vals [x, y] us) : ∃ u w', us = [u, w'] /\ RelV x u /\ RelV y w' := by
 cases r with
 | cons r1 r2 =>
  cases r2 with
  | cons r3 r4 => cases r4; exact ⟨_, _, rfl, r1, r3⟩
theorem Lu : Wc X (.builtin "abs") (fun xs H Q => ∃ i, xs = [.int i] /\ Q (.int (if i < 0 then -i else i)) H) := by
 intro pins s σ H xs us Q I r h
 obtain ⟨i, rfl, q⟩ := h
 obtain ⟨u, rfl, t, rfl⟩ := vals1 r
 exact call_abs_int fun u tk => ⟨.int (if i < 0 then -i else i), H, I.tok _, ⟨_, rfl⟩, q⟩
theorem qt (hc : X.calm = true) : Wc X (.builtin "min") (fun xs H Q => ∃ i j, xs = [.int i, .int j] /\ Q (.int (if j < i then j else i)) H) := by
 intro pins s σ H xs us Q I r h
 obtain ⟨i, j, rfl, q⟩ := h
 obtain ⟨u, w', rfl, ⟨t, rfl⟩, ⟨t', rfl⟩⟩ := vals2 r
 refine min_two_ints (I.ok.hd hc) fun h' tk k => ⟨_, H, I.kept k, ?_, q⟩
 by_cases hj : j < i
 . rw [if_pos hj, if_pos hj]; exact ⟨_, rfl⟩
 . rw [if_neg hj, if_neg hj]; exact ⟨_, rfl⟩
end
end L2
namespace L2
open PySem PySem.Spec PyProof.Rows
structure ObjM (h : Heap) (x dx C : Addr) (mA : Str -> Option Value) : Prop where
 obj : h.get? x = some (PySem.W.instObj C dx)
 ns : h.Ns1 dx mA
 ne : dx ≠ x
theorem Cs {h : Heap} {dx : Addr} {mA : Str -> Option Value} (n : h.Ns1 dx mA) : ∃ od, h.get? dx = some od /\ ∀ name, PySem.W.lookIn name od = some (mA name) := by
 obtain ⟨o, es, ep, ho, hd, hk, _, hm⟩ := n
 refine ⟨o, ho, fun name => ?_⟩
 have e := hm name
 unfold nsFind findBy at e
 rw [<- Array.find?_toList] at e
 unfold PySem.W.lookIn
 rw [hd]
 dsimp only
 split
 . rename_i y q
   rw [q] at e
   exact congrArg some e
 . rename_i q
   rw [q] at e
   have a : es.toList.any (·.refKey) = false := by
    rw [List.any_eq_false]
    intro y hy
    obtain ⟨z, t, hkey⟩ := hk y (Array.mem_toList_iff.mp hy)
    simp [DictEntry.refKey, hkey]
   have a' : ¬ es.toList.any (·.refKey) = true := by rw [a]; exact Bool.false_ne_true
   rw [if_neg a']
   exact congrArg some e
theorem ObjM.look {h : Heap} {x dx C : Addr} {mA : Str -> Option Value} (I : ObjM h x dx C mA) : ∃ od, PySem.W.InstAt h x (PySem.W.instObj C dx) C (some od) /\ ∀ name, PySem.W.lookIn name od = some (mA name) :=
 let ⟨od, ho, hl⟩ := Cs I.ns
 ⟨od, ⟨I.obj, rfl, rfl, ho⟩, hl⟩
section
variable {prog : Program} {w : World} {A : Around} {E : Value -> Shared -> Prop} {s : Shared} {K : PySem.W.Frag} {x dx C f : Addr} {mA : Str -> Option Value} {name : Str} {v : Value}
end
section
variable {P : Program} {w : World} {H H' : Hp} {h h' : Heap} {a C dx : Addr} {fs fs' : List (Str × V)}
theorem px (hok : HOk P w H h) (e : H a = some (.ins C dx fs)) : ∃ mA, ObjM h a dx C mA /\ (∀ f, RelO (fs.lookup f) (mA f)) /\ PySem.Within mA (fs.map (·.1)) /\ fs.length <= 1000 /\ H dx = some (.own a) := by
 obtain ⟨d, z, ne, ob, mA, n, r, q⟩ := (show Hc P w H h a (.ins C dx fs) from hok a _ e)
 exact ⟨mA, ⟨ob, n, ne⟩, r, q, z, d⟩
end
structure Cls (K : PySem.W.Frag) (C : Addr) : Prop where
 pg : PySem.W.plainGet K C Str.empty = true
 hd : PySem.W.hasDictIn K C = true
 po : PySem.W.plainOver K C = true
 sa : PySem.W.findIn K (.ref C) "__setattr__" = some (some (.builtin "object.__setattr__"))
theorem Cls.get {K : PySem.W.Frag} {C : Addr} (c : Cls K C) (f : Str) : PySem.W.plainGet K C f = true := c.pg
section
variable {X : Cx} {pins : List (Addr × Obj)} {σ : St} {H : Hp} {s : Shared} {a C dx : Addr} {fs : List (Str × V)} {f : Str} {v : V} {A : Around} {E : Value -> Shared -> Prop}
end
section
variable {X : Cx} {pins : List (Addr × Obj)} {σ : St} {H : Hp} {s : Shared} {A : Around} {E : Value -> Shared -> Prop} {Q : Value -> Shared -> Prop} {c : Value} {b : Bool}
inductive TyOf (K : PySem.W.Frag) (H : Hp) : V -> Value -> Prop where
 | non : TyOf K H .non (.type "NoneType")
 | bl (x : Bool) : TyOf K H (.bl x) (.type "bool")
 | int (i : Int) : TyOf K H (.int i) (.type "int")
 | str (x : Str) : TyOf K H (.str x) (.type "str")
 | flt (x : UInt64) : TyOf K H (.flt x) (.type "float")
 | lst {a : Addr} {xs : List V} (e : H a = some (.lst xs)) : TyOf K H (.ref a) (.type "list")
 | frz {a : Addr} {o : Obj} {xs : List V} (e : H a = some (.frz o (.lst xs))) : TyOf K H (.ref a) (.type "list")
 | tup {a : Addr} {xs : List V} (e : H a = some (.tup xs)) : TyOf K H (.ref a) (.type "tuple")
 | dK {a : Addr} {kvs : List (Key × V)} (e : H a = some (.dK kvs)) : TyOf K H (.ref a) (.type "dict")
 | dT {a : Addr} {kvs : List (List Key × V)} (e : H a = some (.dT kvs)) : TyOf K H (.ref a) (.type "dict")
 | ins {a C dx : Addr} {fs : List (Str × V)} (e : H a = some (.ins C dx fs)) (cl : Cls K C) (ha : PySem.W.findIn K (.ref C) "__class__" = some (some (.builtin "object.__class__")))
  (hn : PySem.W.specialIn K (.builtin "object.__class__") "__get__" = some (some (.builtin "getset_descriptor.__get__"))) (htk : PySem.W.takesIn K (.builtin "object.__class__") = some true)
  (hm : PySem.W.mroIn K C (.type "object") = some true) : TyOf K H (.ref a) (.ref C)
theorem Gs {x : V} {u t : Value} (I : Inv X pins σ H s) (rx : RelV x u) (ty : TyOf X.K H x t) (e : PySem.W.kitOne X.K t c = some b) (h : ∀ tk, Q (.bool b) { s with toks := tk }) :
 wpAny (model X.prog X.w) A (call (.builtin "isinstance") [u, c]) Q E s := by
 cases ty with
 | non => cases (show u = Value.none from rx); exact PySem.W.kia_one PySem.W.kitx_none I.kIn True.intro e (fun z => nomatch z) h
 | bl y => cases (show u = Value.bool y from rx); exact PySem.W.kia_one PySem.W.kitx_bool I.kIn True.intro e (fun z => nomatch z) h
 | int i => obtain ⟨t, q⟩ := (show ∃ t, u = Value.int i t from rx); cases q; exact PySem.W.kia_one PySem.W.kitx_int I.kIn True.intro e (fun z => nomatch z) h
 | str y => obtain ⟨t, q⟩ := (show ∃ t, u = Value.str y t from rx); cases q; exact PySem.W.kia_one PySem.W.kitx_str I.kIn True.intro e (fun z => nomatch z) h
 | flt y => obtain ⟨t, q⟩ := (show ∃ t, u = Value.float y t from rx); cases q; exact PySem.W.kia_one PySem.W.kitx_float I.kIn True.intro e (fun z => nomatch z) h
 | @lst a xs ea =>
  cases (show u = Value.ref a from rx)
  obtain ⟨_, _, n, _, h1⟩ := (show Hc X.prog X.w H s.heap a (.lst xs) from I.hok a _ ea)
  exact PySem.W.kia_one PySem.W.kitx_list I.kIn ⟨_, h1, rfl⟩ e (fun z => nomatch z) h
 | @frz a ob xs ea =>
  cases (show u = Value.ref a from rx)
  obtain ⟨_, _, _, n, _, h1⟩ := (show Hc X.prog X.w H s.heap a (.frz ob (.lst xs)) from I.hok a _ ea)
  exact PySem.W.kia_one PySem.W.kitx_list I.kIn ⟨_, h1, rfl⟩ e (fun z => nomatch z) h
 | @tup a xs ea =>
  cases (show u = Value.ref a from rx)
  obtain ⟨_, _, _, p⟩ := (show Hc X.prog X.w H s.heap a (.tup xs) from I.hok a _ ea)
  obtain ⟨o, h1, h2, _⟩ := p
  exact PySem.W.kia_one PySem.W.kitx_tuple I.kIn ⟨o, h1, h2⟩ e (fun z => nomatch z) h
 | @dK a kvs ea =>
  cases (show u = Value.ref a from rx)
  obtain ⟨_, _, vs, _, p⟩ := (show Hc X.prog X.w H s.heap a (.dK kvs) from I.hok a _ ea)
  obtain ⟨o, es, ep, h1, h2, _⟩ := p
  exact PySem.W.kia_one PySem.W.kitx_dict I.kIn ⟨o, h1, h2.1⟩ e (fun z => nomatch z) h
 | @dT a kvs ea =>
  cases (show u = Value.ref a from rx)
  obtain ⟨_, _, xs, _, o, es, ep, h1, h2, _⟩ := (show Hc X.prog X.w H s.heap a (.dT kvs) from I.hok a _ ea)
  exact PySem.W.kia_one PySem.W.kitx_dict I.kIn ⟨o, h1, h2.1⟩ e (fun z => nomatch z) h
 | @ins a C dx fs ea cl ha hn htk hm =>
  cases (show u = Value.ref a from rx)
  obtain ⟨mA, O, _⟩ := px I.hok ea
  obtain ⟨od, J, _⟩ := O.look
  exact PySem.W.kia_one (PySem.W.kitx_own (cl.get _) cl.hd ha hn htk hm) I.kIn J e (fun z => nomatch z) h
end
end L2
namespace L2
open PySem PySem.Spec PyProof.Rows
structure Room (k : Nat) (A : Around) : Prop where
 hd : A.handled = none
 dp : A.depth + 3 * k + 5 < recursionLimit
 un : A.units + 16 * k + 200 < cLine
theorem Room.mono {j k : Nat} {A : Around} (r : Room k A) (h : j <= k) : Room j A := ⟨r.hd, by have := r.dp; omega, by have := r.un; omega⟩
theorem Room.deeper {k : Nat} {A : Around} (r : Room (k + 1) A) (env : Env) : Room k (A.deeper env) :=
 ⟨r.hd, by have := r.dp; show A.depth + 1 + 3 * k + 5 < _; omega, by have := r.un; show A.units + 3 + 16 * k + 200 < _; omega⟩
theorem Room.depth {k : Nat} {A : Around} (r : Room k A) : A.depth < recursionLimit := by have := r.dp; omega
theorem Room.units {k : Nat} {A : Around} (r : Room k A) : A.units + 64 < cLine := by have := r.un; omega
def tNil : TA := fun _ H Q => Q [] H
def tCons (ta : TE) (tr : TA) : TA := fun σ H Q => ta σ H fun x H1 => tr σ H1 fun xs H2 => Q (x :: xs) H2
section
variable {X : Cx} {e : Expr} {es : List Expr} {te : TE} {t : TA} {pos : Pos}
theorem da : PA X [] tNil := fun _ _ _ _ H Q I h => Calls.spliced_nil ⟨[], H, I, .nil, h⟩
theorem aa (ha : PE X e te) (hr : PA X es t) (hs : starEach (e :: es) X.env = (false, eval e X.env) :: starEach es X.env := by first | rfl | with_unfolding_all rfl) : PA X (e :: es) (tCons te t) := by
 intro pos pins s σ H Q I h
 rw [hs]
 show wpAny _ _ (spliced ((false, eval e X.env) :: backTo pos (starEach es X.env))) _ _ s
 refine Calls.spliced_cons (thn (ha pins s σ H _ I h) fun u s1 ⟨x, H1, I1, r1, q1⟩ => ?_)
 exact thn (hr pos pins s1 σ H1 _ I1 q1) fun us s2 ⟨xs, H2, I2, r2, q2⟩ => ⟨x :: xs, H2, I2, .cons r1 r2, q2⟩
def tTup (t : TA) : TE := fun σ H Q => t σ H fun xs H1 => xs.length <= sizeLine /\ ∀ p, H1 p = none -> Q (.ref p) (upd H1 p (.tup xs))
def tLst (t : TA) : TE := fun σ H Q => t σ H fun xs H1 => xs.length <= sizeLine /\ ∀ p, H1 p = none -> Q (.ref p) (upd H1 p (.lst xs))
theorem kd {x1} (h : PA X es t) : PE X (.Tuple es x1 pos) (tTup t) := by
 intro pins s σ H Q I hq
 refine wpAny_Tuple_spliced (thn (h pos pins s σ H _ I hq) fun us s1 ⟨xs, H1, I1, r, z, q⟩ => ⟨by rw [<- r.length]; exact z, ?_⟩)
 have hf : H1 s1.heap.objs.size = none := I1.hok.fresh (Nat.le_refl _)
 refine ⟨.ref s1.heap.objs.size, upd H1 s1.heap.objs.size (.tup xs), I1.laid (t' := s1.toks) (fun b u e => Heap.get?_push_of_some _ e) (Nat.le_refl _) ?_, rfl, q _ hf⟩
 exact ⟨z, us, r, ⟨_, Heap.get?_push_size _ rfl, rfl, _, rfl⟩⟩
theorem ab (h : PA X es t) : PE X (.List es pos) (tLst t) := by
 intro pins s σ H Q I hq
 refine wpAny_List_spliced (thn (h pos pins s σ H _ I hq) fun us s1 ⟨xs, H1, I1, r, z, q⟩ => ⟨by rw [<- r.length]; exact z, ?_⟩)
 have hf : H1 s1.heap.objs.size = none := I1.hok.fresh (Nat.le_refl _)
 refine ⟨.ref s1.heap.objs.size, upd H1 s1.heap.objs.size (.lst xs), I1.laid (t' := s1.toks) (fun b u e => Heap.get?_push_of_some _ e) (Nat.le_refl _) ?_, rfl, q _ hf⟩
 exact ⟨z, us, 0, r, Heap.get?_push_size _ rfl⟩
end
abbrev Sp := List V -> Hp -> VK -> XK -> Prop
abbrev CXT := List Env -> Hp -> Shared -> XK -> Value -> Shared -> Prop
structure Env0 (P : Program) (w : World) (K : PySem.W.Frag) (mg : Str -> Option Value) (base : Heap) (A : Around) (outer : List Env) (s : Shared) (H : Hp) : Prop where
 frames : A.frames = some outer
 mod : Mod K mg base
 bs : ∀ b o, base.get? b = some o -> s.heap.get? b = some o /\ H b = none
 bsz : base.objs.size <= s.heap.objs.size
 funs : s.heap.FunFrames base outer
 frf : ∀ b ∈ frs outer, H b = none
 hok : HOk P w H s.heap
 bare : AllBare s.gens
def CE (outer : List Env) (P : Program) (w : World) (H : Hp) (s : Shared) (Q : VK) (u : Value) (s' : Shared) : Prop :=
 ∃ v H', s'.os = s.os /\ AllBare s'.gens /\ Un (frs outer) [] H H' s.heap s'.heap /\ HOk P w H' s'.heap /\ RelV v u /\ Q v H'
def CR (CX : CXT) (outer : List Env) (P : Program) (w : World) (H : Hp) (s : Shared) (Q : VK) (E : XK) (r : Result) (s' : Shared) : Prop :=
 match r with
 | .ok (.ret u) => CE outer P w H s Q u s'
 | .ok _ => False
 | .error e => CX outer H s E e s'
structure FnOk (P : Program) (w : World) (K : PySem.W.Frag) (mg : Str -> Option Value) (base : Heap) (CX : CXT) (k : Nat) (f : Addr) (fd : FuncData) (ps : List Str) (sp : Sp) : Prop where
 len : ∀ vs H Q E, sp vs H Q E -> vs.length = ps.length
 run : ∀ (A : Around) (outer : List Env) (s : Shared) (H : Hp) (args : Args) (us : List Value) (vs : List V) (Q : VK) (E : XK), Room k A -> Env0 P w K mg base A outer s H -> BindsTo s fd args (ps.zip us) -> Vals vs us -> sp vs H Q E ->
  codeAny (model P w) A (.call (.ref f) args) (CR CX outer P w H s Q E) s
section
variable {X : Cx} {pins : List (Addr × Obj)} {σ : St} {H : Hp} {s s' : Shared}
theorem Inv.env0 (I : Inv X pins σ H s) : Env0 X.prog X.w X.K X.mg X.base X.A X.stack s H :=
 ⟨I.ok.frames, I.ok.mod, I.bs, Nat.le_trans I.ok.bsz I.sz, I.stack, I.Lp, I.hok, I.bare⟩
theorem Inv.after {Q : VK} {u : Value} (I : Inv X pins σ H s) (h : CE X.stack X.prog X.w H s Q u s') : EP X pins σ Q u s' := by
 obtain ⟨v, H', os, bare, un, hok, r, q⟩ := h
 obtain ⟨hh, g, d, t, os'⟩ := s'
 obtain rfl : os' = s.os := os
 exact ⟨v, H', I.call (h' := hh) (g' := g) (d' := d) (t' := t) (ch := []) un hok bare (fun b z => absurd z (by simp)), r, q⟩
end
def tCall (sp : Sp) (dvs : List V) (E : XK) (t : TA) : TE := fun σ H Q => t σ H fun vs H1 => sp (vs ++ dvs) H1 Q E
def Binds (K : PySem.W.Frag) (fd : FuncData) (ps : List Str) (ds : List Value) : Prop :=
 ∀ (s : Shared) (us : List Value), K.In s.heap -> (us ++ ds).length = ps.length -> BindsTo s fd ⟨us, []⟩ (ps.zip (us ++ ds))
theorem Binds.all {K : PySem.W.Frag} {fd : FuncData} {ps : List Str} (h : ∀ us : List Value, us.length = ps.length -> bindArgs fd ⟨us, []⟩ = pure (ps.zip us)) : Binds K fd ps [] := fun s us _ hl => by
 rw [List.append_nil] at hl ⊢
 exact .of_eq (h us hl)
def Passes (CX : CXT) (X : Cx) (E : XK) : Prop := ∀ (pins : List (Addr × Obj)) (σ : St) (H : Hp) (s : Shared) (e : Value) (s' : Shared), Inv X pins σ H s -> CX X.stack H s E e s' -> X.xe e s'
section
variable {X : Cx} {CX : CXT} {k : Nat} {f C : Addr} {fd : FuncData} {ps : List Str} {sp : Sp} {dvs : List V} {ds : List Value} {E : XK} {x m : Str} {p pos apos : Pos} {e o : Expr} {es : List Expr} {ta : TE} {t : TA}
theorem run_fn {pins : List (Addr × Obj)} {σ : St} {H : Hp} {s : Shared} {Q : VK} {us : List Value} {vs : List V} (F : FnOk X.prog X.w X.K X.mg X.base CX k f fd ps sp) (hr : Room k X.A) (hb : Binds X.K fd ps ds) (hd : Vals dvs ds) (hx : Passes CX X E)
 (I : Inv X pins σ H s) (r : Vals vs us) (h : sp (vs ++ dvs) H Q E) : wpAny (model X.prog X.w) X.A (call (.ref f) us) (EP X pins σ Q) X.xe s := by
 have r2 : Vals (vs ++ dvs) (us ++ ds) := r.append hd
 have hl : (us ++ ds).length = ps.length := by rw [<- r2.length]; exact F.len _ _ _ _ h
 refine wpAny_call (codeAny_mono (F.run X.A X.stack s H ⟨us, []⟩ (us ++ ds) (vs ++ dvs) Q E hr I.env0 (hb s us I.kIn hl) r2 h) fun r s' hq => ?_)
 cases r with
 | error e => exact hx pins σ H s e s' I hq
 | ok fl =>
  cases fl with
  | ret u => exact I.after hq
  | next => exact False.elim hq
  | brk => exact False.elim hq
  | cont => exact False.elim hq
theorem Tw (F : FnOk X.prog X.w X.K X.mg X.base CX k f fd ps sp) (hr : Room k X.A) (hg : Gl X x) (hm : X.mg x = some (.ref f)) (hk : PySem.W.keepIn X.K (.ref f) = true) (hb : Binds X.K fd ps ds) (hd : Vals dvs ds) (hx : Passes CX X E)
 (ha : PA X (e :: es) t) (hdb : (x == ("__debug__" : Str)) = false := by decide) (he : starEach (e :: es) X.env = (false, eval e X.env) :: starEach es X.env := by first | rfl | with_unfolding_all rfl) (hpl : (backTo pos (starEach es X.env)).any (·.1) = false := by first | rfl | with_unfolding_all rfl) :
 PE X (.Call (.Name x p) (e :: es) [] pos) (tCall sp dvs E t) := by
 intro pins s σ H Q I h
 refine wpAny_Call_Name_kw (Es I hg hm ?_ hdb)
 refine PySem.W.callWith_K (h₀ := X.base) I.ok.mod.kin hk (thn (ha pos pins s σ H _ I h) fun us s1 ⟨vs, H1, I1, r, q⟩ => ⟨I1.kIn, ?_⟩) he hpl
 exact run_fn F hr hb hd hx I1 r q
end
def PK (X : Cx) (kws : List Keyword) (t : TA) : Prop :=
 ∀ (pos : Pos) (pins : List (Addr × Obj)) (s : Shared) (σ : St) (H : Hp) (Q : List V -> Hp -> Prop), Inv X pins σ H s -> t σ H Q -> wpAny (model X.prog X.w) X.A (evalAll ((backToKw pos (keywordEach kws X.env)).map (·.2))) (AP X pins σ Q) X.xe s
section
variable {X : Cx} {CX : CXT} {k : Nat} {f C : Addr} {fd : FuncData} {ps ks : List Str} {sp : Sp} {E : XK} {x m : Str} {p pos apos kpos : Pos} {e o : Expr} {es : List Expr} {kws : List Keyword} {te ta : TE} {t tk : TA} {nm : Option Str}
theorem Dr : PK X [] tNil := fun _ _ _ _ H Q I h => wpAny_evalAll_nil ⟨[], H, I, .nil, h⟩
variable {g : List Value -> List Value -> List Value} {gV : List V -> List V -> List V}
end
structure Ia (N P : List Str) (sc : Scope) : Prop where
 kind : sc.kind = .function
 co : sc.isCoroutine = false
 gen : sc.isGenerator = false
 nd : N.Nodup
 pre : N.take P.length = P
 par : ∀ x ∈ P, sc.names.lookup x = some .local \/ sc.names.lookup x = some .cell
 nofree : ∀ y ∈ sc.names, y.2 ≠ .free
theorem Wk {kindOf : Str -> Option NameKind} {x : Str} : ∀ {binds : List (Str × Value)} {m : Str -> Option Value}, (∀ v, (x, v) ∉ binds) -> bindL kindOf binds m x = m x
 | [], _, _ => rfl
 | (n, v) :: r, m, h => by
  unfold bindL
  rw [Wk fun w hw => h w (List.mem_cons_of_mem _ hw)]
  split
  . have : x ≠ n := by rintro rfl; exact h v List.mem_cons_self
    simp [this]
  . rfl
theorem Yk {kindOf : Str -> Option NameKind} {x : Str} : ∀ {binds : List (Str × Value)} {m : Str -> Option Value}, (∀ v, (x, v) ∉ binds) -> bindC kindOf binds m x = m x
 | [], _, _ => rfl
 | (n, v) :: r, m, h => by
  unfold bindC
  rw [Yk fun w hw => h w (List.mem_cons_of_mem _ hw)]
  split
  . rfl
  . have : x ≠ n := by rintro rfl; exact h v List.mem_cons_self
    simp [this]
theorem Xk {kindOf : Str -> Option NameKind} {x : Str} {v : Value} : ∀ {P : List Str} {vs : List Value} {i : Nat} {m : Str -> Option Value}, P.Nodup -> P[i]? = some x -> vs[i]? = some v -> kindOf x = some .local ->
 bindL kindOf (P.zip vs) m x = some v
 | [], _, _, _, _, h, _, _ => by simp at h
 | _ :: _, [], _, _, _, _, h, _ => by simp at h
 | p :: P, w :: vs, 0, m, nd, h1, h2, hk => by
  simp at h1 h2; subst h1; subst h2
  show bindL kindOf ((p, w) :: P.zip vs) m p = _
  unfold bindL
  rw [Wk fun v hv => (List.nodup_cons.mp nd).1 (List.of_mem_zip hv).1, if_pos hk]
  simp
 | p :: P, w :: vs, i + 1, m, nd, h1, h2, hk => by
  show bindL kindOf ((p, w) :: P.zip vs) m x = _
  unfold bindL
  exact Xk (i := i) (List.nodup_cons.mp nd).2 (by simpa using h1) (by simpa using h2) hk
theorem Zk {kindOf : Str -> Option NameKind} {x : Str} {v : Value} : ∀ {P : List Str} {vs : List Value} {i : Nat} {m : Str -> Option Value}, P.Nodup -> P[i]? = some x -> vs[i]? = some v -> kindOf x ≠ some .local ->
 bindC kindOf (P.zip vs) m x = some v
 | [], _, _, _, _, h, _, _ => by simp at h
 | _ :: _, [], _, _, _, _, h, _ => by simp at h
 | p :: P, w :: vs, 0, m, nd, h1, h2, hk => by
  simp at h1 h2; subst h1; subst h2
  show bindC kindOf ((p, w) :: P.zip vs) m p = _
  unfold bindC
  rw [Yk fun v hv => (List.nodup_cons.mp nd).1 (List.of_mem_zip hv).1, if_neg hk]
  simp
 | p :: P, w :: vs, i + 1, m, nd, h1, h2, hk => by
  show bindC kindOf ((p, w) :: P.zip vs) m x = _
  unfold bindC
  exact Zk (i := i) (List.nodup_cons.mp nd).2 (by simpa using h1) (by simpa using h2) hk
def start (N : List Str) (vs : List V) : St := vs.map some ++ List.replicate (N.length - vs.length) none
def cxOf (CX : CXT) (P : Program) (w : World) (K : PySem.W.Frag) (mg : Str -> Option Value) (base : Heap) (N : List Str) (qual : Str) (scope : Scope) (f : Addr) (cd : Value) (A : Around) (outer : List Env) (s : Shared) (H : Hp) (E : XK) : Cx where
 prog := P
 w := w
 K := K
 mg := mg
 base := base
 A := A.deeper (envOfC qual scope s.heap.objs.size f cd)
 N := N
 s₀ := s
 H₀ := H
 env := envOfC qual scope s.heap.objs.size f cd
 outer := outer
 stack := envOfC qual scope s.heap.objs.size f cd :: outer
 ex := []
 calm := true
 fn := fun _ => true
 pn := []
 xe := fun e s' => wpAny (model P w) (A.deeper (envOfC qual scope s.heap.objs.size f cd)) (leaving (envOfC qual scope s.heap.objs.size f cd) e) (fun _ s'' => CX outer H s E e s'') (fun e' s'' => CX outer H s E e' s'') s'
theorem so {sc : Scope} {n : Nat} {x : Str} (h : sc.names.lookup x = some .cell) : ∃ c, (cellsFrom n sc.names []).lookup x = some c := by
 have q := PySem.W.cellsFrom_some sc.names n [] (.inl h)
 exact Option.isSome_iff_exists.mp q
theorem Hs {CX : CXT} {P : Program} {w : World} {K : PySem.W.Frag} {mg : Str -> Option Value} {base : Heap} {N ps : List Str} {qual : Str} {scope : Scope} {f : Addr} {cd : Value} {A : Around} {outer : List Env} {s s1 : Shared} {H : Hp} {E : XK} {us : List Value} {vs : List V}
 (S : Ia N ps scope) (hd : A.handled = none) (e0 : Env0 P w K mg base A outer s H) (hl : vs.length = ps.length) (r : Vals vs us)
 (x : InCallC s s.heap.objs.size (bindL (envOfC qual scope s.heap.objs.size f cd).kindOf (ps.zip us) fun _ => none) (cellsFrom (s.heap.objs.size + 1) scope.names []) (bindC (envOfC qual scope s.heap.objs.size f cd).kindOf (ps.zip us) fun _ => none) s1) :
 Inv (cxOf CX P w K mg base N qual scope f cd A outer s H E) [] (start N vs) H s1 := by
 have hpl : ps.length <= N.length := by have := congrArg List.length S.pre; rw [List.length_take] at this; omega
 obtain ⟨h1, tk, rfl, hk⟩ := x.done
 have noA : ∀ b : Addr, b ∉ (cxOf CX P w K mg base N qual scope f cd A outer s H E).ex := fun b z => absurd (show b ∈ ([] : List Addr) from z) (by simp)
 refine ⟨⟨e0.mod, S.kind, rfl, rfl, Nat.le_refl _, fun y z c h1 h2 => ?_, fun y hy => ?_, fun y c _ h => ?_, fun _ => hd, Around.frames_deeper e0.frames, .inr ⟨rfl, rfl⟩, fun b z => absurd z (noA b), e0.bs, e0.bsz, fun b _ _ => noA b, fun b z => absurd z (noA b), e0.funs, e0.frf⟩,
  rfl, e0.bare, Un.kept hk, ⟨_, x.toInCall.ns, fun i y v h1 h2 h3 => ?_⟩, fun y c h => ⟨_, x.cell y c h⟩, e0.hok.fresh (Nat.le_refl _), fun y c h => ?_, fun p hp => absurd (show p ∈ ([] : List (Addr × Obj)) from hp) (by simp), e0.hok.kept hk, ?_⟩
 . exact name_of_addr x.apart (PySem.mem_of_lookup h1) (PySem.mem_of_lookup h2)
 . have hy : scope.names.lookup y = some .cell \/ scope.names.lookup y = some .free := hy
   rcases hy with hy | hy
   . exact so hy
   . exact absurd rfl (S.nofree _ (PySem.mem_of_lookup hy))
 . exact Nat.le_of_lt (x.above y c (PySem.mem_of_lookup h))
 . have hi : i < vs.length := by
    unfold start at h2
    by_cases hi : i < vs.length
    . exact hi
    . rw [List.getElem?_append_right (by simpa using hi)] at h2
      rw [List.getElem?_replicate] at h2
      split at h2 <;> cases h2
   have ha : vs[i]? = some v := by
    unfold start at h2
    rw [List.getElem?_append_left (by simpa using hi), List.getElem?_map] at h2
    cases e : vs[i]? with
    | none => rw [e] at h2; cases h2
    | some a => rw [e] at h2; cases h2; rfl
   obtain ⟨u, hu, rv⟩ := r.get ha
   have hp : ps[i]? = some y := by
    rw [<- S.pre, List.getElem?_take_of_lt (by omega)]; exact h1
   have ndP : ps.Nodup := by rw [<- S.pre]; exact S.nd.sublist (List.take_sublist _ _)
   refine ⟨u, rv, ?_⟩
   rcases S.par y (List.mem_of_getElem? hp) with k | k
   . exact .inl ⟨k, Xk ndP hp hu k⟩
   . obtain ⟨c, e⟩ := so (n := s.heap.objs.size + 1) k
     refine .inr ⟨.inl k, c, e, ?_⟩
     have q := x.cell y c e
     rw [Zk ndP hp hu (by show scope.names.lookup y ≠ _; rw [k]; decide)] at q
     exact q
 . exact e0.hok.fresh (Nat.le_of_lt (x.above y c (PySem.mem_of_lookup h)))
 . unfold start
   show _ = N.length
   rw [List.length_append, List.length_map, List.length_replicate]
   omega
theorem fn_of {CX : CXT} {P : Program} {w : World} {K : PySem.W.Frag} {mg : Str -> Option Value} {base : Heap} {k : Nat} {f : Addr} {name qual : Str} {params : Arguments} {body : List Stmt} {scope : Scope} {dV kV doc pm cdv ct oc : Value} {an od : Option Addr}
 {osl : Array (Option Value)} {N ps : List Str} {sp : Sp} (lk : K.lookup f = some ⟨oc, od, .func (PySem.W.fnOf name qual params body scope dV kV doc pm an cdv ct), osl⟩) (hcd : PySem.W.codeIn K cdv qual = true) (S : Ia N ps scope)
 (len : ∀ vs H Q E, sp vs H Q E -> vs.length = ps.length)
 (hbody : ∀ (A : Around) (outer : List Env) (s : Shared) (H : Hp) (vs : List V) (Q : VK) (E : XK), Room k (A.deeper (envOfC qual scope s.heap.objs.size f cdv)) -> sp vs H Q E ->
   ∃ t, PSs (cxOf CX P w K mg base N qual scope f cdv A outer s H E) body t /\ t { nx := fun _ H' => Q .non H', rt := Q } (start N vs) H) :
 FnOk P w K mg base CX (k + 1) f (PySem.W.fnOf name qual params body scope dV kV doc pm an cdv ct) ps sp := by
 refine ⟨len, fun A outer s H args us vs Q E hr e0 hb r hsp => ?_⟩
 have hl := len _ _ _ _ hsp
 have KX : K.In s.heap := e0.mod.kin.keeps fun b o e => (e0.bs b o e).1
 have lim : s.heap.NoLimit := e0.mod.nolimit.keeps fun b o e => (e0.bs b o e).1
 have hkind : ∀ y ∈ ps.zip us, scope.names.lookup y.1 = some .local \/ (scope.names.lookup y.1 = some .cell /\ ((cellsFrom (s.heap.objs.size + 1) scope.names []).lookup y.1).isSome = true) := fun ⟨n, v⟩ hy => by
  rcases S.par n (List.of_mem_zip hy).1 with q | q
  . exact .inl q
  . exact .inr ⟨q, PySem.W.cellsFrom_some _ _ _ (.inl q)⟩
 refine codeAny_call_function hr.depth (KX _ _ lk) rfl S.co S.gen rfl (PySem.W.codeRec_of KX hcd) (hb _ _ _ _ ?_)
 refine wpAny_newFunctionEnv_cells S.kind hkind fun env he s1 x => ?_
 subst he
 refine ⟨lim.keeps x.toInCall.keep, codeAny_func ?_⟩
 obtain ⟨t, ht, hq⟩ := hbody A outer s H vs Q E (hr.deeper _) hsp
 have I : Inv (cxOf CX P w K mg base N qual scope f cdv A outer s H E) [] (start N vs) H s1 := Hs S hr.hd e0 hl r x
 refine wpAny_mono (ht [] s1 (start N vs) H _ I hq) (fun fl s' hs => ?_) fun e s' hs => hs
 have fin : ∀ {σ' : St} {H' : Hp} {v : V} {u : Value}, Inv (cxOf CX P w K mg base N qual scope f cdv A outer s H E) [] σ' H' s' -> RelV v u -> Q v H' -> CE outer P w H s Q u s' :=
  fun {σ' H' v u} J rv q => ⟨v, H', J.os, J.bare, J.base, J.hok, rv, q⟩
 cases fl with
 | ret u =>
  obtain ⟨v, σ', H', J, rv, q⟩ := hs
  exact fin J rv q
 | next =>
  obtain ⟨σ', H', J, q⟩ := hs
  exact fin (v := V.non) (u := Value.none) J rfl q
 | brk =>
  obtain ⟨_, _, _, q⟩ := hs
  exact False.elim q
 | cont =>
  obtain ⟨_, _, _, q⟩ := hs
  exact False.elim q
end L2
namespace L2
open PySem PySem.Spec PyProof.Rows
section
variable {X : Cx} {x : Str} {p pos : Pos} {e : Expr} {es : List Expr} {t : TA} {id T : String} {r : List V -> Hp -> VK -> Prop}
def tCB (r : List V -> Hp -> VK -> Prop) (t : TA) : TE := fun σ H Q => t σ H fun vs H1 => r vs H1 Q
theorem Ga (hc : Wc X (.builtin id) r) (hg : Gl X x) (hm : X.mg x = none) (hv : bootBuiltins x = some (.builtin id)) (ha : PA X (e :: es) t) (hn : x ≠ "__name__" := by decide) (hdb : (x == ("__debug__" : Str)) = false := by decide)
 (he : starEach (e :: es) X.env = (false, eval e X.env) :: starEach es X.env := by first | rfl | with_unfolding_all rfl) (hpl : (backTo pos (starEach es X.env)).any (·.1) = false := by first | rfl | with_unfolding_all rfl) : PE X (.Call (.Name x p) (e :: es) [] pos) (tCB r t) := by
 intro pins s σ H Q I h
 refine wpAny_Call_Name_kw (Ge I hg hm hv ?_ hn hdb)
 exact PyProof.Rows.callWith_builtin1 (thn (ha pos pins s σ H _ I h) fun us s1 ⟨vs, H1, I1, r1, q1⟩ => hc pins s1 σ H1 vs us Q I1 r1 q1) he hpl
theorem Zb (hc : Wc X (.type T) r) (hg : Gl X x) (hm : X.mg x = none) (hv : bootBuiltins x = some (.type T)) (ha : PA X (e :: es) t) (hn : x ≠ "__name__" := by decide) (hdb : (x == ("__debug__" : Str)) = false := by decide)
 (he : starEach (e :: es) X.env = (false, eval e X.env) :: starEach es X.env := by first | rfl | with_unfolding_all rfl) (hpl : (backTo pos (starEach es X.env)).any (·.1) = false := by first | rfl | with_unfolding_all rfl) : PE X (.Call (.Name x p) (e :: es) [] pos) (tCB r t) := by
 intro pins s σ H Q I h
 refine wpAny_Call_Name_kw (Ge I hg hm hv ?_ hn hdb)
 exact PyProof.Rows.callWith_type1 (thn (ha pos pins s σ H _ I h) fun us s1 ⟨vs, H1, I1, r1, q1⟩ => hc pins s1 σ H1 vs us Q I1 r1 q1) he hpl
end
end L2
namespace HT
open PySem PyProof.Rows
def lexLt : List Int -> List Int -> Bool
 | [], [] => false
 | [], _ :: _ => true
 | _ :: _, [] => false
 | x :: xs, y :: ys => if x = y then lexLt xs ys else decide (x < y)
theorem Xo (x y : Int) (xs ys : List Int) : lexLt (x :: xs) (y :: ys) = if x = y then lexLt xs ys else decide (x < y) := rfl
theorem Jj : lexLt [] [] = false := rfl
theorem Vh (y : Int) (ys : List Int) : lexLt [] (y :: ys) = true := rfl
theorem Wh (x : Int) (xs : List Int) : lexLt (x :: xs) [] = false := rfl
theorem ao (A : Around) (s : Shared) (a : Int) (t : Tok) (c : Int) (u : Tok) : ∃ e, SeqAt.EqAt A s (.int a t) (.int c u) e /\ (e = true ↔ a = c) :=
 ⟨(a == c), SeqAt.EqAt.int_int a t c u, by simp⟩
theorem Yt (A : Around) (s : Shared) (a : Int) (t : Tok) (c : Int) (u : Tok) (prog : Program) (w : World) (E : Value -> Shared -> Prop) (Q : Value -> Shared -> Prop) (h : Q (.bool (decide (a < c))) s) :
 wpAny (model prog w) A (richCompare .Lt (.int a t) (.int c u)) Q E s :=
 (PyProof.Rows.lt_int h : wpAny (model prog w) A (compareOp .Lt (.int a t) (.int c u)) Q E s)
section
open PySem.SeqAt
open PySem.AutoSeq1 (wpAny_loadPart')
open PySem.MeetsSeq PySem.MeetsSeq2 PySem.MeetsSeq3
theorem Hi (l b : Addr) (items items2 : Array Value) (n n2 : Nat) (dd dd2 : Option Addr) (sl sl2 : Array (Option Value)) (ns ms : List Int) (hi : IntsAre items.toList ns) (hj : IntsAre items2.toList ms) :
 Meets (Builtin.«tuple.__lt__» ⟨[.ref l, .ref b], []⟩)
  (fun _ R s => s.heap.get? l = some { cls := .type "tuple", dict := dd, data := .seq items n, slots := sl } /\ s.heap.get? b = some { cls := .type "tuple", dict := dd2, data := .seq items2 n2, slots := sl2 } /\
    R (.ok (.ret (.bool (lexLt ns ms)))) s) :=
 .of_wp fun prog w A R s h => by
  obtain ⟨hp, g, d, tk, os⟩ := s; obtain ⟨hl, hb, h⟩ := h
  have f2 := AutoSeq1.sub_tuple_tuple
  have z1 : items.size = ns.length := by rw [<- hi.length]; simp
  have z2 : items2.size = ms.length := by rw [<- hj.length]; simp
  wp_walk using wpAny_loadPart' hl, wpAny_loadPart' hb, wpAny_forIn_list _ (fun rest b s' => b.1 = none /\ s' = ⟨hp, g, d, tk, os⟩ /\ ∃ (vs ws : List Value) (ns' ms' : List Int), rest = vs.zip ws /\
   IntsAre vs ns' /\ IntsAre ws ms' /\ ns'.length + items2.size = ms'.length + items.size /\ R (.ok (.ret (.bool (lexLt ns' ms')))) ⟨hp, g, d, tk, os⟩) _
  case turn =>
   rintro ⟨y, x⟩ rest b s' ⟨hb', rfl, vs, ws, ns', ms', hz, hvi, hwi, hlen, hR⟩
   cases hvi with
   | nil => rw [List.zip_nil_left] at hz; cases hz
   | cons a t hvi' =>
    cases hwi with
    | nil => rw [List.zip_nil_right] at hz; cases hz
    | cons c u hwi' =>
     rw [List.zip_cons_cons] at hz
     injection hz with hyx hrest
     injection hyx with hy hx
     subst hy hx
     rw [Xo] at hR
     simp only [List.length_cons] at hlen
     obtain ⟨e, he, hiff⟩ := ao A.in1 ⟨hp, g, d, tk, os⟩ a t c u
     refine wpAny_bind (he prog w _ _ ?_)
     cases e with
     | true =>
      rw [if_pos (hiff.mp rfl)] at hR
      wp_walk
      exact ⟨rfl, rfl, _, _, _, _, hrest, hvi', hwi', by omega, hR⟩
     | false =>
      rw [if_neg (fun q => absurd (hiff.mpr q) Bool.false_ne_true)] at hR
      have hri := Yt A.in1 ⟨hp, g, d, tk, os⟩ a t c u prog w
      wp_walk using hri
      exact ⟨_, rfl, by simpa using hR⟩
  case fin =>
   rintro ⟨b1, b2⟩ s' ⟨hb', rfl, vs, ws, ns', ms', hz, hvi, hwi, hlen, hR⟩
   simp only at hb'
   subst hb'
   have hv : lexLt ns' ms' = decide (items.size < items2.size) := by
    cases hvi with
    | nil =>
     cases hwi with
     | nil =>
      simp only [List.length_nil] at hlen
      rw [Jj]
      exact (decide_eq_false (by omega)).symm
     | cons c u hw =>
      simp only [List.length_nil, List.length_cons] at hlen
      rw [Vh]
      exact (decide_eq_true (by omega)).symm
    | cons a t hv =>
     cases hwi with
     | nil =>
      simp only [List.length_nil, List.length_cons] at hlen
      rw [Wh]
      exact (decide_eq_false (by omega)).symm
     | cons c u hw =>
      rw [List.zip_cons_cons] at hz
      cases hz
   rw [hv] at hR
   wp_walk
   exact ⟨_, rfl, by simpa [Builtin.Tuple.tupleCompareSizes] using hR⟩
  case h =>
   exact ⟨rfl, rfl, items.toList, items2.toList, ns, ms, rfl, hi, hj, by omega, h⟩
end
section
variable {prog : Program} {w : World} {A : Around} {E : Value -> Shared -> Prop} {s : Shared}
theorem Vo {l b : Addr} {items items2 : Array Value} {ns ms : List Int} {Q : Value -> Shared -> Prop} (hl : IsTup s.heap l items) (hb : IsTup s.heap b items2) (hi : IntsAre items.toList ns) (hj : IntsAre items2.toList ms)
 (hu : A.units < cLine) (h : Q (.bool (lexLt ns ms)) s) : wpAny (model prog w) A (compareOp .Lt (.ref l) (.ref b)) Q E s := by
 obtain ⟨⟨cls, dd, data, sl⟩, ho, hc, n, hd⟩ := id hl
 obtain ⟨⟨cls2, dd2, data2, sl2⟩, ho2, hc2, n2, hd2⟩ := id hb
 simp only at hc hd hc2 hd2
 subst hc hd hc2 hd2
 exact richCompare_meets_room (op := .Lt) ⟨_, ho, rfl⟩ ⟨_, ho2, rfl⟩ PySem.F.slot_tuple_lt PySem.F.entry_tuple_lt (PySem.F.args_tuple_lt_2 _ _) (Hi l b items items2 n n2 dd dd2 sl sl2 ns ms hi hj)
  ⟨ho, ho2, show Value.bool (lexLt ns ms) ≠ Value.notImplemented /\ Q (.bool (lexLt ns ms)) s from ⟨(fun x => nomatch x), h⟩⟩ hu
theorem Ex {t b : Addr} {vs ws : List Value} {Q : Value -> Shared -> Prop} (ht : IsTup s.heap t vs.toArray) (hb : IsTup s.heap b ws.toArray) (hv : vs ≠ [])
 (h1 : ws = [] -> Q (.ref t) s) (h2 : ws ≠ [] -> Q (.ref s.heap.objs.size) { s with heap := s.heap.push { cls := .type "tuple", data := .seq (vs ++ ws).toArray } })
 (hsz : vs.length + ws.length <= sizeLine) : wpAny (model prog w) A (binaryOp .Add (.ref t) (.ref b)) Q E s := by
 obtain ⟨⟨cls, dd, data, sl⟩, ho, hc, n, hd⟩ := id ht
 obtain ⟨⟨cls2, dd2, data2, sl2⟩, ho2, hc2, n2, hd2⟩ := id hb
 simp only at hc hd hc2 hd2
 subst hc hd hc2 hd2
 have e : vs.toArray ++ ws.toArray = (vs ++ ws).toArray := by simp
 by_cases hw : ws = []
 . exact concat_meets ⟨_, ho, rfl⟩ ⟨_, ho2, rfl⟩ noFill_tuple_add seq_tuple_add PySem.F.slot_tuple_add PySem.F.entry_tuple_add (PySem.F.args_tuple_add_2 _ _)
    (tuple_addW1 t b vs.toArray ws.toArray n n2 dd dd2 sl sl2 (by simpa using hv) (by simp [hw])) ⟨ho, ho2, h1 hw⟩
 . refine concat_meets ⟨_, ho, rfl⟩ ⟨_, ho2, rfl⟩ noFill_tuple_add seq_tuple_add PySem.F.slot_tuple_add PySem.F.entry_tuple_add (PySem.F.args_tuple_add_2 _ _)
    (tuple_addW2 t b vs.toArray ws.toArray n n2 dd dd2 sl sl2 (by simpa using hv) (by simpa using hw) (by rw [List.size_toArray, List.size_toArray]; exact hsz)) ⟨ho, ho2, ?_⟩
   rw [e]
   exact h2 hw
def sIx (n d : Nat) : Option Int -> Nat
 | none => d
 | some v => if v < 0 then (v + (n : Int)).toNat else min v.toNat n
theorem Wt (n d : Nat) : sIx n d none = d := rfl
theorem fw (n d k : Nat) : sIx n d (some (k : Int)) = min k n := by
 show (if (k : Int) < 0 then ((k : Int) + (n : Int)).toNat else min (k : Int).toNat n) = min k n
 rw [if_neg (by omega), Int.toNat_natCast]
theorem sIx_le (n d : Nat) (hd : d <= n) (o : Option Int) : sIx n d o <= n := by
 cases o with
 | none => exact hd
 | some v =>
  show (if v < 0 then (v + (n : Int)).toNat else min v.toNat n) <= n
  by_cases hv : v < 0
  . rw [if_pos hv]; omega
  . rw [if_neg hv]; exact Nat.min_le_right _ _
theorem Zs (v : Int) (n d : Nat) : (if v < 0 then max (v + (n : Int)) 0 else min v (n : Int)) = ((sIx n d (some v) : Nat) : Int) := by
 show (if v < 0 then max (v + (n : Int)) 0 else min v (n : Int)) = (((if v < 0 then (v + (n : Int)).toNat else min v.toNat n) : Nat) : Int)
 by_cases hv : v < 0
 . simp only [if_pos hv]; omega
 . simp only [if_neg hv]; omega
theorem gp (lo hi : Option Int) (n : Nat) : Builtin.Slice.sliceAdjust lo hi 1 (n : Int) = (((sIx n 0 lo : Nat) : Int), ((sIx n n hi : Nat) : Int)) := by
 have h1 : ¬ ((1 : Int) < 0) := by omega
 unfold Builtin.Slice.sliceAdjust
 simp only [h1, if_false]
 refine Prod.ext ?_ ?_
 . cases lo with
   | none => rfl
   | some v => exact Zs v n 0
 . cases hi with
   | none => rfl
   | some v => exact Zs v n n
theorem Ko (i j : Nat) : Builtin.Slice.slicePlaces (i : Int) (j : Int) 1 = j - i := by
 unfold Builtin.Slice.slicePlaces
 have h1 : (1 : Int) > 0 := by omega
 simp only [h1, if_true, Int.ediv_one]
 split <;> omega
theorem mi {v : Value} {o : Option Int} {Q : Option Int -> Shared -> Prop} (p : IsPart v o) (h : Q o s) : wpAny (model prog w) A (Builtin.Slice.slicePartIndex v) Q E s := by
 cases p with
 | none => exact slicePart_none h
 | int i t => exact slicePart_int h
theorem Ld {sl : Addr} {vl vu : Value} {lo hi : Option Int} {n : Nat} {Q : Int × Int × Nat -> Shared -> Prop} (hs : s.heap.IsSliceOf sl vl vu .none) (pl : IsPart vl lo) (pu : IsPart vu hi)
 (h : Q (((sIx n 0 lo : Nat) : Int), 1, sIx n n hi - sIx n 0 lo) s) : wpAny (model prog w) A (Builtin.Slice.sliceApplied (.ref sl) (pure (n : Int))) Q E s := by
 obtain ⟨os, hos, hcs, hds⟩ := id hs
 unfold Builtin.Slice.sliceApplied Builtin.Slice.sliceFields
 refine wpAny_bind (wpAny_bind (wpAny_field hos hds (x := vl) rfl (wpAny_bind (wpAny_field hos hds (x := vu) rfl (wpAny_bind (wpAny_field hos hds (x := .none) rfl (wpAny_pure ?_)))))))
 refine wpAny_bind (slicePart_none ?_)
 show wpAny _ _ (if ((1 : Int) == 0) = true then _ else _) _ _ s
 rw [if_neg (by decide)]
 refine wpAny_bind (mi pl (wpAny_bind (mi pu (wpAny_bind (wpAny_pure ?_)))))
 show wpAny _ _ (match Builtin.Slice.sliceAdjust lo hi 1 (n : Int) with | (lo, hi) => pure (lo, (1 : Int), Builtin.Slice.slicePlaces lo hi 1)) _ _ s
 rw [gp lo hi n]
 show wpAny _ _ (pure (((sIx n 0 lo : Nat) : Int), (1 : Int), Builtin.Slice.slicePlaces ((sIx n 0 lo : Nat) : Int) ((sIx n n hi : Nat) : Int) 1)) _ _ s
 rw [Ko]
 exact wpAny_pure h
theorem nu (xs : Array Value) (i k : Nat) : ((List.range k).filterMap fun (m : Nat) => xs[((i : Int) + (m : Int) * 1).toNat]?).toArray = ((xs.toList.drop i).take k).toArray := by
 have e : (fun (m : Nat) => xs[((i : Int) + (m : Int) * 1).toNat]?) = fun m => xs[i + m]? := by
  funext m
  have : ((i : Int) + (m : Int) * 1).toNat = i + m := by omega
  rw [this]
 rw [e]
 have := pick_run xs i k
 rw [List.filterMap_map] at this
 have e2 : ((fun x => xs[x]?) ∘ fun x => i + x) = fun m => xs[i + m]? := rfl
 rw [e2] at this
 rw [this]
theorem Of {t sl : Addr} {items : Array Value} {vl vu : Value} {lo hi : Option Int} {Q : Value -> Shared -> Prop} (ht : IsTup s.heap t items) (hs : s.heap.IsSliceOf sl vl vu .none) (pl : IsPart vl lo) (pu : IsPart vu hi)
 (hw : ¬ (sIx items.size 0 lo = 0 /\ sIx items.size items.size hi = items.size))
 (h : Q (.ref s.heap.objs.size) { s with heap := s.heap.push { cls := .type "tuple", data := .seq ((items.toList.drop (sIx items.size 0 lo)).take (sIx items.size items.size hi - sIx items.size 0 lo)).toArray } })
 (hsz : items.size <= sizeLine) : wpAny (model prog w) A (getItem (.ref t) (.ref sl)) Q E s := by
 have htake : sizeOk (.seq ((items.toList.drop (sIx items.size 0 lo)).take (sIx items.size items.size hi - sIx items.size 0 lo)).toArray) := by
  show ((items.toList.drop (sIx items.size 0 lo)).take (sIx items.size items.size hi - sIx items.size 0 lo)).toArray.size <= sizeLine
  rw [List.size_toArray, List.length_take, List.length_drop, Array.length_toList]
  omega
 have hj : sIx items.size items.size hi <= items.size := sIx_le _ _ (Nat.le_refl _) hi
 obtain ⟨os, hos, hcs, hds⟩ := id hs
 have hTs : s.TypeIs (.ref sl) "slice" := ⟨os, hos, hcs⟩
 unfold getItem
 try with_reducible refine wpAny_holding ?_
 first | refine wpAny_bind (wpAny_pure ?_) | skip
 refine wpAny_bind (wpAny_sequenceKey ht.typeIs (by decide) ?_)
 refine wpAny_bind (wpAny_callSpecial?_slot (name := Str.ofString "__getitem__") ht.typeIs PyProof.Rows.slot_tuple_getitem
  (wpAny_call_entry PyProof.Rows.slot_tuple_getitem ht.typeIs entry_tuple_getitem ?_ (args_tuple_getitem _ _)))
 show wpAny _ _ (Builtin.Tuple.tupleItemsOf (.ref t) >>= _) _ _ s
 refine wpAny_bind (tupleItemsOf_ ht ?_)
 refine wpAny_bind (wpAny_typeOf hTs ?_)
 rw [if_pos (by decide)]
 refine wpAny_bind (Ld hs pl pu ?_)
 have hno : ¬ ((((sIx items.size 0 lo : Nat) : Int) == 0 && (1 : Int) == 1 && (sIx items.size items.size hi - sIx items.size 0 lo) == items.size) = true) := by
  intro q
  rw [Bool.and_eq_true, Bool.and_eq_true] at q
  have q1 : ((sIx items.size 0 lo : Nat) : Int) = 0 := eq_of_beq q.1.1
  have q2 : sIx items.size items.size hi - sIx items.size 0 lo = items.size := eq_of_beq q.2
  exact hw ⟨by omega, by omega⟩
 show wpAny _ _ (if (((sIx items.size 0 lo : Nat) : Int) == 0 && (1 : Int) == 1 && (sIx items.size items.size hi - sIx items.size 0 lo) == items.size) = true then _ else _) _ _ s
 rw [if_neg hno, nu]
 first
  | exact wpAny_bind (m := Builtin.Tuple.tupleExact _) (wpAny_newObj_type (wpAny_pure ⟨_, rfl, wpAny_pure h⟩) htake)
  | exact wpAny_bind (m := Builtin.Tuple.tupleExact _) (wpAny_newObj_type (wpAny_bind (wpAny_pure (wpAny_pure ⟨_, rfl, wpAny_pure h⟩))) htake)
  | exact wpAny_bind (wpAny_bind (m := Builtin.Tuple.tupleExact _) (wpAny_newObj_type (wpAny_pure (wpAny_pure ⟨_, rfl, wpAny_pure h⟩)) htake))
  | exact wpAny_bind (wpAny_bind (m := Builtin.Tuple.tupleExact _) (wpAny_newObj_type (wpAny_pure ⟨_, rfl, wpAny_pure h⟩) htake))
end
end HT
namespace L2
open PySem PySem.Spec PyProof.Rows
abbrev TO := St -> Hp -> (Option Int -> Hp -> Prop) -> Prop
def PO (X : Cx) (e : Option Expr) (t : TO) : Prop :=
 ∀ (pins : List (Addr × Obj)) (s : Shared) (σ : St) (H : Hp) (Q : Option Int -> Hp -> Prop), Inv X pins σ H s -> t σ H Q ->
  wpAny (model X.prog X.w) X.A (evalPart e X.env) (fun u s' => ∃ o H', Inv X pins σ H' s' /\ IsPart u o /\ Q o H') X.xe s
def Jp : TO := fun _ H Q => Q none H
def tPart (t : TE) : TO := fun σ H Q => t σ H fun x H1 => ∃ i, x = .int i /\ Q (some i) H1
theorem intsAre_of {ns : List Int} : ∀ {us : List Value}, Vals (ns.map V.int) us -> IntsAre us ns := by
 induction ns with
 | nil => intro us r; rw [List.map_nil] at r; cases r; exact .nil
 | cons n ns ih =>
  intro us r
  rw [List.map_cons] at r
  cases r with
  | cons r1 r2 =>
   obtain ⟨t, e⟩ := r1
   subst e
   exact .cons n t (ih r2)
section
variable {X : Cx} {e : Expr} {te : TE} {lo hi : Option Expr} {tl th : TO} {pos p2 : Pos}
theorem qj : PO X none Jp := by
 intro pins s σ H Q I h
 rw [evalPart_none]
 exact wpAny_pure ⟨none, H, I, .none, h⟩
theorem oj (h : PE X e te) : PO X (some e) (tPart te) := by
 intro pins s σ H Q I hw
 rw [evalPart_some]
 refine thn (h pins s σ H _ I hw) fun u s1 ⟨x, H1, I1, r1, q1⟩ => ?_
 obtain ⟨i, rfl, q⟩ := q1
 obtain ⟨t, rfl⟩ := r1
 exact ⟨some i, H1, I1, .int i t, q⟩
def SlR (X : Cx) (r : V -> Option Int -> Option Int -> Hp -> VK -> Prop) : Prop :=
 ∀ (pins : List (Addr × Obj)) (s : Shared) (σ : St) (H : Hp) (x : V) (v vl vu : Value) (lo hi : Option Int) (sl : Addr) (Q : VK), Inv X pins σ H s -> RelV x v -> s.heap.IsSliceOf sl vl vu .none -> IsPart vl lo -> IsPart vu hi -> r x lo hi H Q ->
  ∃ T id, typeLookup (.type T) "__getitem__" = pure (some (.builtin id)) /\ s.TypeIs v T /\ wpAny (model X.prog X.w) X.A (getItem v (.ref sl)) (EP X pins σ Q) X.xe s
theorem SlR.or {r r' : V -> Option Int -> Option Int -> Hp -> VK -> Prop} (h : SlR X r) (h' : SlR X r') : SlR X (fun x lo hi H Q => r x lo hi H Q \/ r' x lo hi H Q) := by
 intro pins s σ H x v vl vu lo hi sl Q I rx hs pl pu q
 rcases q with q | q
 . exact h pins s σ H x v vl vu lo hi sl Q I rx hs pl pu q
 . exact h' pins s σ H x v vl vu lo hi sl Q I rx hs pl pu q
def tSl (r : V -> Option Int -> Option Int -> Hp -> VK -> Prop) (te : TE) (tl th : TO) : TE := fun σ H Q => te σ H fun x H1 => tl σ H1 fun l H2 => th σ H2 fun u H3 => r x l u H3 Q
theorem xg {r : V -> Option Int -> Option Int -> Hp -> VK -> Prop} (hr : SlR X r) (he : PE X e te) (hl : PO X lo tl) (hu : PO X hi th) : PE X (.Subscript e (.Slice lo hi none p2) pos) (tSl r te tl th) := by
 intro pins s σ H Q I h
 refine Subscript_ (thn (he pins s σ H _ I h) fun v s1 ⟨x, H1, I1, r1, q1⟩ => ?_)
 refine wpAny_Slice (thn (hl pins s1 σ H1 _ I1 q1) fun vl s2 ⟨l, H2, I2, pl, q2⟩ => thn (hu pins s2 σ H2 _ I2 q2) fun vu s3 ⟨u, H3, I3, pu, q3⟩ => ?_)
 rw [evalPart_none]
 refine wpAny_pure ?_
 have I4 : Inv X pins σ H3 { s3 with heap := s3.heap.push { cls := .type "slice", data := .fields #[vl, vu, .none] } } := I3.kept (t' := s3.toks) fun b ob q => Heap.get?_push_of_some _ q
 obtain ⟨T, id, hT, ht, hg⟩ := hr pins { s3 with heap := s3.heap.push { cls := .type "slice", data := .fields #[vl, vu, .none] } } σ H3 x v vl vu l u s3.heap.objs.size Q I4 r1 (Heap.IsSliceOf.new ..) pl pu q3
 show wpAny (model X.prog X.w) X.A (subscriptTail e (.Slice lo hi none p2) v (.ref s3.heap.objs.size)) (EP X pins σ Q) X.xe { s3 with heap := s3.heap.push { cls := .type "slice", data := .fields #[vl, vu, .none] } }
 exact tail_any (ops := [.ref s3.heap.objs.size, v]) ht hT hg (by with_unfolding_all rfl)
def cutV (xs : List V) (lo hi : Option Int) : List V := (xs.drop (HT.sIx xs.length 0 lo)).take (HT.sIx xs.length xs.length hi - HT.sIx xs.length 0 lo)
theorem sh (xs : List V) (lo hi : Option Int) : (cutV xs lo hi).length <= xs.length := by
 unfold cutV
 rw [List.length_take, List.length_drop]
 omega
def rSlT (K : PySem.W.Frag) : V -> Option Int -> Option Int -> Hp -> VK -> Prop := fun x lo hi H Q => ∃ a xs, x = .ref a /\ SqT K H a xs /\
 ¬ (HT.sIx xs.length 0 lo = 0 /\ HT.sIx xs.length xs.length hi = xs.length) /\ ∀ p, H p = none -> Q (.ref p) (upd H p (.tup (cutV xs lo hi)))
theorem sl_tup : SlR X (rSlT X.K) := by
 intro pins s σ H x v vl vu lo hi sl Q I rx hs pl pu h
 obtain ⟨a, xs, rfl, hx, hw, q⟩ := h
 cases rx
 obtain ⟨its, r, ht, hz⟩ := I.tuple hx
 have hlen : its.toArray.size = xs.length := by rw [List.size_toArray]; exact r.length.symm
 refine ⟨"tuple", _, PyProof.Rows.slot_tuple_getitem.lookup, ht.typeIs, ?_⟩
 refine HT.Of ht hs pl pu (by rw [hlen]; exact hw) ?_ (by rw [hlen]; exact hz)
 rw [hlen]
 refine ⟨.ref s.heap.objs.size, _, I.laid (t' := s.toks) (o := .tup (cutV xs lo hi)) (fun b ob q => Heap.get?_push_of_some _ q) (Nat.le_refl _) ?_, rfl, q _ (I.hok.fresh (Nat.le_refl _))⟩
 exact ⟨Nat.le_trans (sh xs lo hi) hz, _, (r.drop (HT.sIx xs.length 0 lo)).take (HT.sIx xs.length xs.length hi - HT.sIx xs.length 0 lo), IsTup.new _ _⟩
def rLtT (K : PySem.W.Frag) : R2 := fun x y H Q => ∃ a b ns ms, x = .ref a /\ y = .ref b /\ SqT K H a (ns.map V.int) /\ SqT K H b (ms.map V.int) /\ Q (.bl (HT.lexLt ns ms)) H
theorem op_ltT (hu : X.A.units < cLine) : OpR X (compareOp .Lt) (rLtT X.K) := by
 intro pins s σ H x y v u Q I rx ry h
 obtain ⟨a, b, ns, ms, rfl, rfl, ha, hb, q⟩ := h
 cases rx
 cases ry
 obtain ⟨its, r1, p1, _⟩ := I.tuple ha
 obtain ⟨its2, r2, p2, _⟩ := I.tuple hb
 have i1 : IntsAre its.toArray.toList ns := intsAre_of r1
 have i2 : IntsAre its2.toArray.toList ms := intsAre_of r2
 exact HT.Vo p1 p2 i1 i2 hu ⟨.bl (HT.lexLt ns ms), H, I, rfl, q⟩
def rCatT (K : PySem.W.Frag) : R2 := fun x y H Q => ∃ a b xs ys, x = .ref a /\ y = .ref b /\ SqT K H a xs /\ SqT K H b ys /\ xs ≠ [] /\ xs.length + ys.length <= sizeLine /\
 (ys = [] -> Q (.ref a) H) /\ (ys ≠ [] -> ∀ p, H p = none -> Q (.ref p) (upd H p (.tup (xs ++ ys))))
theorem Vals.wm {xs : List V} {us : List Value} (r : Vals xs us) : us = [] ↔ xs = [] := by
 cases r with
 | nil => simp
 | cons _ _ => simp
theorem Ir : OpR X (binaryOp .Add) (rCatT X.K) := by
 intro pins s σ H x y v u Q I rx ry h
 obtain ⟨a, b, xs, ys, rfl, rfl, ha, hb, hx, hz, q1, q2⟩ := h
 cases rx
 cases ry
 obtain ⟨its, r1, p1, _⟩ := I.tuple ha
 obtain ⟨its2, r2, p2, _⟩ := I.tuple hb
 refine HT.Ex p1 p2 (fun z => hx (r1.wm.mp z)) (fun z => ⟨.ref a, H, I, rfl, q1 (r2.wm.mp z)⟩) (fun z => ?_) (by rw [<- r1.length, <- r2.length]; exact hz)
 refine ⟨.ref s.heap.objs.size, _, I.laid (t' := s.toks) (o := .tup (xs ++ ys)) (fun b ob q => Heap.get?_push_of_some _ q) (Nat.le_refl _) ?_, rfl, q2 (fun w => z (r2.wm.mpr w)) _ (I.hok.fresh (Nat.le_refl _))⟩
 exact ⟨by rw [List.length_append]; exact hz, _, r1.append r2, IsTup.new _ _⟩
end
end L2
namespace L2
open PySem PySem.Spec PyProof.Rows
def ixN (n : Nat) (i : Int) : Option Nat := if 0 <= i then (if i < n then some i.toNat else none) else if -(n : Int) <= i then some (i + n).toNat else none
def atI {α : Type} (xs : List α) (i : Int) : Option α := (ixN xs.length i).bind fun j => xs[j]?
theorem Fs {n : Nat} {i : Int} {j : Nat} (h : ixN n i = some j) : seqIndex? i n = some j /\ j < n /\ -(n : Int) <= i /\ i < n := by
 unfold ixN at h
 by_cases h0 : 0 <= i
 . rw [if_pos h0] at h
   by_cases h1 : i < n
   . rw [if_pos h1] at h
     have e : i.toNat = j := Option.some.inj h
     exact ⟨by rw [seqIndex_of h0 h1, e], by omega, by omega, h1⟩
   . rw [if_neg h1] at h; cases h
 . rw [if_neg h0] at h
   by_cases h1 : -(n : Int) <= i
   . rw [if_pos h1] at h
     have e : (i + n).toNat = j := Option.some.inj h
     exact ⟨by rw [seqIndex_neg (by omega) h1, e], by omega, h1, by omega⟩
   . rw [if_neg h1] at h; cases h
theorem Vj {α : Type} {xs : List α} {i : Int} {v : α} (h : atI xs i = some v) : ∃ j, seqIndex? i xs.length = some j /\ xs[j]? = some v /\ j < xs.length /\ -(xs.length : Int) <= i /\ i < xs.length := by
 unfold atI at h
 cases e : ixN xs.length i with
 | none => rw [e] at h; cases h
 | some j =>
  rw [e] at h
  obtain ⟨h1, h2, h3, h4⟩ := Fs e
  exact ⟨j, h1, h, h2, h3, h4⟩
theorem Pb {α : Type} {xs : List α} {j : Nat} {v : α} (h : xs[j]? = some v) : atI xs (j : Int) = some v := by
 have hj : j < xs.length := (List.getElem?_eq_some_iff.mp h).1
 have e : ixN xs.length (j : Int) = some j := by
  unfold ixN
  rw [if_pos (by omega), if_pos (by omega)]; simp
 unfold atI; rw [e]; exact h
theorem Fd {α : Type} (xs : List α) (v : α) : atI (xs ++ [v]) (-1) = some v := by
 have hl : (xs ++ [v]).length = xs.length + 1 := by simp
 have e : ixN (xs ++ [v]).length (-1) = some xs.length := by
  unfold ixN
  rw [hl, if_neg (by decide), if_pos (by omega)]
  congr 1
  omega
 unfold atI
 rw [e]
 show (xs ++ [v])[xs.length]? = some v
 simp
def Jx (b : Expr) : Prop := ∀ o i, subscripted b false o i = operate [o, i] (getItem o i)
def IxR (X : Cx) (r : R2) : Prop :=
 ∀ (value slice : Expr) (pins : List (Addr × Obj)) (s : Shared) (σ : St) (H : Hp) (x y : V) (v u : Value) (Q : VK), Inv X pins σ H s -> RelV x v -> RelV y u -> r x y H Q ->
  subscripted slice false v u = operate [v, u] (getItem v u) -> wpAny (model X.prog X.w) X.A (subscriptTail value slice v u) (EP X pins σ Q) X.xe s
def MtR (X : Cx) (id : String) (r : V -> List V -> Hp -> VK -> Prop) : Prop :=
 ∀ (pins : List (Addr × Obj)) (s : Shared) (σ : St) (H : Hp) (x : V) (xs : List V) (v : Value) (us : List Value) (Q : VK), Inv X pins σ H s -> RelV x v -> Vals xs us -> r x xs H Q ->
  wpAny (model X.prog X.w) X.A (call (.builtin id) (v :: us)) (EP X pins σ Q) X.xe s
section
variable {X : Cx} {a b : Expr} {ta tb : TE} {pos : Pos}
theorem IxR.or {r r' : R2} (h : IxR X r) (h' : IxR X r') : IxR X (fun x y H Q => r x y H Q \/ r' x y H Q) := by
 intro value slice pins s σ H x y v u Q I rx ry q hs
 rcases q with q | q
 . exact h value slice pins s σ H x y v u Q I rx ry q hs
 . exact h' value slice pins s σ H x y v u Q I rx ry q hs
theorem Na {r : R2} (hr : IxR X r) (ha : PE X a ta) (hb : PE X b tb) (hs : Jx b) : PE X (.Subscript a b pos) (tOp r ta tb) := by
 intro pins s σ H Q I h
 exact Subscript_ (binT ha hb I h fun v u s2 x y H2 I2 rx ry q => hr a b pins s2 σ H2 x y v u Q I2 rx ry q (hs _ _))
def rIxL (K : PySem.W.Frag) : R2 := fun x y H Q => ∃ p xs i v, x = .ref p /\ y = .int i /\ SqL K H p xs /\ atI xs i = some v /\ Q v H
def rIxT (K : PySem.W.Frag) : R2 := fun x y H Q => ∃ p xs i v, x = .ref p /\ y = .int i /\ SqT K H p xs /\ atI xs i = some v /\ Q v H
def rIxS : R2 := fun x y H Q => ∃ z i c, x = .str z /\ y = .int i /\ z.length <= sizeLine /\ atI z.cps.toList i = some c /\ Q (.str ⟨#[c]⟩) H
theorem ox : IxR X (rIxL X.K) := by
 intro value slice pins s σ H x y v u Q I rx ry h hs
 obtain ⟨p, xs, i, z, rfl, rfl, hq, he, q⟩ := h
 cases rx
 obtain ⟨t, rfl⟩ := ry
 obtain ⟨its, r, pl, hz⟩ := I.list hq
 obtain ⟨j, h1, h2, h3, h4, h5⟩ := Vj he
 obtain ⟨w, ew, rw'⟩ := r.get h2
 have hl := r.length
 have hn := oh
 have fin : EP X pins σ Q w s := ⟨z, H, I, rw', q⟩
 by_cases h0 : 0 <= i
 . have hj : i.toNat = j := by
    rw [seqIndex_of h0 h5] at h1
    exact Option.some.inj h1
   exact item_listR pl.isList h0 (by omega) (by rw [hj]; simpa using ew) fin hs
 . have hj : (i + (its.toArray.size : Int)).toNat = j := by
    rw [seqIndex_neg (by omega) h4] at h1
    rw [List.size_toArray, <- hl]
    exact Option.some.inj h1
   exact subscriptTail_builtinR (x := w) pl.isList.typeIs slot_list_getitem.lookup
    (wpAny_getItem_list_neg (Q := fun r s' => r = w /\ EP X pins σ Q r s') pl.isList (by omega) (by rw [List.size_toArray] <;> omega) (by omega) (by rw [hj]; simpa using ew) ⟨rfl, fin⟩) hs
theorem ix_tup : IxR X (rIxT X.K) := by
 intro value slice pins s σ H x y v u Q I rx ry h hs
 obtain ⟨p, xs, i, z, rfl, rfl, hq, he, q⟩ := h
 cases rx
 obtain ⟨t, rfl⟩ := ry
 obtain ⟨its, r, pl, hz⟩ := I.tuple hq
 obtain ⟨j, h1, h2, h3, h4, h5⟩ := Vj he
 obtain ⟨w, ew, rw'⟩ := r.get h2
 have hl := r.length
 have hn := oh
 have fin : EP X pins σ Q w s := ⟨z, H, I, rw', q⟩
 exact subscriptTail_builtinR (x := w) pl.typeIs slot_tuple_getitem.lookup
  (getItem_tuple (j := j) (Q := fun r s' => r = w /\ EP X pins σ Q r s') pl (by omega) (by omega) (by rw [List.size_toArray, <- hl]; exact h1) (by simpa using ew) ⟨rfl, fin⟩) hs
theorem ix_str : IxR X rIxS := by
 intro value slice pins s σ H x y v u Q I rx ry h hs
 obtain ⟨z, i, c, rfl, rfl, hz, he, q⟩ := h
 obtain ⟨t, rfl⟩ := rx
 obtain ⟨t', rfl⟩ := ry
 obtain ⟨j, h1, h2, h3, h4, h5⟩ := Vj he
 have hl : z.cps.toList.length = z.length := by simp [Str.length]
 rw [hl] at h1 h4 h5
 have hn := oh
 exact tail_any (typeIs_str s z t) slot_str_getitem.lookup (getItem_str (c := c) (by
  have e1 : decide (i < -(2 ^ 63 : Int)) = false := decide_eq_false (by omega)
  have e2 : decide (i ≥ 2 ^ 63) = false := decide_eq_false (by omega)
  rw [e1, e2, Bool.or_false]) (by rw [h1]; simpa using h2) ⟨.str ⟨#[c]⟩, H, I.tok _, ⟨_, rfl⟩, q⟩) hs
theorem Uo (its : List Value) (n j : Nat) (u : Value) : Obj.mapSeq (·.setIfInBounds j u) { cls := .type "list", data := .seq its.toArray n } = { cls := .type "list", data := .seq (its.set j u).toArray n } := by
 simp [Obj.mapSeq]
theorem Inv.lst {pins : List (Addr × Obj)} {σ : St} {H : Hp} {s : Shared} {p : Addr} {xs : List V} (I : Inv X pins σ H s) (h : H p = some (.lst xs)) :
 ∃ (its : List Value) (n : Nat), Vals xs its /\ s.heap.get? p = some { cls := .type "list", data := .seq its.toArray n } /\ xs.length <= sizeLine := by
 obtain ⟨z, its, n, r, e⟩ := I.hok p _ h
 exact ⟨its, n, r, e, z⟩
theorem Inv.lstUpd {pins : List (Addr × Obj)} {σ : St} {H : Hp} {s : Shared} {p : Addr} {xs ys : List V} {its its' : List Value} {n n' : Nat} {f : Obj -> Obj} (I : Inv X pins σ H s) (h : H p = some (.lst xs))
 (ho : s.heap.get? p = some { cls := .type "list", data := .seq its.toArray n }) (hf : f { cls := .type "list", data := .seq its.toArray n } = { cls := .type "list", data := .seq its'.toArray n' }) (r : Vals ys its') (hz : ys.length <= sizeLine) (t : Nat) :
 Inv X pins σ (upd H p (.lst ys)) { s with heap := s.heap.update p f, toks := t } := by
 have e : (s.heap.update p f).get? p = some { cls := .type "list", data := .seq its'.toArray n' } := by
  rw [Heap.get?_update_self f ho (by rw [hf] <;> rfl), hf]
 refine I.write (x := p) (e := p) (by rw [h]; trivial) (.inl rfl) (fun b u hb q => (Heap.get?_update_other _ _ (Ne.symm hb)).trans q) ⟨_, e⟩ ?_
 exact ⟨hz, its', n', r, e⟩
def rSetL : V -> V -> V -> Hp -> (Hp -> Prop) -> Prop := fun o i v H Q => ∃ p xs k j, o = .ref p /\ i = .int k /\ H p = some (.lst xs) /\ ixN xs.length k = some j /\ Q (upd H p (.lst (xs.set j v)))
theorem set_list : PSet X rSetL := by
 intro pins s σ H o i v ov iv u Q I ro ri rv h
 obtain ⟨p, xs, k, j, rfl, rfl, hp, hj, q⟩ := h
 cases ro
 obtain ⟨t, rfl⟩ := ri
 obtain ⟨its, n, r, ho, hz⟩ := I.lst hp
 obtain ⟨h1, h2, h3, h4⟩ := Fs hj
 have hl := r.length
 have hn := oh
 have I' : Inv X pins σ (upd H p (.lst (xs.set j v))) { s with heap := s.heap.update p (Obj.mapSeq (·.setIfInBounds j u)) } :=
  I.lstUpd hp ho (Uo its n j u) (r.set rv j) (by rw [List.length_set]; exact hz) s.toks
 by_cases h0 : 0 <= k
 . have hk : k.toNat = j := by
    rw [seqIndex_of h0 h4] at h1
    exact Option.some.inj h1
   exact PySem.W.ki_setAt ho h0 (by omega) (by rw [List.size_toArray, <- hl]; exact h4) (by rw [hk]; exact ⟨_, I', q⟩)
 . have hk : (k + (its.toArray.size : Int)).toNat = j := by
    rw [seqIndex_neg (by omega) h3] at h1
    rw [List.size_toArray, <- hl]
    exact Option.some.inj h1
   exact PySem.W.ki_setBack ho (by omega) (by rw [List.size_toArray, <- hl]; exact h3) (by omega) (by rw [hk]; exact ⟨_, I', q⟩)
theorem rk (lo hi : Option Int) (n : Nat) : (sliceBounds lo hi none n).1 = ((HT.sIx n 0 lo : Nat) : Int) /\ (sliceBounds lo hi none n).2.1 = ((HT.sIx n n hi : Nat) : Int) /\ (sliceBounds lo hi none n).2.2 = 1 := by
 refine ⟨?_, ?_, rfl⟩
 . cases lo with
   | none => simp [sliceBounds, HT.sIx]
   | some i =>
    simp only [sliceBounds, HT.sIx, Option.getD_none, show (1 : Int) > 0 by decide, if_true]
    by_cases h : i < 0
    . simp only [h, if_true] <;> omega
    . simp only [h, if_false] <;> omega
 . cases hi with
   | none => simp [sliceBounds, HT.sIx]
   | some i =>
    simp only [sliceBounds, HT.sIx, Option.getD_none, show (1 : Int) > 0 by decide, if_true]
    by_cases h : i < 0
    . simp only [h, if_true] <;> omega
    . simp only [h, if_false] <;> omega
theorem Qi (its : List Value) (lo hi : Option Int) : slicePick its.toArray lo hi none = ((its.drop (HT.sIx its.length 0 lo)).take (HT.sIx its.length its.length hi - HT.sIx its.length 0 lo)).toArray := by
 obtain ⟨h1, h2, h3⟩ := rk lo hi its.toArray.size
 unfold slicePick
 rw [h1, h2, h3]
 simp only [sliceRange_one, pick_run, List.size_toArray] <;> rfl
def rSlL (K : PySem.W.Frag) : V -> Option Int -> Option Int -> Hp -> VK -> Prop := fun x lo hi H Q => ∃ a xs, x = .ref a /\ SqL K H a xs /\ ∀ p, H p = none -> Q (.ref p) (upd H p (.lst (cutV xs lo hi)))
theorem Yv : SlR X (rSlL X.K) := by
 intro pins s σ H x v vl vu lo hi sl Q I rx hs pl pu h
 obtain ⟨a, xs, rfl, hx, q⟩ := h
 cases rx
 obtain ⟨its, r, ht, hz⟩ := I.list hx
 have hlen := r.length
 refine ⟨"list", _, slot_list_getitem.lookup, ht.isList.typeIs, ?_⟩
 refine wpAny_getItem_list_slice ht.isList hs pl pu .none (by simp) ?_ (by rw [List.size_toArray] <;> omega)
 rw [Qi, <- hlen]
 refine ⟨.ref s.heap.objs.size, _, I.laid (t' := s.toks) (o := .lst (cutV xs lo hi)) (fun b ob q => Heap.get?_push_of_some _ q) (Nat.le_refl _) ?_, rfl, q _ (I.hok.fresh (Nat.le_refl _))⟩
 exact ⟨Nat.le_trans (sh xs lo hi) hz, _, 0, (r.drop (HT.sIx xs.length 0 lo)).take (HT.sIx xs.length xs.length hi - HT.sIx xs.length 0 lo), Heap.get?_push_size _ rfl⟩
def Ob : V -> Bool
 | .non => true
 | .bl _ => true
 | .int _ => true
 | .str _ => true
 | _ => false
def eqV : V -> V -> Bool
 | .non, .non => true
 | .bl a, .bl b => a == b
 | .bl a, .int b => (if a then 1 else 0) == b
 | .int a, .bl b => a == (if b then 1 else 0)
 | .int a, .int b => a == b
 | .str a, .str b => a == b
 | _, _ => false
theorem Ss {A : Around} {s : Shared} {y x : V} {u v : Value} (ry : RelV y u) (rx : RelV x v) (fy : Ob y = true) (fx : Ob x = true) : SeqAt.EqAt A s u v (eqV y x) := by
 cases y with
 | non =>
  cases ry
  cases x with
  | non => cases rx; exact SeqAt.EqAt.same _
  | bl b => cases rx; exact SeqAt.EqAt.none_bool b
  | int b => obtain ⟨t, rfl⟩ := rx; exact SeqAt.EqAt.none_int b t
  | str b => obtain ⟨t, rfl⟩ := rx; exact SeqAt.EqAt.none_str b t
  | _ => exact absurd (show false = true from fx) Bool.false_ne_true
 | bl a =>
  cases ry
  cases x with
  | non => cases rx; exact SeqAt.EqAt.bool_none a
  | bl b => cases rx; exact SeqAt.EqAt.bool_bool a b
  | int b => obtain ⟨t, rfl⟩ := rx; exact SeqAt.EqAt.bool_int a b t
  | str b => obtain ⟨t, rfl⟩ := rx; exact SeqAt.EqAt.bool_str a b t
  | _ => exact absurd (show false = true from fx) Bool.false_ne_true
 | int a =>
  obtain ⟨t', rfl⟩ := ry
  cases x with
  | non => cases rx; exact SeqAt.EqAt.int_none a t'
  | bl b => cases rx; exact SeqAt.EqAt.int_bool a t' b
  | int b => obtain ⟨t, rfl⟩ := rx; exact SeqAt.EqAt.int_int a t' b t
  | str b => obtain ⟨t, rfl⟩ := rx; exact SeqAt.EqAt.int_str a t' b t
  | _ => exact absurd (show false = true from fx) Bool.false_ne_true
 | str a =>
  obtain ⟨t', rfl⟩ := ry
  cases x with
  | non => cases rx; exact SeqAt.EqAt.str_none a t'
  | bl b => cases rx; exact SeqAt.EqAt.str_bool a t' b
  | int b => obtain ⟨t, rfl⟩ := rx; exact SeqAt.EqAt.str_int a t' b t
  | str b => obtain ⟨t, rfl⟩ := rx; exact SeqAt.EqAt.str_str a t' b t
  | _ => exact absurd (show false = true from fx) Bool.false_ne_true
 | _ => exact absurd (show false = true from fy) Bool.false_ne_true
def eqU (x : V) (u : Value) : Bool := match u with
 | .none => eqV .non x
 | .bool b => eqV (.bl b) x
 | .int i _ => eqV (.int i) x
 | .str z _ => eqV (.str z) x
 | _ => false
theorem Fv {x y : V} {u : Value} (r : RelV y u) (f : Ob y = true) : eqU x u = eqV y x := by
 cases y with
 | non => cases r; rfl
 | bl b => cases r; rfl
 | int i => obtain ⟨t, rfl⟩ := r; rfl
 | str z => obtain ⟨t, rfl⟩ := r; rfl
 | _ => exact absurd (show false = true from f) Bool.false_ne_true
theorem zh {x : V} : ∀ {xs : List V} {us : List Value}, Vals xs us -> xs.all Ob = true -> us.any (eqU x) = xs.any fun y => eqV y x
 | _, _, .nil, _ => rfl
 | y :: xs, u :: us, .cons r t, f => by
  rw [List.all_cons, Bool.and_eq_true] at f
  rw [List.any_cons, List.any_cons, Fv r f.1, zh t f.2]
theorem tf {A : Around} {s : Shared} {x : V} {v : Value} (rx : RelV x v) (fx : Ob x = true) : ∀ {xs : List V} {us : List Value}, Vals xs us -> xs.all Ob = true -> ∀ u ∈ us, SeqAt.EqAt A s u v (eqU x u)
 | _, _, .nil, _ => fun u hu => by cases hu
 | y :: xs, u :: us, .cons r t, f => fun u' hu => by
  rw [List.all_cons, Bool.and_eq_true] at f
  rcases List.mem_cons.mp hu with rfl | hu
  . rw [Fv r f.1]; exact Ss r rx f.1 fx
  . exact tf rx fx t f.2 u' hu
def inV (x : V) (xs : List V) : Bool := xs.any fun y => eqV y x
def rIn (K : PySem.W.Frag) (neg : Bool) : R2 := fun x y H Q => ∃ p xs, y = .ref p /\ (SqL K H p xs \/ SqT K H p xs) /\ Ob x = true /\ xs.all Ob = true /\ Q (.bl (if neg then !inV x xs else inV x xs)) H
theorem Hr : OpR X (compareOp .In) (rIn X.K false) := by
 intro pins s σ H x y v u Q I rx ry h
 obtain ⟨p, xs, rfl, hq, fx, fs, q⟩ := h
 cases ry
 rcases hq with hq | hq
 . obtain ⟨its, r, pl, hz⟩ := I.list hq
   refine SeqAt.in_listAt (eqU x) pl.isList (fun w hw => tf rx fx r fs w (by simpa using hw)) ⟨.bl _, H, I, rfl, ?_⟩
   rw [show its.toArray.any (eqU x) = its.any (eqU x) by simp, zh r fs]
   exact q
 . obtain ⟨its, r, pl, hz⟩ := I.tuple hq
   refine SeqAt.in_tupleAt (eqU x) pl (fun w hw => tf rx fx r fs w (by simpa using hw)) ⟨.bl _, H, I, rfl, ?_⟩
   rw [show its.toArray.any (eqU x) = its.any (eqU x) by simp, zh r fs]
   exact q
theorem Ak : OpR X (compareOp .NotIn) (rIn X.K true) := by
 intro pins s σ H x y v u Q I rx ry h
 obtain ⟨p, xs, rfl, hq, fx, fs, q⟩ := h
 cases ry
 rcases hq with hq | hq
 . obtain ⟨its, r, pl, hz⟩ := I.list hq
   refine SeqAt.notIn_listAt (eqU x) pl.isList (fun w hw => tf rx fx r fs w (by simpa using hw)) ⟨.bl _, H, I, rfl, ?_⟩
   rw [show its.toArray.any (eqU x) = its.any (eqU x) by simp, zh r fs]
   exact q
 . obtain ⟨its, r, pl, hz⟩ := I.tuple hq
   refine SeqAt.notIn_tupleAt (eqU x) pl (fun w hw => tf rx fx r fs w (by simpa using hw)) ⟨.bl _, H, I, rfl, ?_⟩
   rw [show its.toArray.any (eqU x) = its.any (eqU x) by simp, zh r fs]
   exact q
theorem Rk : Wc X (.builtin "len") (fun xs H Q => ∃ p ys, xs = [.ref p] /\ (SqL X.K H p ys \/ SqT X.K H p ys) /\ Q (.int ys.length) H) := by
 intro pins s σ H xs us Q I r h
 obtain ⟨p, ys, rfl, hq, q⟩ := h
 obtain ⟨u, rfl, rx⟩ := vals1 r
 cases rx
 have hn := oh
 rcases hq with hq | hq
 . obtain ⟨its, r', pl, hz⟩ := I.list hq
   have hlen := r'.length
   exact Calls.call_len_list pl.isList (by simp only [List.size_toArray] <;> omega) ⟨.int ys.length, H, I.tok _, ⟨s.toks + 1, by rw [List.size_toArray, hlen]⟩, q⟩
 . obtain ⟨its, r', pl, hz⟩ := I.tuple hq
   have hlen := r'.length
   exact len_tuple pl (by simp only [List.size_toArray] <;> omega) ⟨.int ys.length, H, I.tok _, ⟨s.toks + 1, by rw [List.size_toArray, hlen]⟩, q⟩
theorem Qk : Wc X (.type "list") (fun xs H Q => ∃ p ys, xs = [.ref p] /\ (SqL X.K H p ys \/ SqT X.K H p ys) /\ ∀ l, H l = none -> Q (.ref l) (upd H l (.lst ys))) := by
 intro pins s σ H xs us Q I r h
 obtain ⟨p, ys, rfl, hq, q⟩ := h
 obtain ⟨u, rfl, rx⟩ := vals1 r
 cases rx
 have fin : ∀ (its : List Value), Vals ys its -> ys.length <= sizeLine -> ∀ (h' : Heap) (c' : Nat), (∀ b o', s.heap.get? b = some o' -> h'.get? b = some o') ->
  h'.get? s.heap.objs.size = some { cls := .type "list", dict := none, data := .seq its.toArray c', slots := #[] } -> EP X pins σ Q (.ref s.heap.objs.size) { s with heap := h' } := fun its r' hz h' c' kp e =>
  ⟨.ref s.heap.objs.size, _, I.laid (t' := s.toks) kp (Nat.le_refl _) (show Hc X.prog X.w _ h' _ (.lst ys) from ⟨hz, its, c', r', e⟩), rfl, q _ (I.hok.fresh (Nat.le_refl _))⟩
 rcases hq with hq | hq
 . obtain ⟨its, r', pl, hz⟩ := I.list hq
   have hlen := r'.length
   obtain ⟨o, ho, hc, n, hd⟩ := pl.isList
   exact call_list_seq p (.inl rfl) ho hc hd (fun h' c' kp e => fin its r' hz h' c' kp e) (by simp only [List.size_toArray] <;> omega)
 . obtain ⟨its, r', pl, hz⟩ := I.tuple hq
   have hlen := r'.length
   obtain ⟨o, ho, hc, n, hd⟩ := pl
   exact call_list_seq p (.inr rfl) ho hc hd (fun h' c' kp e => fin its r' hz h' c' kp e) (by simp only [List.size_toArray] <;> omega)
theorem Sj : Wc X (.type "tuple") (fun xs H Q => ∃ p ys, xs = [.ref p] /\ ((SqL X.K H p ys /\ ∀ l, H l = none -> Q (.ref l) (upd H l (.tup ys))) \/ (SqT X.K H p ys /\ Q (.ref p) H))) := by
 intro pins s σ H xs us Q I r h
 obtain ⟨p, ys, rfl, h⟩ := h
 obtain ⟨u, rfl, rx⟩ := vals1 r
 cases rx
 rcases h with ⟨hq, q⟩ | ⟨hq, q⟩
 . obtain ⟨its, r', pl, hz⟩ := I.list hq
   have hlen := r'.length
   refine call_tuple_list pl.isList (fun h' kp => ?_) (by simp only [List.size_toArray] <;> omega)
   have I1 : Inv X pins σ H { s with heap := h' } := I.kept (t' := s.toks) kp
   have I2 : Inv X pins σ (upd H h'.objs.size (.tup ys)) { s with heap := h'.push { cls := .type "tuple", data := .seq its.toArray } } :=
    I1.laid (t' := s.toks) (fun b o e => Heap.get?_push_of_some _ e) (Nat.le_refl _) (show Hc X.prog X.w _ _ _ (.tup ys) from ⟨hz, its, r', IsTup.new _ _⟩)
   exact ⟨.ref h'.objs.size, _, I2, rfl, q _ (I1.hok.fresh (Nat.le_refl _))⟩
 . obtain ⟨its, r', pl, hz⟩ := I.tuple hq
   exact call_tuple_same pl ⟨.ref p, H, I, rfl, q⟩
def tyV (K : PySem.W.Frag) (T : String) (x : V) (H : Hp) : Prop := match x with
 | .str _ => T = "str"
 | .int _ => T = "int"
 | .ref p => (T = "list" /\ ∃ xs, SqL K H p xs) \/ (T = "tuple" /\ ∃ o, K.lookup p = some o /\ o.cls = .type "tuple" /\ o.dict = none) \/
  (T = "dict" /\ ((∃ kvs, H p = some (.dK kvs)) \/ ∃ kvs, H p = some (.dT kvs))) \/ (T = "set" /\ ∃ S n, H p = some (.set S n))
 | _ => False
theorem tyV_is {pins : List (Addr × Obj)} {σ : St} {H : Hp} {s : Shared} {T : String} {x : V} {v : Value} (I : Inv X pins σ H s) (r : RelV x v) (ty : tyV X.K T x H) :
 s.TypeIs v T /\ ∀ a, v = .ref a -> ∃ ob, s.heap.get? a = some ob /\ ob.dict = none := by
 cases x with
 | str z =>
  obtain ⟨t, rfl⟩ := r
  cases (show T = "str" from ty)
  exact ⟨typeIs_str s z t, fun _ e => nomatch e⟩
 | int i =>
  obtain ⟨t, rfl⟩ := r
  cases (show T = "int" from ty)
  exact ⟨typeIs_int s i t, fun _ e => nomatch e⟩
 | ref p =>
  cases r
  rcases ty with ⟨rfl, xs, hq⟩ | ⟨rfl, o, hk, hc, hd⟩ | ⟨rfl, hk⟩ | ⟨rfl, S, n, hk⟩
  . obtain ⟨its, _, pl, _⟩ := I.list hq
    refine ⟨pl.isList.typeIs, fun a e => ?_⟩
    cases e
    obtain ⟨o, n, e, c, hd, _⟩ := pl
    exact ⟨o, e, hd⟩
  . refine ⟨⟨o, I.kIn p o hk, hc⟩, fun a e => ?_⟩
    cases e
    exact ⟨o, I.kIn _ o hk, hd⟩
  . have z : ∃ o, s.heap.get? p = some o /\ o.ExactDict := by
     rcases hk with ⟨kvs, hk⟩ | ⟨kvs, hk⟩
     . obtain ⟨_, _, _, _, o, _, _, e, ex, _⟩ := I.hok p _ hk
       exact ⟨o, e, ex⟩
     . obtain ⟨_, _, _, _, o, _, _, e, ex, _⟩ := I.hok p _ hk
       exact ⟨o, e, ex⟩
    obtain ⟨o, e, ex⟩ := z
    refine ⟨⟨o, e, ex.1⟩, fun a e2 => ?_⟩
    cases e2
    exact ⟨o, e, ex.2.1⟩
  . obtain ⟨o, _, _, _, e, ex, _⟩ := I.hok p _ hk
    refine ⟨⟨o, e, ex.1⟩, fun a e2 => ?_⟩
    cases e2
    exact ⟨o, e, ex.2.1⟩
 | _ => exact False.elim ty
def tBM (K : PySem.W.Frag) (T : String) (r : V -> List V -> Hp -> VK -> Prop) (to : TE) (t : TA) : TE := fun σ H Q => to σ H fun x H1 => tyV K T x H1 /\ t σ H1 fun xs H2 => r x xs H2 Q
variable {o e : Expr} {es : List Expr} {to : TE} {t : TA} {name : Str} {apos cpos : Pos} {T id : String} {r : V -> List V -> Hp -> VK -> Prop}
theorem md (pa : PlainAttrs T) (slot : Slot T name id) (hty : typeOf (.builtin id) = pure (.type "method_descriptor")) (hm : MtR X id r) (ho : PE X o to) (ha : PA X (e :: es) t)
 (hbase : attributeBase o name X.env (eval o X.env) = eval o X.env := by first | rfl | with_unfolding_all rfl)
 (hfew : ((backTo cpos (starEach (e :: es) X.env)).all (fun x => !x.1) && (backToKw cpos (keywordEach [] X.env)).all (fun x => x.1.isSome)
   && decide ((e :: es).length + ([] : List Keyword).length + (if ([] : List Keyword).isEmpty then 0 else 1) < 30)) = true := by first | rfl | with_unfolding_all rfl)
 (hline : (apos.endLine == cpos.line) = true := by first | rfl | with_unfolding_all rfl) (hs : starEach (e :: es) X.env = (false, eval e X.env) :: starEach es X.env := by first | rfl | with_unfolding_all rfl) (hplain : (backTo cpos (starEach es X.env)).any (·.1) = false := by first | rfl | with_unfolding_all rfl) :
 PE X (.Call (.Attribute o name apos) (e :: es) [] cpos) (tBM X.K T r to t) := by
 intro pins s σ H Q I h
 refine wpAny_Call_method_late hbase hfew hline rfl (thn (ho pins s σ H _ I h) fun v s1 ⟨x, H1, I1, r1, ty, q1⟩ => ?_)
 obtain ⟨h1, h2⟩ := tyV_is I1 r1 ty
 refine ⟨T, id, pa, slot, hty, h1, h2, ?_⟩
 have hA := ha cpos pins s1 σ H1 _ I1 q1
 rw [hs] at hA ⊢
 refine Calls.callWith_builtin (by show (false || (backTo cpos (starEach es X.env)).any (·.1)) = false; rw [hplain] <;> rfl) (Calls.evalArgs_plain ?_)
 exact thn hA fun us s2 ⟨vs, H2, I2, r2, q2⟩ => hm pins s2 σ H2 x vs v us Q I2 r1 r2 q2
end
end L2
namespace L2
open PySem PySem.Spec PyProof.Rows
def MtM (X : Cx) (id : String) (r : V -> List V -> Hp -> VK -> Prop) : Prop :=
 ∀ (pins : List (Addr × Obj)) (s : Shared) (σ : St) (H : Hp) (x : V) (xs : List V) (v : Value) (us : List Value) (Q : VK), Inv X pins σ H s -> RelV x v -> Vals xs us -> r x xs H Q ->
  wpAny (model X.prog X.w) X.A (call (.builtin id) (v :: us)) (EP X pins σ Q) X.xe s
theorem Vals.one : ∀ {x : V} {us : List Value}, Vals [x] us -> ∃ u, us = [u] /\ RelV x u
 | _, _, .cons r .nil => ⟨_, rfl, r⟩
theorem Vals.reverse {xs : List V} {us : List Value} (h : Vals xs us) : Vals xs.reverse us.reverse := by
 induction h with
 | nil => exact .nil
 | cons r t ih => rw [List.reverse_cons, List.reverse_cons]; exact Vals.append ih (.cons r .nil)
theorem Vals.rep {xs : List V} {us : List Value} (h : Vals xs us) : ∀ k : Nat, Vals (List.replicate k xs).flatten (List.replicate k us).flatten
 | 0 => .nil
 | k + 1 => by
  rw [List.replicate_succ, List.replicate_succ, List.flatten_cons, List.flatten_cons]
  exact Vals.append h (Vals.rep h k)
theorem foldl_rep (its : List Value) : ∀ (k : Nat) (acc : List Value),
 List.foldl (fun x1 x2 => x1 ++ x2) acc.toArray (List.replicate k its.toArray) = (acc ++ (List.replicate k its).flatten).toArray
 | 0, acc => by simp
 | k + 1, acc => by
  have e : acc.toArray ++ its.toArray = (acc ++ its).toArray := by simp
  have e2 : (acc ++ its) ++ (List.replicate k its).flatten = acc ++ (List.replicate (k + 1) its).flatten := by
   rw [List.replicate_succ, List.flatten_cons, List.append_assoc]
  rw [<- e2, <- foldl_rep its k (acc ++ its), <- e, List.replicate_succ, List.foldl_cons]
section
variable {X : Cx} {pins : List (Addr × Obj)} {σ : St} {H : Hp} {s : Shared} {l b : Addr} {xs ys zs : List V}
theorem Inv.lset {its its' : List Value} {n : Nat} {f : Array Value -> Array Value} {t' : Nat} (I : Inv X pins σ H s) (hH : H l = some (.lst xs))
 (e : s.heap.get? l = some { cls := .type "list", data := .seq its.toArray n }) (hf : f its.toArray = its'.toArray) (hv : Vals ys its') (hz : ys.length <= sizeLine) :
 Inv X pins σ (upd H l (.lst ys)) { s with heap := s.heap.update l (Obj.mapSeq f), toks := t' } := by
 have q := PySem.IsL.update e f
 rw [hf] at q
 refine I.write (x := l) (e := l) (by rw [hH]; exact trivial) (.inl rfl) (fun b' u hb hu => (Heap.get?_update_other s.heap (Obj.mapSeq f) (Ne.symm hb)).trans hu) ⟨_, q⟩ ?_
 exact ⟨hz, its', _, hv, q⟩
theorem Inv.lnew {its : List Value} {t' : Nat} (I : Inv X pins σ H s) (hv : Vals ys its) (hz : ys.length <= sizeLine) :
 Inv X pins σ (upd H s.heap.objs.size (.lst ys)) { s with heap := s.heap.push { cls := .type "list", data := .seq its.toArray }, toks := t' } :=
 I.laid (fun _ _ q => Heap.get?_push_of_some _ q) (Nat.le_refl _) ⟨hz, its, 0, hv, Heap.get?_push_size _ rfl⟩
theorem Inv.fresh (I : Inv X pins σ H s) : H s.heap.objs.size = none := I.hok.fresh (Nat.le_refl _)
theorem Inv.lstM (I : Inv X pins σ H s) (hH : H l = some (.lst xs)) : xs.length <= sizeLine /\ ∃ (its : List Value) (n : Nat), Vals xs its /\ xs.length = its.length /\ s.heap.get? l = some { cls := .type "list", data := .seq its.toArray n } := by
 obtain ⟨z, its, n, r, e⟩ := I.hok l _ hH
 exact ⟨z, its, n, r, r.length, e⟩
theorem yu {n : Nat} (h : n <= sizeLine) : Builtin.List.listTooLong n = false := by
 unfold Builtin.List.listTooLong
 exact decide_eq_false (by omega)
end
section
variable {X : Cx}
def jr : V -> List V -> Hp -> VK -> Prop := fun x vs H Q => ∃ l xs y, x = .ref l /\ vs = [y] /\ H l = some (.lst xs) /\ xs.length < sizeLine /\ Q .non (upd H l (.lst (xs ++ [y])))
theorem cb : MtM X "list.append" jr := by
 intro pins s σ H x vs v us Q I rx rv h
 obtain ⟨l, xs, y, rfl, rfl, hH, hz, q⟩ := h
 cases rx
 obtain ⟨u, rfl, ru⟩ := rv.one
 obtain ⟨z, its, n, r, hl, e⟩ := I.lstM hH
 refine call_meets F.slot_list_append ⟨_, e, rfl⟩ F.entry_list_append (F.args_list_append_2 _ _) (PySem.list_append l its.toArray n u (by rw [List.size_toArray]; omega)) ⟨e, ?_⟩
 refine ⟨.non, _, I.lset (its' := its ++ [u]) hH e (by simp) (r.append (.cons ru .nil)) ?_, rfl, q⟩
 rw [List.length_append, List.length_singleton]
 omega
def rCat : R2 := fun x y H Q => ∃ l b xs zs, x = .ref l /\ y = .ref b /\ H l = some (.lst xs) /\ H b = some (.lst zs) /\ xs.length + zs.length <= sizeLine /\ ∀ p, H p = none -> Q (.ref p) (upd H p (.lst (xs ++ zs)))
theorem op_cat : OpR X (binaryOp .Add) rCat := by
 intro pins s σ H x y v u Q I rx ry h
 obtain ⟨l, b, xs, zs, rfl, rfl, hH, hB, hz, q⟩ := h
 cases rx
 cases ry
 obtain ⟨z, its, n, r, hl, e⟩ := I.lstM hH
 obtain ⟨z2, its2, n2, r2, hl2, e2⟩ := I.lstM hB
 refine PySem.P.add_list e e2 ?_ (by rw [List.size_toArray, List.size_toArray]; omega)
 have ea : its.toArray ++ its2.toArray = (its ++ its2).toArray := by simp
 rw [ea]
 exact ⟨.ref _, _, I.lnew (t' := s.toks) (r.append r2) (by rw [List.length_append]; omega), rfl, q _ I.fresh⟩
def rRep : R2 := fun x y H Q => ∃ l k xs, x = .ref l /\ y = .int k /\ H l = some (.lst xs) /\ -(2 ^ 63) <= k /\ k < 2 ^ 63 /\ xs.length * k.toNat <= sizeLine /\
 ∀ p, H p = none -> Q (.ref p) (upd H p (.lst (List.replicate k.toNat xs).flatten))
theorem len_rep {α : Type} (xs : List α) (k : Nat) : (List.replicate k xs).flatten.length = k * xs.length := by
 induction k with
 | zero => simp
 | succ k ih => rw [List.replicate_succ, List.flatten_cons, List.length_append, ih, Nat.succ_mul, Nat.add_comm]
theorem op_rep : OpR X (binaryOp .Mult) rRep := by
 intro pins s σ H x y v u Q I rx ry h
 obtain ⟨l, k, xs, rfl, rfl, hH, h1, h2, hz, q⟩ := h
 cases rx
 obtain ⟨t, rfl⟩ := ry
 obtain ⟨z, its, n, r, hl, e⟩ := I.lstM hH
 have hlen : its.toArray.size * k.toNat <= sizeLine := by rw [List.size_toArray, <- hl]; exact hz
 have hcap : ¬ its.toArray.size * k.toNat > (2 ^ 63 - 1) / 8 := by
  have : (sizeLine : Nat) <= (2 ^ 63 - 1) / 8 := by decide
  omega
 have hfit : ¬ (!Builtin.List.listFitsIndex k) = true := by
  rw [fitsIndex_both h1 h2]
  exact Bool.false_ne_true
 have hlong : ¬ Builtin.List.listTooLong (its.toArray.size * k.toNat) = true := by
  rw [yu hlen]
  exact Bool.false_ne_true
 have hnew : List.foldl (fun x1 x2 => x1 ++ x2) #[] (List.replicate (if its.toArray.isEmpty = true then 0 else k.toNat) its.toArray) = (List.replicate k.toNat its).flatten.toArray := by
  have f0 : ∀ m : Nat, List.foldl (fun x1 x2 => x1 ++ x2) #[] (List.replicate m its.toArray) = (List.replicate m its).flatten.toArray := fun m => by
   have := foldl_rep its m []
   rw [List.nil_append] at this
   exact this
  rw [f0]
  cases its with
  | nil => simp
  | cons a r' => rw [if_neg (by simp)]
 refine wpAny_binaryOp_repeat_ref (T := "list") (U := "int") (by decide) ⟨_, e, rfl⟩ (fun s' => typeIs_int s' k t) noFill_list_mul F.fills_int_mul F.slot_int_rmul repeat_list F.slot_int_index.lookup
  (call_meets F.slot_int_rmul (typeIs_int s k t) F.entry_int_rmul (F.args_int_rmul_2 _ _) (int___rmul___int_list k t l its.toArray n)
    ⟨e, rfl, ⟨_, e, rfl⟩, call_meets F.slot_list_mul ⟨_, e, rfl⟩ F.entry_list_mul (F.args_list_mul_2 _ _) (AutoListH.list___mul___list_int_3 l its.toArray n k t hfit hcap hlong) ⟨e, ?_⟩⟩)
 rw [hnew]
 exact ⟨.ref _, _, I.lnew (t' := s.toks) (r.rep k.toNat) (by rw [len_rep, Nat.mul_comm]; exact hz), rfl, q _ I.fresh⟩
end
end L2
namespace Att
open PySem PySem.W PySem.Calls PyProof.Rows
theorem ph {P : Params} {h : Heap} : ∀ (ns : List Int) (vs : List Value), WellAll P h vs (ns.map WData.int) -> IntsAre vs ns := by
 intro ns
 induction ns with
 | nil =>
  intro vs w
  rw [List.map_nil] at w
  cases w
  exact .nil
 | cons n ns ih =>
  intro vs w
  rw [List.map_cons] at w
  cases w with
  | cons a b =>
   cases a
   exact .cons _ _ (ih _ b)
theorem Iq {l : OpenLaw} {n : Nat} (hn : l.most = some n) {P : Params} {h : Heap} {args : List WData} {vals : List Value}
 (hpre : l.row.toRowW.claim.pre args = true) (hwl : WellAll P h vals args) :
 ∃ a vs ns, vals = [Value.ref a] /\ args = [WData.list (ns.map WData.int)] /\ h.get? a = some { cls := .type "list", data := .seq vs.toArray } /\ IntsAre vs ns /\ ns.length <= n := by
 have hsh : WShape.hasAll [] args [.list .int] = true := (pre_splitW hpre).1
 have hc : l.pre.holds [] { args := args } = true := (pre_splitW hpre).2
 obtain ⟨d, r, rfl, h1, h2⟩ := hasAllW_cons hsh
 obtain rfl := hasAllW_nil h2
 obtain ⟨xs, rfl, h3⟩ := hasW_list h1
 obtain ⟨ns, rfl⟩ := items_int h3
 have hlen : ns.length <= n := by
  unfold OpenLaw.pre at hc
  have h4 : (WTm.not (.lt (.lit (.int (n : Int))) (.len (.arg 0)))).holds [] { args := [.list (ns.map .int)] } = true := by
   have h4 := (holds_andW hc).1
   rw [hn] at h4
   exact h4
  have h5 := condW_of h4 (w_not (w_lt w_lit (w_len_list (w_arg rfl))))
  rw [List.length_map] at h5
  refine Nat.le_of_not_lt fun q => ?_
  have q' : (n : Int) < ((ns.length : Nat) : Int) := by omega
  first
   | (rw [decide_eq_true q'] at h5; exact absurd h5 (by decide))
   | (simp at h5; omega)
 cases hwl with
 | cons w1 w2 =>
  cases w2
  cases w1 with
  | list ho hall => exact ⟨_, _, ns, rfl, rfl, ho, ph ns _ hall, hlen⟩
theorem sr (l : OpenLaw) (args : List WData) : l.row.toRowW.claim.post args (.bool true) args = true :=
 postW_of (r := l.row.toRowW) (X := (true == true))
  (show WShape.has [] (.bool true) .bool = true by first | rfl | decide | simp [WShape.has, WShape.arms, WShape.armsAll])
  (show (WTm.eq .res (.lit (.bool true))).value [] { args := args, res := some (.bool true), after := args } = some (.bool (true == true)) from w_eq_bool (w_res rfl) w_lit) rfl
theorem Im {l : OpenLaw} {n : Nat} {q : Program} {loose : List Str} {XP : (Str -> Option Value) -> Heap -> Prop} {YP : World -> Heap -> Prop} {d : DefRec}
 (hn : l.most = some n) (hdf : d.params.defaults = [])
 (call : ∀ (w : World) (s₀ s₁ : Shared) (mg mb : Str -> Option Value) (fa : Addr) (o : Obj) (pm cd doc : Value) (a : Addr) (vs : List Value) (ns : List Int),
   Ground q loose [] XP w s₀ mg mb s₁.heap -> YP w s₁.heap ->
   s₁.heap.get? fa = some o -> o.data = .func (docDef d.name d.params d.body d.scope pm cd doc) -> s₁.heap.CodeRec cd d.name -> mg d.name = some (.ref fa) ->
   s₁.heap.get? a = some { cls := .type "list", data := .seq vs.toArray } -> IntsAre vs ns -> ns.length <= n -> s₁.gens = #[] ->
   codeAny (model l.prog w) callerA (.call (.ref fa) ⟨[.ref a], []⟩) (fun r s' => r = .ok (.ret (.bool true)) /\ OldK s₁.heap s'.heap /\ s'.os = s₁.os /\ AllBare s'.gens) s₁) :
 WalkO q loose XP YP l.row.toRowW d [] (fun f vs => PySem.call f vs) := by
 intro w s₀ s₁ mg mb G Y fa o pm cd doc dV kV ho hd hcd hD hmg hg args vals as hpre hlay hrd hwl hlo
 obtain rfl : dV = .none := Dflts.none hD hdf
 obtain rfl : kV = .none := Dflts.noKw hD
 obtain ⟨a, vs, ns, rfl, rfl, hobj, hints, hlen⟩ := Iq hn hpre hwl
 refine enter_call (codeAny_mono (call w s₀ s₁ mg mb fa o pm cd doc a vs ns G Y ho (fd_plain hd) hcd hmg hobj hints hlen hg) fun r s' hq => ?_)
 obtain ⟨rfl, h2, h3, h4⟩ := hq
 exact ⟨.inl ⟨.bool true, .bool true, [], rfl, fun _ => rfl, .bool true, sr l _, fun _ => ⟨List.Pairwise.nil, fun _ hm => (nomatch hm)⟩⟩, h2, h3, h4⟩
section
variable {prog : Program} {w : World} {A : Around} {E : Value -> Shared -> Prop} {s : Shared} {K : Frag}
def Wr (h : Heap) : Heap := { h with objs := #[] }
theorem Qo (h : Heap) (b : Addr) : (Wr h).get? b = none := by
 cases e : (Wr h).get? b with
 | none => rfl
 | some o => exact absurd (Heap.lt_size e) (Nat.not_lt_zero _)
def ledger (h : Heap) (L d : Addr) : List (Addr × Obj) := (List.range h.objs.size).filterMap fun a => if a = L \/ a = d then none else (h.get? a).map fun o => (a, o)
theorem Ls {h : Heap} {L : Addr} {m : Str -> Option Value} (n : h.Ns L m) : Fr (Wr h) L h m :=
 ⟨n, fun b o e => (by rw [Qo] at e; cases e), Nat.zero_le _⟩
end
end Att
namespace L2
open PySem PySem.Spec PyProof.Rows
theorem ck : ∀ {vs : List Value} {ns : List Int}, IntsAre vs ns -> Vals (ns.map V.int) vs
 | _, _, .nil => .nil
 | _, _, .cons n t h => .cons ⟨t, rfl⟩ (ck h)
def Only (H : Hp) : Prop := ∀ b, H b = none \/ ∃ o xs, H b = some (.frz o (.lst xs))
theorem Au {P : Program} {w : World} {K : PySem.W.Frag} {mg mb : Str -> Option Value} {CX : CXT} {k : Nat} {fa a : Addr} {fd : FuncData} {x : Str} {sp : Sp} {s₁ : Shared} {vs : List Value} {ns : List Int}
 (KX : K.In s₁.heap) (hns : s₁.heap.Ns mainGlobals mg) (hb : s₁.heap.Ns builtinsNs mb) (hbb : ∀ x : Str, x ≠ "__name__" -> mb x = bootBuiltins x) (hlim : s₁.heap.NoLimit) (hg : s₁.gens = #[])
 (ha : s₁.heap.get? a = some { cls := .type "list", data := .seq vs.toArray }) (hi : IntsAre vs ns) (hl : ns.length <= sizeLine) (hr : Room k callerA)
 (F : ∀ base : Heap, K.In base -> base.Ns mainGlobals mg -> FnOk P w K mg base CX k fa fd [x] sp) (hbind : ∀ (s : Shared) (u : Value), BindsTo s fd ⟨[u], []⟩ [(x, u)])
 (hsp : ∀ H : Hp, Only H -> SqL K H a (ns.map V.int) -> sp [.ref a] H (fun v _ => v = .bl true) fun _ _ _ => False)
 (hCX : ∀ H e s', CX [] H s₁ (fun _ _ _ => False) e s' -> False) :
 codeAny (model P w) callerA (.call (.ref fa) ⟨[.ref a], []⟩) (fun r s' => r = .ok (.ret (.bool true)) /\ OldK s₁.heap s'.heap /\ s'.os = s₁.os /\ AllBare s'.gens) s₁ := by
 have rv := ck hi
 have lenV := hi.length
 have core : ∀ H : Hp, Only H -> SqL K H a (ns.map V.int) -> HOk P w H s₁.heap -> (∀ b, H b ≠ none -> b = a) -> (H a ≠ none -> K.lookup a = none) ->
  codeAny (model P w) callerA (.call (.ref fa) ⟨[.ref a], []⟩) (fun r s' => r = .ok (.ret (.bool true)) /\ OldK s₁.heap s'.heap /\ s'.os = s₁.os /\ AllBare s'.gens) s₁ := by
  intro H hO hS hok hA hK
  have base_of : ∀ {b : Addr} {o : Obj}, s₁.heap.get? b = some o -> H b = none -> (hidT s₁.heap H).get? b = some o := fun e n => Cu e n
  have noA : ∀ {b : Addr} {o : Obj} {es : Array DictEntry} {ep : Nat}, s₁.heap.get? b = some o -> o.data = .dict es ep -> H b = none := fun {b o es ep} e d => by
   cases q : H b with
   | none => rfl
   | some u =>
    have e' : b = a := hA b (by rw [q]; simp)
    subst e'
    rw [ha] at e; cases e
    have d' : Data.seq vs.toArray _ = Data.dict es ep := d
    cases d'
  have nsK : ∀ {b : Addr} {m : Str -> Option Value}, s₁.heap.Ns b m -> (hidT s₁.heap H).Ns b m := fun {b m} ⟨o, es, ep, e, d, r⟩ => ⟨o, es, ep, base_of e (noA e d), d, r⟩
  have hKb : K.In (hidT s₁.heap H) := fun b o e => base_of (KX b o e) (by
   cases q : H b with
   | none => rfl
   | some u =>
    have e' : b = a := hA b (by rw [q]; simp)
    subst e'
    rw [hK (by rw [q]; simp)] at e; cases e)
  have hM : Mod K mg (hidT s₁.heap H) := ⟨hKb, nsK hns, ⟨mb, nsK hb, hbb⟩, let ⟨mc, h1, h2⟩ := hlim; ⟨mc, nsK h1, h2⟩⟩
  have e0 : Env0 P w K mg (hidT s₁.heap H) callerA [] s₁ H := ⟨rfl, hM, fun b o e => bx e, Nat.le_of_eq (Js _ _), trivial, fun b hb => absurd (show b ∈ ([] : List Addr) from hb) (by simp), hok, .of_eq hg⟩
  refine codeAny_mono ((F _ hKb (nsK hns)).run callerA [] s₁ H ⟨[.ref a], []⟩ [.ref a] [.ref a] _ _ hr e0 (hbind s₁ (.ref a)) (.cons rfl .nil) (hsp H hO hS)) fun r s' h => ?_
  cases r with
  | error e => exact (hCX H e s' h).elim
  | ok fl =>
   cases fl with
   | next => exact False.elim h
   | brk => exact False.elim h
   | cont => exact False.elim h
   | ret u =>
    obtain ⟨v, H', os, bare, un, hok', r', q⟩ := h
    have q' : v = .bl true := q
    subst q'
    obtain rfl : u = Value.bool true := r'
    refine ⟨rfl, OldK.of_keep fun b o e => ?_, os, bare⟩
    cases q : H b with
    | none => exact un.keep b o e q (by intro z; exact absurd (show b ∈ ([] : List Addr) from z) (by simp)) (by simp)
    | some u =>
     rcases hO b with z | ⟨ob, xs, z⟩
     . rw [q] at z; cases z
     . have z2 := un.frzs b ob _ z
       obtain ⟨e1, _⟩ := hok b _ z
       obtain ⟨e2, _⟩ := hok' b _ z2
       rw [e] at e1; cases e1
       exact e2
 cases hk : K.lookup a with
 | some o =>
  have e := KX a o hk
  rw [ha] at e
  cases e
  refine core (fun _ => none) (fun _ => .inl rfl) (.inr ⟨_, vs.toArray, _, hk, rfl, rfl, rfl, by rw [List.size_toArray, lenV]; exact hl, by simpa using rv⟩) (fun b u z => by have z' : (none : Option HO) = some u := z; cases z') (fun b z => absurd rfl z) fun z => absurd rfl z
 | none =>
  refine core (fun b => if b = a then some (.frz { cls := .type "list", data := .seq vs.toArray } (.lst (ns.map V.int))) else none) (fun b => ?_) (.inl (.inr ⟨{ cls := .type "list", data := .seq vs.toArray }, if_pos rfl⟩)) (fun b u z => ?_) (fun b z => ?_) fun _ => hk
  . by_cases hb : b = a
    . exact .inr ⟨_, _, if_pos hb⟩
    . exact .inl (if_neg hb)
  . by_cases hb : b = a
    . have z' := (if_pos hb).symm.trans z
      cases z'
      subst hb
      exact ⟨ha, by rw [List.length_map]; exact hl, vs, _, rv, ha⟩
    . have z' := (if_neg hb).symm.trans z
      cases z'
  . by_cases hb : b = a
    . exact hb
    . exact absurd (if_neg hb) z
end L2
namespace L2
open PySem PySem.Spec PyProof.Rows
abbrev KOf {K : PySem.W.Frag} {h : Heap} (_ : K.In h) : PySem.W.Frag := K
theorem Nv {l : PySem.W.OpenLaw} {n k : Nat} {q : Program} {loose : List Str} {XP : (Str -> Option Value) -> Heap -> Prop} {YP : World -> Heap -> Prop} {d : DefRec} {K : Params -> PySem.W.Frag} {CX : World -> CXT} {sp : World -> Sp} {x : Str}
 (hn : l.most = some n) (hn2 : n <= sizeLine) (hdf : d.params.defaults = []) (hr : Room k callerA)
 (hY : ∀ (w : World) (h : Heap), YP w h -> (K w.params).In h)
 (F : ∀ (w : World) (mg : Str -> Option Value) (fa : Addr) (h : Heap), (K w.params).In h -> h.Ns mainGlobals mg -> mg d.name = some (.ref fa) ->
   ∃ fd : FuncData, (∀ (s : Shared) (u : Value), BindsTo s fd ⟨[u], []⟩ [(x, u)]) /\
    ∀ base : Heap, (K w.params).In base -> base.Ns mainGlobals mg -> FnOk l.prog w (K w.params) mg base (CX w) k fa fd [x] (sp w))
 (hsp : ∀ (w : World) (H : Hp) (a : Addr) (ns : List Int), ns.length <= n -> Only H -> SqL (K w.params) H a (ns.map V.int) -> sp w [.ref a] H (fun v _ => v = .bl true) fun _ _ _ => False)
 (hCX : ∀ (w : World) (H : Hp) (s : Shared) (e : Value) (s' : Shared), CX w [] H s (fun _ _ _ => False) e s' -> False) :
 PySem.W.WalkO q loose XP YP l.row.toRowW d [] (fun f vs => PySem.call f vs) := by
 refine Att.Im hn hdf fun w s₀ s₁ mg mb fa o pm cd doc a vs ns G Y ho hd hcd hmg hobj hints hlen hg => ?_
 have KX := hY w _ Y
 obtain ⟨fd, hb, hF⟩ := F w mg fa _ KX G.T.g hmg
 exact Au KX G.T.g G.T.b G.T.builtins G.T.nolimit hg hobj hints (Nat.le_trans hlen hn2) hr hF hb (fun H hO hS => hsp w H a ns hlen hO hS) fun H e s' => hCX w H s₁ e s'
end L2
namespace L2
open PySem PySem.Spec PyProof.Rows
def Ed (s : Stmt) : Arguments := match s with
 | .FunctionDef _ a _ _ _ _ _ _ _ _ => a
 | _ => { posonlyargs := [], args := [], vararg := none, kwonlyargs := [], kw_defaults := [], kwarg := none, defaults := [] }
def Ha (s : Stmt) : List Stmt := match s with
 | .FunctionDef _ _ b _ _ _ _ _ _ _ => b
 | _ => []
def ya (s : Stmt) : Scope := match s with
 | .FunctionDef _ _ _ _ _ _ sc _ _ _ => sc
 | _ => { kind := .function, names := [], isGenerator := false, isCoroutine := false }
abbrev CX0 : CXT := fun _ _ _ _ _ _ => False
abbrev E0 : XK := fun _ _ _ => False
theorem pass0 {X : Cx} : Passes CX0 X E0 := fun _ _ _ _ _ _ _ h => h.elim
structure Fun (K : PySem.W.Frag) (x qual : Str) (st : Stmt) (f : Addr) (fd : FuncData) : Prop where
 ex : ∃ (oc : Value) (od : Option Addr) (kV doc pm : Value) (an : Option Addr) (cdv ct : Value) (osl : Array (Option Value)),
  fd = PySem.W.fnOf x qual (Ed st) (Ha st) (ya st) .none kV doc pm an cdv ct /\ K.lookup f = some ⟨oc, od, .func fd, osl⟩ /\ PySem.W.codeIn K cdv qual = true
 kp : PySem.W.keepIn K (.ref f) = true
section
variable {P : Program} {w : World} {K : PySem.W.Frag} {mg : Str -> Option Value} {base : Heap}
theorem Fun.ok {x qual : Str} {st : Stmt} {f : Addr} {fd : FuncData} {N ps : List Str} {k : Nat} {sp : Sp} (F : Fun K x qual st f fd) (S : Ia N ps (ya st)) (len : ∀ vs H Q E, sp vs H Q E -> vs.length = ps.length)
 (hbody : ∀ (cdv : Value) (A : Around) (outer : List Env) (s : Shared) (H : Hp) (vs : List V) (Q : VK) (E : XK), Room k (A.deeper (envOfC qual (ya st) s.heap.objs.size f cdv)) -> sp vs H Q E ->
   ∃ t, PSs (cxOf CX0 P w K mg base N qual (ya st) f cdv A outer s H E).nox (Ha st) t /\ t { nx := fun _ H' => Q .non H', rt := Q } (start N vs) H) : FnOk P w K mg base CX0 (k + 1) f fd ps sp := by
 obtain ⟨oc, od, kV, doc, pm, an, cdv, ct, osl, rfl, lk, hcd⟩ := F.ex
 refine fn_of lk hcd S len fun A outer s H vs Q E hr hsp => ?_
 obtain ⟨t, h, q⟩ := hbody cdv A outer s H vs Q E hr hsp
 exact ⟨t, h.nox, q⟩
theorem Fun.binds {x qual : Str} {st : Stmt} {f : Addr} {fd : FuncData} {ps : List Str} (F : Fun K x qual st f fd)
 (h : ∀ (kV doc pm : Value) (an : Option Addr) (cdv ct : Value) (us : List Value), us.length = ps.length -> bindArgs (PySem.W.fnOf x qual (Ed st) (Ha st) (ya st) .none kV doc pm an cdv ct) ⟨us, []⟩ = pure (ps.zip us)) : Binds K fd ps [] := by
 obtain ⟨oc, od, kV, doc, pm, an, cdv, ct, osl, rfl, lk, hcd⟩ := F.ex
 exact .all (h kV doc pm an cdv ct)
theorem fun_mk {x qual : Str} {st : Stmt} {f : Addr} {oc : Value} {od an : Option Addr} {osl : Array (Option Value)} {kV doc pm cdv ct : Value} (l : K.lookup f = some ⟨oc, od, .func (PySem.W.fnOf x qual (Ed st) (Ha st) (ya st) .none kV doc pm an cdv ct), osl⟩)
 (c : PySem.W.codeIn K cdv qual = true) (k : PySem.W.keepIn K (.ref f) = true) : Fun K x qual st f (PySem.W.fnOf x qual (Ed st) (Ha st) (ya st) .none kV doc pm an cdv ct) := ⟨⟨oc, od, kV, doc, pm, an, cdv, ct, osl, rfl, l, c⟩, k⟩
end
section
variable {X : Cx}
theorem pv (i : Nat) {x : Str} {pos : Pos} (hN : X.N[i]? = some x := by first | rfl | with_unfolding_all rfl) (hv : Vis X.env.scope x := by first | exact Or.inl rfl | exact Or.inr (Or.inl rfl) | exact Or.inr (Or.inr rfl) | with_unfolding_all exact Or.inl rfl | with_unfolding_all exact Or.inr (Or.inl rfl) | with_unfolding_all exact Or.inr (Or.inr rfl)) (hd : (x == ("__debug__" : Str)) = false := by decide)
 (hcd : (x == ("__classdict__" : Str)) = false := by decide) : PE X (.Name x pos) (tVar i) := pe_var hN hv hd hcd
end
theorem iteF {A B : Prop} (h : B) : if false = true then A else B := by
 rw [if_neg Bool.false_ne_true]
 exact h
theorem iteT {A B : Prop} (h : A) : if true = true then A else B := by
 rw [if_pos rfl]
 exact h
theorem ite2 {c A B : Prop} [Decidable c] (h1 : c -> A) (h2 : ¬ c -> B) : if c then A else B := by
 by_cases h : c
 . rw [if_pos h]
   exact h1 h
 . rw [if_neg h]
   exact h2 h
def Same (H H' : Hp) : Prop := ∀ b o, H b = some o -> H' b = some o
theorem Same.refl (H : Hp) : Same H H := fun _ _ h => h
theorem Same.trans {H H1 H2 : Hp} (a : Same H H1) (b : Same H1 H2) : Same H H2 := fun c o h => b c o (a c o h)
theorem Same.free {H H' : Hp} (e : Same H H') {l : Addr} (h : H' l = Option.none) : H l = Option.none := by
 cases q : H l with
 | none => rfl
 | some o =>
  rw [e l o q] at h
  cases h
end L2
namespace L2
open PySem PySem.Spec PyProof.Rows
def og (i j : Int) : Prop := CMul i j \/ ∃ m n : Nat, i.natAbs < 2 ^ m /\ j.natAbs < 2 ^ n /\ m + n <= 134217728
def qg (_i j : Int) : Prop := 0 < j /\ ∃ n : Nat, j.natAbs < 2 ^ n /\ n <= 9000
section
variable {X : Cx}
theorem Uw : OpR X (binaryOp .Mult) (rI og fun i j => .int (i * j)) := opI fun _ _ _ _ _ _ _ hc q => by
 rcases hc with hc | ⟨m, n, h1, h2, h3⟩
 . exact mul_int q hc.ok
 exact mul_int q (PySem.IntMulOk.of_le (PySem.intBits_le_iff.mpr h1) (PySem.intBits_le_iff.mpr h2) h3)
theorem Nb : OpR X (binaryOp .FloorDiv) (rI qg fun i j => .int (i / j)) := opI fun i j _ _ _ _ _ hc q => by
 obtain ⟨h1, n, h2, h3⟩ := hc
 refine floordiv_int (by omega) (by rw [Int.fdiv_eq_ediv_of_nonneg i (by omega)]; exact q) (.inl (PyProof.noPylong_of_log2 ?_))
 exact (Nat.log2_lt (by omega)).mpr (Nat.lt_of_lt_of_le h2 (Nat.pow_le_pow_right (by decide) h3))
end
theorem og.of {i j : Int} (m n : Nat) (h1 : i.natAbs < 2 ^ m) (h2 : j.natAbs < 2 ^ n) (h3 : m + n <= 134217728 := by decide) : og i j := .inr ⟨m, n, h1, h2, h3⟩
theorem qg.of {i j : Int} (n : Nat) (h1 : 0 < j) (h2 : j.natAbs < 2 ^ n) (h3 : n <= 9000 := by decide) : qg i j := ⟨h1, n, h2, h3⟩
theorem qg.small {i j : Int} (h1 : 0 < j) (h2 : j < 4294967296) : qg i j := .of 32 h1 (by omega)
theorem og.left {i j : Int} (h1 : -18446744073709551616 < i) (h2 : i < 18446744073709551616) : og i j := .inl (.inl ⟨h1, h2⟩)
theorem og.right {i j : Int} (h1 : -18446744073709551616 < j) (h2 : j < 18446744073709551616) : og i j := .inl (.inr ⟨h1, h2⟩)
def rIsi (K : PySem.W.Frag) : List V -> Hp -> VK -> Prop := fun xs H Q => ∃ x n t b, xs = [x, .ty n] /\ TyOf K H x t /\ PySem.W.kitOne K t (.type n) = some b /\ Q (.bl b) H
def rAbs : List V -> Hp -> VK -> Prop := fun xs H Q => ∃ i, xs = [.int i] /\ Q (.int (if i < 0 then -i else i)) H
def rMin2 : List V -> Hp -> VK -> Prop := fun xs H Q => ∃ i j, xs = [.int i, .int j] /\ Q (.int (if j < i then j else i)) H
def rLen (K : PySem.W.Frag) : List V -> Hp -> VK -> Prop := fun xs H Q => ∃ p ys, xs = [.ref p] /\ (SqL K H p ys \/ SqT K H p ys) /\ Q (.int ys.length) H
def gm (K : PySem.W.Frag) : List V -> Hp -> VK -> Prop := fun xs H Q => ∃ p ys, xs = [.ref p] /\ (SqL K H p ys \/ SqT K H p ys) /\ ∀ l, H l = none -> Q (.ref l) (upd H l (.lst ys))
def nj (K : PySem.W.Frag) : List V -> Hp -> VK -> Prop := fun xs H Q => ∃ p ys, xs = [.ref p] /\ SqL K H p ys /\ ∀ l, H l = none -> Q (.ref l) (upd H l (.tup ys))
section
variable {X : Cx}
theorem cl_isi : Wc X (.builtin "isinstance") (rIsi X.K) := by
 intro pins s σ H xs us Q I r h
 obtain ⟨x, n, t, b, rfl, ty, e, q⟩ := h
 obtain ⟨u, c, rfl, ru, rc⟩ := vals2 r
 cases rc
 exact Gs I ru ty e fun tk => ⟨.bl b, H, I.tok _, rfl, q⟩
theorem Iv : Wc X (.builtin "abs") rAbs := Lu
theorem vh (hc : X.calm = true) : Wc X (.builtin "min") rMin2 := qt hc
theorem cl_len : Wc X (.builtin "len") (rLen X.K) := Rk
theorem Ax : Wc X (.type "list") (gm X.K) := Qk
theorem Ju : Wc X (.type "tuple") (nj X.K) := by
 intro pins s σ H xs us Q I r h
 obtain ⟨p, ys, rfl, hq, q⟩ := h
 exact Sj pins s σ H _ us Q I r ⟨p, ys, rfl, .inl ⟨hq, q⟩⟩
end
theorem qc : bootBuiltins "isinstance" = some (.builtin "isinstance") := by decide +kernel
theorem Lv : bootBuiltins "abs" = some (.builtin "abs") := by decide +kernel
theorem Va : bootBuiltins "len" = some (.builtin "len") := by decide +kernel
theorem Sk : bootBuiltins "min" = some (.builtin "min") := by decide +kernel
theorem bt_sum : bootBuiltins "sum" = some (.builtin "sum") := by decide +kernel
theorem bt_int : bootBuiltins "int" = some (.type "int") := by decide +kernel
theorem wt : bootBuiltins "bool" = some (.type "bool") := by decide +kernel
theorem Xe : bootBuiltins "list" = some (.type "list") := by decide +kernel
theorem Tj : bootBuiltins "tuple" = some (.type "tuple") := by decide +kernel
structure Up (K : PySem.W.Frag) (mg : Str -> Option Value) (x : Str) (st : Stmt) (ps : List Str) : Prop where
 ex : ∃ (f : Addr) (fd : FuncData), Fun K x x st f fd /\ mg x = some (.ref f) /\ Binds K fd ps []
structure Callee (P : Program) (w : World) (K : PySem.W.Frag) (mg : Str -> Option Value) (base : Heap) (k : Nat) (x : Str) (ps : List Str) (sp : Sp) : Prop where
 ex : ∃ (f : Addr) (fd : FuncData), FnOk P w K mg base CX0 k f fd ps sp /\ mg x = some (.ref f) /\ PySem.W.keepIn K (.ref f) = true /\ Binds K fd ps []
theorem Callee.of {P : Program} {w : World} {K : PySem.W.Frag} {mg : Str -> Option Value} {base : Heap} {x : Str} {st : Stmt} {N ps : List Str} {k : Nat} {sp : Sp} (U : Up K mg x st ps) (S : Ia N ps (ya st))
 (len : ∀ vs H Q E, sp vs H Q E -> vs.length = ps.length)
 (hbody : ∀ (f : Addr) (cdv : Value) (A : Around) (outer : List Env) (s : Shared) (H : Hp) (vs : List V) (Q : VK) (E : XK), Room k (A.deeper (envOfC x (ya st) s.heap.objs.size f cdv)) -> sp vs H Q E ->
   ∃ t, PSs (cxOf CX0 P w K mg base N x (ya st) f cdv A outer s H E).nox (Ha st) t /\ t { nx := fun _ H' => Q .non H', rt := Q } (start N vs) H) : Callee P w K mg base (k + 1) x ps sp := by
 obtain ⟨f, fd, F, hm, hb⟩ := U.ex
 exact ⟨f, fd, F.ok S len fun cdv A outer s H vs Q E hr h => hbody f cdv A outer s H vs Q E hr h, hm, F.kp, hb⟩
def tCl (sp : Sp) (t : TA) : TE := fun σ H Q => t σ H fun vs H1 => sp vs H1 Q E0
section
variable {X : Cx} {k : Nat} {ps : List Str} {sp : Sp} {x : Str} {p pos : Pos} {e : Expr} {es : List Expr} {t : TA}
theorem pe_c (C : Callee X.prog X.w X.K X.mg X.base k x ps sp) (hr : Room k X.A) (hg : Gl X x) (ha : PA X (e :: es) t) (hdb : (x == ("__debug__" : Str)) = false := by decide)
 (he : starEach (e :: es) X.env = (false, eval e X.env) :: starEach es X.env := by first | rfl | with_unfolding_all rfl) (hpl : (backTo pos (starEach es X.env)).any (·.1) = false := by first | rfl | with_unfolding_all rfl) : PE X (.Call (.Name x p) (e :: es) [] pos) (tCl sp t) := by
 obtain ⟨f, fd, F, hm, hk, hb⟩ := C.ex
 have h := Tw (p := p) (E := E0) F hr hg hm hk hb .nil pass0 ha hdb he hpl
 intro pins s σ H Q I q
 refine h pins s σ H Q I ?_
 unfold tCl at q
 unfold tCall
 simp only [List.append_nil]
 exact q
end
def tSeqM (t u : TS) : TS := fun D σ H => ∃ M : St -> Hp -> Prop, t { D with nx := M } σ H /\ ∀ σ' H', M σ' H' -> u D σ' H'
theorem Yb {X : Cx} {st : Stmt} {rest : List Stmt} {t u : TS} (h1 : PS X st t) (h2 : PSs X rest u) : PSs X (st :: rest) (tSeqM t u) := by
 intro pins s σ H D I h
 obtain ⟨M, ht, hu⟩ := h
 refine wpAny_execs_cons (thn (h1 pins s σ H _ I ht) fun f s1 q => ?_)
 cases f with
 | next =>
  obtain ⟨σ', H', I', m⟩ := q
  exact h2 pins s1 σ' H' D I' (hu σ' H' m)
 | brk => exact q
 | cont => exact q
 | ret u => exact q
end L2
namespace L2
open PySem PySem.Spec PyProof.Rows
section
variable {t u tb : TS} {n b c : St -> Hp -> Prop} {r : VK} {σ : St} {H : Hp} {D : Ends} {te ta tb' : TE} {tc td : TT} {g : TG} {Q : VK} {QB : Bool -> Hp -> Prop} {QA : List V -> Hp -> Prop} {QS : St -> Hp -> Prop} {i j : Nat} {v w x y : V} {tA tr : TA}
theorem r_seq (h : t ⟨u ⟨n, r, b, c⟩, r, b, c⟩ σ H) : tSeq t u ⟨n, r, b, c⟩ σ H := h
theorem mf (M : St -> Hp -> Prop) (h : t ⟨M, r, b, c⟩ σ H) (h2 : ∀ σ' H', M σ' H' -> u ⟨n, r, b, c⟩ σ' H') : tSeqM t u ⟨n, r, b, c⟩ σ H := ⟨M, h, h2⟩
theorem r_next (h : n σ H) : tNext ⟨n, r, b, c⟩ σ H := h
theorem r_asg (h : te σ H fun x H1 => g x σ H1 n) : tAsg te g ⟨n, r, b, c⟩ σ H := h
theorem Cw (h : QS (σ.set i (some v)) H) : Bm i v σ H QS := h
theorem r_gsub {to ti : TE} {ts : TSet} (h : to σ H fun o H1 => ti σ H1 fun i H2 => ts o i v H2 fun H3 => QS σ H3) : gSub to ti ts v σ H QS := h
theorem r_gnil (h : QS σ H) : gNil [] σ H QS := ⟨rfl, h⟩
theorem Dw {gs : TGs} {vs : List V} (h : g v σ H fun σ' H' => gs vs σ' H' QS) : gCons g gs (v :: vs) σ H QS := ⟨v, vs, rfl, h⟩
theorem r_gtup {K : PySem.W.Frag} {gs : TGs} {a : Addr} {xs : List V} {k : Nat} (h1 : H a = some (.tup xs)) (h2 : xs.length = k) (h : gs xs σ H QS) : gTup K k gs (.ref a) σ H QS := ⟨a, xs, rfl, SqT.of h1, h2, h⟩
theorem r_drop (h : te σ H fun _ H1 => n σ H1) : tDrop te ⟨n, r, b, c⟩ σ H := h
theorem r_ret (h : te σ H r) : tRet te ⟨n, r, b, c⟩ σ H := h
theorem r_ifs (h : tc σ H fun q H1 => if q = true then t D σ H1 else u D σ H1) : tIfS tc t u D σ H := h
theorem r_aug {ti : TIp} (e : σ[i]? = some (some x)) (h : te σ H fun y H1 => ti x y H1 fun z H2 => n (σ.set i (some z)) H2) : tAug i te ti ⟨n, r, b, c⟩ σ H := ⟨x, e, h⟩
theorem r_ipI {f : Int -> Int -> Int} {p q : Int} (h : Q (.int (f p q)) H) : ipI f (.int p) (.int q) H Q := ⟨p, q, rfl, rfl, h⟩
theorem mw (Pv : Nat -> St -> Hp -> Prop) (m : Nat) (h0 : Pv m σ H)
 (hs : ∀ m σ H, Pv m σ H -> tc σ H fun q H1 => if q = true then ∃ N : St -> Hp -> Prop, (∀ σ' H', N σ' H' -> ∃ m', m' < m /\ Pv m' σ' H') /\ tb ⟨N, r, n, N⟩ σ H1 else n σ H1) : Tu tc tb ⟨n, r, b, c⟩ σ H := ⟨Pv, ⟨m, h0⟩, hs⟩
theorem r_var (e : σ[i]? = some (some v)) (h : Q v H) : tVar i σ H Q := ⟨v, e, h⟩
theorem r_c (h : Q v H) : tC v σ H Q := h
theorem r_op {o : R2} (h : ta σ H fun x H1 => tb' σ H1 fun y H2 => o x y H2 Q) : tOp o ta tb' σ H Q := h
theorem r_un {o : V -> Hp -> VK -> Prop} (h : ta σ H fun x H1 => o x H1 Q) : tUn o ta σ H Q := h
theorem r_rU {f : Int -> V} {p : Int} (h : Q (f p) H) : rU f (.int p) H Q := ⟨p, rfl, h⟩
theorem du {f : Int -> Int -> V} {p q : Int} (h : Q (f p q) H) : rI0 f (.int p) (.int q) H Q := ⟨p, q, rfl, rfl, h⟩
theorem r_rI {C : Int -> Int -> Prop} {f : Int -> Int -> V} {p q : Int} (hc : C p q) (h : Q (f p q) H) : rI C f (.int p) (.int q) H Q := ⟨p, q, rfl, rfl, hc, h⟩
theorem r_rEqI {p q : Int} (h : Q (.bl (decide (p = q))) H) : rEq (.int p) (.int q) H Q := ⟨rfl, by
 have e : decide (V.int p = V.int q) = decide (p = q) := by by_cases z : p = q <;> simp [z]
 rw [e]; exact h⟩
theorem r_rNeI {p q : Int} (h : Q (.bl (!decide (p = q))) H) : rNe (.int p) (.int q) H Q := ⟨rfl, by
 have e : decide (V.int p = V.int q) = decide (p = q) := by by_cases z : p = q <;> simp [z]
 rw [e]; exact h⟩
theorem r_rEqB {p q : Bool} (h : Q (.bl (p == q)) H) : rEq (.bl p) (.bl q) H Q := ⟨rfl, by
 have e : decide (V.bl p = V.bl q) = (p == q) := by cases p <;> cases q <;> rfl
 rw [e]; exact h⟩
theorem r_rNeB {p q : Bool} (h : Q (.bl (p != q)) H) : rNe (.bl p) (.bl q) H Q := ⟨rfl, by
 have e : (!decide (V.bl p = V.bl q)) = (p != q) := by cases p <;> cases q <;> rfl
 rw [e]; exact h⟩
theorem r_rEqS {p q : Str} (h : Q (.bl (decide (p = q))) H) : rEq (.str p) (.str q) H Q := ⟨rfl, by
 have e : decide (V.str p = V.str q) = decide (p = q) := by by_cases z : p = q <;> simp [z]
 rw [e]; exact h⟩
theorem r_rNeS {p q : Str} (h : Q (.bl (!decide (p = q))) H) : rNe (.str p) (.str q) H Q := ⟨rfl, by
 have e : decide (V.str p = V.str q) = decide (p = q) := by by_cases z : p = q <;> simp [z]
 rw [e]; exact h⟩
theorem r_test (h : te σ H fun x H' => ∃ k, x = .bl k /\ QB k H') : tTest te σ H QB := h
theorem r_bl {k : Bool} {P : Bool -> Prop} (h : P k) : ∃ k', V.bl k = .bl k' /\ P k' := ⟨k, rfl, h⟩
theorem r_and (h : tc σ H fun q H1 => if q = true then td σ H1 QB else QB false H1) : tAnd tc td σ H QB := h
theorem r_or (h : tc σ H fun q H1 => if q = true then QB true H1 else td σ H1 QB) : tOr tc td σ H QB := h
theorem r_not (h : tc σ H fun q H1 => QB (!q) H1) : tNot tc σ H QB := h
theorem r_andV (h : ta σ H fun x H1 => ∃ q, x = .bl q /\ if q = true then tb' σ H1 Q else Q (.bl false) H1) : tAndV ta tb' σ H Q := h
theorem r_notV (h : ta σ H fun x H1 => ∃ q, x = .bl q /\ Q (.bl (!q)) H1) : tNotV ta σ H Q := h
theorem r_ifx (h : tc σ H fun q H1 => if q = true then ta σ H1 Q else tb' σ H1 Q) : tIf tc ta tb' σ H Q := h
theorem r_nil (h : QA [] H) : tNil σ H QA := h
theorem r_cons (h : te σ H fun x H1 => tr σ H1 fun xs H2 => QA (x :: xs) H2) : tCons te tr σ H QA := h
theorem r_tup (h : tA σ H fun xs H1 => xs.length <= sizeLine /\ ∀ p, H1 p = none -> Q (.ref p) (upd H1 p (.tup xs))) : tTup tA σ H Q := h
theorem r_lst (h : tA σ H fun xs H1 => xs.length <= sizeLine /\ ∀ p, H1 p = none -> Q (.ref p) (upd H1 p (.lst xs))) : tLst tA σ H Q := h
theorem r_cb {o : List V -> Hp -> VK -> Prop} (h : tA σ H fun vs H1 => o vs H1 Q) : tCB o tA σ H Q := h
theorem r_cl {sp : Sp} (h : tA σ H fun vs H1 => sp vs H1 Q E0) : tCl sp tA σ H Q := h
theorem r_abs {p : Int} (h : Q (.int (if p < 0 then -p else p)) H) : rAbs [.int p] H Q := ⟨p, rfl, h⟩
theorem r_min2 {p q : Int} (h : Q (.int (if q < p then q else p)) H) : rMin2 [.int p, .int q] H Q := ⟨p, q, rfl, h⟩
theorem r_isi {K : PySem.W.Frag} {s : String} {ty : Value} {k : Bool} (h1 : TyOf K H x ty) (h2 : PySem.W.kitOne K ty (.type s) = some k) (h : Q (.bl k) H) : rIsi K [x, .ty s] H Q := ⟨x, s, ty, k, rfl, h1, h2, h⟩
theorem ni {K : PySem.W.Frag} {p : Addr} {xs : List V} (h1 : H p = some (.lst xs)) (h : Q (.int xs.length) H) : rLen K [.ref p] H Q := ⟨p, xs, rfl, .inl (SqL.of h1), h⟩
theorem qv {K : PySem.W.Frag} {p : Addr} {xs : List V} (h1 : H p = some (.tup xs)) (h : Q (.int xs.length) H) : rLen K [.ref p] H Q := ⟨p, xs, rfl, .inr (SqT.of h1), h⟩
theorem Kf {K : PySem.W.Frag} {p : Addr} {xs : List V} (h1 : SqL K H p xs) (h : ∀ l, H l = none -> Q (.ref l) (upd H l (.lst xs))) : gm K [.ref p] H Q := ⟨p, xs, rfl, .inl h1, h⟩
theorem En {K : PySem.W.Frag} {p : Addr} {xs : List V} (h1 : H p = some (.lst xs)) (h : ∀ l, H l = none -> Q (.ref l) (upd H l (.tup xs))) : nj K [.ref p] H Q := ⟨p, xs, rfl, SqL.of h1, h⟩
theorem r_ixL {K : PySem.W.Frag} {p : Addr} {xs : List V} {k : Int} (h1 : H p = some (.lst xs)) (h2 : atI xs k = some v) (h : Q v H) : rIxL K (.ref p) (.int k) H Q := ⟨p, xs, k, v, rfl, rfl, SqL.of h1, h2, h⟩
theorem r_ixT {K : PySem.W.Frag} {p : Addr} {xs : List V} {k : Int} (h1 : H p = some (.tup xs)) (h2 : atI xs k = some v) (h : Q v H) : rIxT K (.ref p) (.int k) H Q := ⟨p, xs, k, v, rfl, rfl, SqT.of h1, h2, h⟩
theorem Fn {p : Addr} {xs : List V} {k : Int} {QH : Hp -> Prop} {m : Nat} (h1 : H p = some (.lst xs)) (h2 : ixN xs.length k = some m) (h : QH (upd H p (.lst (xs.set m v)))) : rSetL (.ref p) (.int k) v H QH := ⟨p, xs, k, m, rfl, rfl, h1, h2, h⟩
theorem r_bmL {K : PySem.W.Frag} {o : V -> List V -> Hp -> VK -> Prop} (h : te σ H fun x H1 => tyV K "list" x H1 /\ tA σ H1 fun xs H2 => o x xs H2 Q) : tBM K "list" o te tA σ H Q := h
theorem lj {K : PySem.W.Frag} {p : Addr} {xs : List V} {R : Prop} (h1 : H p = some (.lst xs)) (h : R) : tyV K "list" (.ref p) H /\ R := ⟨.inl ⟨rfl, _, SqL.of h1⟩, h⟩
theorem gb {p : Addr} {xs : List V} (h1 : H p = some (.lst xs)) (h2 : xs.length < sizeLine) (h : Q .non (upd H p (.lst (xs ++ [y])))) : jr (.ref p) [y] H Q := ⟨p, xs, y, rfl, rfl, h1, h2, h⟩
theorem za {p A B : Prop} [Decidable p] (h1 : p -> A) (h2 : ¬ p -> B) : if decide p = true then A else B := ite2 (fun z => h1 (of_decide_eq_true z)) fun z => h2 fun y => z (decide_eq_true y)
theorem ag {p A B : Prop} [Decidable p] (h1 : ¬ p -> A) (h2 : p -> B) : if (!decide p) = true then A else B := by
 by_cases z : p
 . rw [decide_eq_true z]; exact iteF (h2 z)
 . rw [decide_eq_false z]; exact iteT (h1 z)
theorem xw {A B : Prop} (h : B) : if (!true) = true then A else B := iteF h
theorem zw {A B : Prop} (h : A) : if (!false) = true then A else B := iteT h
theorem tw {n : Nat} {R : Prop} (h1 : n <= sizeLine) (h : R) : n <= sizeLine /\ R := ⟨h1, h⟩
end
def ForR (vs : List V) (g : TG) (tb : TS) (D : Ends) (σ : St) (H : Hp) : Prop := ∃ j : Int, vs = [.int j] /\ -(2 ^ 62) <= j /\ j < 2 ^ 62 /\
 ∃ W : Nat -> Nat -> St -> Hp -> Prop, (∃ m, W 0 m σ H) /\ ∀ i m σ H, W i m σ H ->
  ((Itr 0 j.toNat).stop i H /\ D.nx σ H) \/ ((Itr 0 j.toNat).go i H /\ ∃ N : St -> Hp -> Prop, (∀ σ' H', N σ' H' -> ∃ m', m' < m /\ W (i + 1) m' σ' H') /\ ∀ x H', (Itr 0 j.toNat).yld i H x H' -> g x σ H' fun σ2 H2 => tb { D with nx := N, ct := N, bk := D.nx } σ2 H2)
theorem r_forR {tA : TA} {g : TG} {tb : TS} {D : Ends} {σ : St} {H : Hp} (h : tA σ H fun vs H1 => ForR vs g tb D σ H1) : tFor (sx tA) g tb D σ H := h
theorem forR {j : Int} {g : TG} {tb : TS} {n b c : St -> Hp -> Prop} {r : VK} {σ : St} {H : Hp} (Pv : Nat -> St -> Hp -> Prop) (h1 : -(2 ^ 62) <= j) (h2 : j < 2 ^ 62) (h0 : Pv 0 σ H)
 (hs : ∀ (i : Nat) σ H, (i : Int) < j -> Pv i σ H -> g (.int (i : Int)) σ H fun σ2 H2 => tb ⟨Pv (i + 1), r, n, Pv (i + 1)⟩ σ2 H2) (hd : ∀ σ H, Pv j.toNat σ H -> n σ H) : ForR [.int j] g tb ⟨n, r, b, c⟩ σ H := by
 refine ⟨j, rfl, h1, h2, ?_⟩
 refine Ms (lo := 0) (n := j.toNat) (D := ⟨n, r, b, c⟩) Pv h0 (fun i σ H hi p => ?_) hd
 rw [Int.zero_add]
 exact hs i σ H (by omega) p
def ForL (K : PySem.W.Frag) (x : V) (g : TG) (tb : TS) (D : Ends) (σ : St) (H : Hp) : Prop := ∃ a, x = .ref a /\ (∃ xs, SqL K H a xs) /\
 ∃ W : Nat -> Nat -> St -> Hp -> Prop, (∃ m, W 0 m σ H) /\ ∀ i m σ H, W i m σ H ->
  ((Itl K a).stop i H /\ D.nx σ H) \/ ((Itl K a).go i H /\ ∃ N : St -> Hp -> Prop, (∀ σ' H', N σ' H' -> ∃ m', m' < m /\ W (i + 1) m' σ' H') /\ ∀ x H', (Itl K a).yld i H x H' -> g x σ H' fun σ2 H2 => tb { D with nx := N, ct := N, bk := D.nx } σ2 H2)
theorem r_forL {K : PySem.W.Frag} {te : TE} {g : TG} {tb : TS} {D : Ends} {σ : St} {H : Hp} (h : te σ H fun x H1 => ForL K x g tb D σ H1) : tFor (Bu K te) g tb D σ H := h
theorem forL {K : PySem.W.Frag} {a : Addr} {xs : List V} {g : TG} {tb : TS} {n b c : St -> Hp -> Prop} {r : VK} {σ : St} {H : Hp} (Pv : Nat -> St -> Hp -> Prop) (h0 : Pv 0 σ H) (hl : ∀ i σ H, i <= xs.length -> Pv i σ H -> SqL K H a xs)
 (hs : ∀ i x σ H, xs[i]? = some x -> Pv i σ H -> g x σ H fun σ2 H2 => tb ⟨Pv (i + 1), r, n, Pv (i + 1)⟩ σ2 H2) (hd : ∀ σ H, Pv xs.length σ H -> n σ H) : ForL K (.ref a) g tb ⟨n, r, b, c⟩ σ H :=
 ⟨a, rfl, ⟨xs, hl 0 σ H (Nat.zero_le _) h0⟩, Eu (D := ⟨n, r, b, c⟩) Pv h0 hl hs hd⟩
def ForT (K : PySem.W.Frag) (x : V) (g : TG) (tb : TS) (D : Ends) (σ : St) (H : Hp) : Prop := ∃ a, x = .ref a /\ (∃ xs, SqT K H a xs) /\
 ∃ W : Nat -> Nat -> St -> Hp -> Prop, (∃ m, W 0 m σ H) /\ ∀ i m σ H, W i m σ H ->
  ((Itt K a).stop i H /\ D.nx σ H) \/ ((Itt K a).go i H /\ ∃ N : St -> Hp -> Prop, (∀ σ' H', N σ' H' -> ∃ m', m' < m /\ W (i + 1) m' σ' H') /\ ∀ x H', (Itt K a).yld i H x H' -> g x σ H' fun σ2 H2 => tb { D with nx := N, ct := N, bk := D.nx } σ2 H2)
theorem r_forT {K : PySem.W.Frag} {te : TE} {g : TG} {tb : TS} {D : Ends} {σ : St} {H : Hp} (h : te σ H fun x H1 => ForT K x g tb D σ H1) : tFor (iTup K te) g tb D σ H := h
theorem forT {K : PySem.W.Frag} {a : Addr} {xs : List V} {g : TG} {tb : TS} {n b c : St -> Hp -> Prop} {r : VK} {σ : St} {H : Hp} (Pv : Nat -> St -> Hp -> Prop) (h0 : Pv 0 σ H) (hl : ∀ i σ H, i <= xs.length -> Pv i σ H -> SqT K H a xs)
 (hs : ∀ i x σ H, xs[i]? = some x -> Pv i σ H -> g x σ H fun σ2 H2 => tb ⟨Pv (i + 1), r, n, Pv (i + 1)⟩ σ2 H2) (hd : ∀ σ H, Pv xs.length σ H -> n σ H) : ForT K (.ref a) g tb ⟨n, r, b, c⟩ σ H :=
 ⟨a, rfl, ⟨xs, hl 0 σ H (Nat.zero_le _) h0⟩, wx (D := ⟨n, r, b, c⟩) Pv h0 hl hs hd⟩
def Fr1 (d : Addr) (H H' : Hp) : Prop := ∀ b o, H b = some o -> b ≠ d -> H' b = some o
theorem Fr1.refl (d : Addr) (H : Hp) : Fr1 d H H := fun _ _ h _ => h
theorem Fr1.trans {d : Addr} {H H1 H2 : Hp} (a : Fr1 d H H1) (b : Fr1 d H1 H2) : Fr1 d H H2 := fun c o h n => b c o (a c o h n) n
theorem Fr1.upd {d : Addr} {H H' : Hp} {o : HO} (a : Fr1 d H H') : Fr1 d H (upd H' d o) := fun b u h n => by rw [La n]; exact a b u h n
theorem Fr1.new {d p : Addr} {H H' : Hp} {o : HO} (a : Fr1 d H H') (e : H' p = none) : Fr1 d H (L2.upd H' p o) := fun b u h n => by rw [La (oa (a b u h n) e)]; exact a b u h n
theorem Fr1.get {d b : Addr} {H H' : Hp} {o : HO} (a : Fr1 d H H') (h : H b = some o) (n : b ≠ d) : H' b = some o := a b o h n
theorem Same.new {H H' : Hp} {p : Addr} {o : HO} (a : Same H H') (e : H' p = none) : Same H (upd H' p o) := fun b u h => by rw [La (oa (a b u h) e)]; exact a b u h
theorem rb {H : Hp} {a b : Addr} {o u : HO} (n : b ≠ a) (h : H b = some u) : upd H a o b = some u := by rw [La n]; exact h
end L2
namespace L2
open PySem PySem.Spec PyProof.Rows
inductive D where
 | v (x : V)
 | t (ds : List D)
 | l (ds : List D)
mutual
def IsD (K : PySem.W.Frag) (H : Hp) : D -> V -> Prop
 | .v x, y => Ob x = true /\ y = x
 | .t ds, y => ∃ p xs, y = .ref p /\ SqT K H p xs /\ IsDs K H ds xs
 | .l ds, y => ∃ p xs, y = .ref p /\ SqL K H p xs /\ IsDs K H ds xs
def IsDs (K : PySem.W.Frag) (H : Hp) : List D -> List V -> Prop
 | [], xs => xs = []
 | d :: ds, xs => ∃ x r, xs = x :: r /\ IsD K H d x /\ IsDs K H ds r
end
mutual
def eqD : D -> D -> Bool
 | .v a, .v b => eqV a b
 | .t as, .t bs => eqDs as bs
 | .l as, .l bs => eqDs as bs
 | _, _ => false
def eqDs : List D -> List D -> Bool
 | [], [] => true
 | a :: as, b :: bs => eqD a b && eqDs as bs
 | _, _ => false
end
mutual
def dep : D -> Nat
 | .v _ => 0
 | .t ds => deps ds + 1
 | .l ds => deps ds + 1
def deps : List D -> Nat
 | [] => 0
 | d :: ds => max (dep d) (deps ds)
end
theorem IsDs.length {K : PySem.W.Frag} {H : Hp} : ∀ {ds : List D} {xs : List V}, IsDs K H ds xs -> ds.length = xs.length
 | [], xs, h => by unfold IsDs at h; subst h; rfl
 | d :: ds, xs, h => by
  unfold IsDs at h
  obtain ⟨x, r, rfl, _, h2⟩ := h
  rw [List.length_cons, List.length_cons, IsDs.length h2]
theorem IsDs.get {K : PySem.W.Frag} {H : Hp} : ∀ {ds : List D} {xs : List V} {j : Nat} {x : V}, IsDs K H ds xs -> xs[j]? = some x -> ∃ d, ds[j]? = some d /\ IsD K H d x
 | [], xs, j, x, h, e => by unfold IsDs at h; subst h; simp at e
 | d :: ds, xs, j, x, h, e => by
  unfold IsDs at h
  obtain ⟨y, r, rfl, h1, h2⟩ := h
  cases j with
  | zero => simp at e; subst e; exact ⟨d, by simp, h1⟩
  | succ j => obtain ⟨d', q, h3⟩ := IsDs.get (j := j) (x := x) h2 (by simpa using e); exact ⟨d', by simpa using q, h3⟩
theorem rh : ∀ {ds : List D} {j : Nat} {d : D}, ds[j]? = some d -> dep d <= deps ds
 | [], j, d, e => by simp at e
 | a :: ds, 0, d, e => by simp at e; subst e; unfold deps; exact Nat.le_max_left _ _
 | a :: ds, j + 1, d, e => by
  have := rh (ds := ds) (j := j) (d := d) (by simpa using e)
  unfold deps
  exact Nat.le_trans this (Nat.le_max_right _ _)
def Mk (ds es : List D) (j : Nat) : Bool := match ds[j]?, es[j]? with
 | some d, some e => eqD d e
 | _, _ => false
theorem Qf : ∀ (ds es : List D), ds.length = es.length -> (List.range ds.length).all (Mk ds es) = eqDs ds es
 | [], [], _ => by simp [eqDs]
 | [], _ :: _, h => by simp at h
 | _ :: _, [], h => by simp at h
 | d :: ds, e :: es, h => by
  have ih := Qf ds es (by simpa using h)
  unfold eqDs
  rw [<- ih, List.length_cons, List.range_succ_eq_map, List.all_cons, List.all_map]
  have e1 : Mk (d :: ds) (e :: es) 0 = eqD d e := by simp [Mk]
  rw [e1]
  congr 1
theorem Nj : ∀ (ds es : List D), ds.length ≠ es.length -> eqDs ds es = false
 | [], [], h => absurd rfl h
 | [], _ :: _, _ => by simp [eqDs]
 | _ :: _, [], _ => by simp [eqDs]
 | d :: ds, e :: es, h => by
  unfold eqDs
  rw [Nj ds es (by simpa using h), Bool.and_false]
theorem Gu {x : V} (h : Ob x = true) : eqV x x = true := by
 cases x <;> simp [eqV] <;> cases h
mutual
theorem Hu {K : PySem.W.Frag} {H : Hp} : ∀ {d : D} {x : V}, IsD K H d x -> eqD d d = true
 | .v y, x, h => by unfold IsD at h; unfold eqD; exact Gu h.1
 | .t ds, x, h => by unfold IsD at h; obtain ⟨p, xs, _, _, h⟩ := h; unfold eqD; exact ke h
 | .l ds, x, h => by unfold IsD at h; obtain ⟨p, xs, _, _, h⟩ := h; unfold eqD; exact ke h
theorem ke {K : PySem.W.Frag} {H : Hp} : ∀ {ds : List D} {xs : List V}, IsDs K H ds xs -> eqDs ds ds = true
 | [], _, _ => by unfold eqDs; rfl
 | d :: ds, xs, h => by
  unfold IsDs at h
  obtain ⟨x, r, _, h1, h2⟩ := h
  unfold eqDs
  rw [Hu h1, ke h2]; rfl
end
section
variable {X : Cx} {pins : List (Addr × Obj)} {σ : St} {H : Hp} {s : Shared}
theorem Fe {a : Addr} {xs ys : List V} (I : Inv X pins σ H s) (h : SqL X.K H a xs) (h' : SqT X.K H a ys) : False := by
 obtain ⟨_, _, ⟨o, n, e, c, _⟩, _⟩ := I.list h
 obtain ⟨_, _, ⟨o', e', c', _⟩, _⟩ := I.tuple h'
 rw [e] at e'; cases e'
 rw [c] at c'
 injection c' with c'
 exact absurd c' (by decide)
mutual
theorem zm (I : Inv X pins σ H s) : ∀ {d e : D} {x : V}, IsD X.K H d x -> IsD X.K H e x -> d = e
 | .v y, e, x, h, h' => by
  unfold IsD at h
  obtain ⟨f, rfl⟩ := h
  cases e with
  | v z => unfold IsD at h'; rw [h'.2]
  | t es => unfold IsD at h'; obtain ⟨p, _, rfl, _⟩ := h'; cases f
  | l es => unfold IsD at h'; obtain ⟨p, _, rfl, _⟩ := h'; cases f
 | .t ds, e, x, h, h' => by
  unfold IsD at h
  obtain ⟨p, xs, rfl, hs, hd⟩ := h
  cases e with
  | v z => unfold IsD at h'; obtain ⟨f, q⟩ := h'; subst q; cases f
  | t es =>
   unfold IsD at h'
   obtain ⟨p', xs', q, hs', hd'⟩ := h'
   cases q
   have := I.dk hs hs'
   subst this
   rw [Kj I hd hd']
  | l es =>
   unfold IsD at h'
   obtain ⟨p', xs', q, hs', hd'⟩ := h'
   cases q
   exact (Fe I hs' hs).elim
 | .l ds, e, x, h, h' => by
  unfold IsD at h
  obtain ⟨p, xs, rfl, hs, hd⟩ := h
  cases e with
  | v z => unfold IsD at h'; obtain ⟨f, q⟩ := h'; subst q; cases f
  | t es =>
   unfold IsD at h'
   obtain ⟨p', xs', q, hs', hd'⟩ := h'
   cases q
   exact (Fe I hs hs').elim
  | l es =>
   unfold IsD at h'
   obtain ⟨p', xs', q, hs', hd'⟩ := h'
   cases q
   have := I.Vn hs hs'
   subst this
   rw [Kj I hd hd']
theorem Kj (I : Inv X pins σ H s) : ∀ {ds es : List D} {xs : List V}, IsDs X.K H ds xs -> IsDs X.K H es xs -> ds = es
 | [], es, xs, h, h' => by
  unfold IsDs at h
  subst h
  cases es with
  | nil => rfl
  | cons e es => unfold IsDs at h'; obtain ⟨x, r, q, _⟩ := h'; cases q
 | d :: ds, es, xs, h, h' => by
  unfold IsDs at h
  obtain ⟨x, r, rfl, h1, h2⟩ := h
  cases es with
  | nil => unfold IsDs at h'; cases h'
  | cons e es =>
   unfold IsDs at h'
   obtain ⟨x', r', q, h3, h4⟩ := h'
   cases q
   rw [zm I h1 h3, Kj I h2 h4]
end
theorem Zn {A : Around} {ds es : List D} {xs ys : List V} {us vs : List Value} (hd : IsDs X.K H ds xs) (he : IsDs X.K H es ys) (rx : Vals xs us) (ry : Vals ys vs)
 (ih : ∀ d e x y u v, dep d <= deps ds -> IsD X.K H d x -> IsD X.K H e y -> RelV x u -> RelV y v -> SeqAt.EqAt A s u v (eqD d e)) :
 ∀ j (h1 : j < us.toArray.size) (h2 : j < vs.toArray.size), SeqAt.EqAt A s us.toArray[j] vs.toArray[j] (Mk ds es j) := by
 intro j h1 h2
 have h1' : j < us.length := by simpa using h1
 have h2' : j < vs.length := by simpa using h2
 obtain ⟨x, ex⟩ : ∃ x, xs[j]? = some x := ⟨xs[j]'(by rw [rx.length]; exact h1'), List.getElem?_eq_getElem _⟩
 obtain ⟨y, ey⟩ : ∃ y, ys[j]? = some y := ⟨ys[j]'(by rw [ry.length]; exact h2'), List.getElem?_eq_getElem _⟩
 obtain ⟨u, eu, ru⟩ := rx.get ex
 obtain ⟨v, ev, rv⟩ := ry.get ey
 obtain ⟨d, ed, id1⟩ := hd.get ex
 obtain ⟨e, ee, id2⟩ := he.get ey
 have q1 : us.toArray[j] = u := by
  rw [List.getElem?_eq_getElem h1'] at eu
  simpa using Option.some.inj eu
 have q2 : vs.toArray[j] = v := by
  rw [List.getElem?_eq_getElem h2'] at ev
  simpa using Option.some.inj ev
 rw [q1, q2]
 have q3 : Mk ds es j = eqD d e := by unfold Mk; rw [ed, ee]
 rw [q3]
 exact ih d e x y u v (rh ed) id1 id2 ru rv
theorem Cn {A : Around} {ds es : List D} {xs ys : List V} {p q : Addr} (I : Inv X pins σ H s) (hp : SqL X.K H p xs) (hq : SqL X.K H q ys) (hd : IsDs X.K H ds xs) (he : IsDs X.K H es ys) (hu : A.units < cLine)
 (ih : ∀ d e x y u v, dep d <= deps ds -> IsD X.K H d x -> IsD X.K H e y -> RelV x u -> RelV y v -> SeqAt.EqAt A.in1 s u v (eqD d e)) : SeqAt.RcAt A s (.ref p) (.ref q) (eqDs ds es) /\ SeqAt.RcNeAt A s (.ref p) (.ref q) (!eqDs ds es) := by
 obtain ⟨us, rx, lp, _⟩ := I.list hp
 obtain ⟨vs, ry, lq, _⟩ := I.list hq
 have l1 := hd.length
 have l2 := he.length
 have l3 := rx.length
 have l4 := ry.length
 by_cases hl : ds.length = es.length
 . have it := Zn (A := A.in1) hd he rx ry ih
   have sz : us.toArray.size = vs.toArray.size := by simp only [List.size_toArray]; omega
   have e1 : (List.range us.toArray.size).all (Mk ds es) = eqDs ds es := by
    have : us.toArray.size = ds.length := by simp only [List.size_toArray]; omega
    rw [this]; exact Qf ds es hl
   have a := SeqAt.RcAt.lists lp.isList lq.isList sz hu it
   have b := SeqAt.RcNeAt.lists lp.isList lq.isList sz hu it
   rw [e1] at a b
   exact ⟨a, b⟩
 . have sz : (us.toArray.size != vs.toArray.size) = true := by
    simp only [List.size_toArray, bne_iff_ne, ne_eq]; omega
   rw [Nj ds es hl]
   exact ⟨SeqAt.RcAt.lists_lengths lp.isList lq.isList sz hu, SeqAt.RcNeAt.lists_lengths lp.isList lq.isList sz hu⟩
theorem zk {A : Around} {ds es : List D} {xs ys : List V} {p q : Addr} (I : Inv X pins σ H s) (hp : SqT X.K H p xs) (hq : SqT X.K H q ys) (hd : IsDs X.K H ds xs) (he : IsDs X.K H es ys) (hu : A.units < cLine)
 (ih : ∀ d e x y u v, dep d <= deps ds -> IsD X.K H d x -> IsD X.K H e y -> RelV x u -> RelV y v -> SeqAt.EqAt A.in1 s u v (eqD d e)) : SeqAt.RcAt A s (.ref p) (.ref q) (eqDs ds es) /\ SeqAt.RcNeAt A s (.ref p) (.ref q) (!eqDs ds es) := by
 obtain ⟨us, rx, lp, _⟩ := I.tuple hp
 obtain ⟨vs, ry, lq, _⟩ := I.tuple hq
 have l1 := hd.length
 have l2 := he.length
 have l3 := rx.length
 have l4 := ry.length
 have it := Zn (A := A.in1) hd he rx ry ih
 have a := SeqAt.RcAt.tuples (A := A) (s := s) lp lq hu it
 have b := SeqAt.RcNeAt.tuples (A := A) (s := s) lp lq hu it
 have e1 : ((List.range (min us.toArray.size vs.toArray.size)).all (Mk ds es) && us.toArray.size == vs.toArray.size) = eqDs ds es := by
  by_cases hl : ds.length = es.length
  . have q1 : min us.toArray.size vs.toArray.size = ds.length := by simp only [List.size_toArray]; omega
    have q2 : (us.toArray.size == vs.toArray.size) = true := by simp only [List.size_toArray, beq_iff_eq]; omega
    rw [q1, q2, Bool.and_true]
    exact Qf ds es hl
  . have q2 : (us.toArray.size == vs.toArray.size) = false := by simp only [List.size_toArray, beq_eq_false_iff_ne, ne_eq]; omega
    rw [q2, Bool.and_false, Nj ds es hl]
 rw [e1] at a b
 exact ⟨a, b⟩
theorem jw {A : Around} {y x : V} {u v : Value} (ry : RelV y u) (rx : RelV x v) (fy : Ob y = true) (fx : Ob x = true) : SeqAt.RcAt A s u v (eqV y x) /\ SeqAt.RcNeAt A s u v (!eqV y x) := by
 cases y with
 | non =>
  cases ry
  cases x with
  | non => cases rx; exact ⟨SeqAt.RcAt.none_none, SeqAt.RcNeAt.none_none⟩
  | bl b => cases rx; exact ⟨SeqAt.RcAt.none_bool b, SeqAt.RcNeAt.none_bool b⟩
  | int b => obtain ⟨t, rfl⟩ := rx; exact ⟨SeqAt.RcAt.none_int b t, SeqAt.RcNeAt.none_int b t⟩
  | str b => obtain ⟨t, rfl⟩ := rx; exact ⟨SeqAt.RcAt.none_str b t, SeqAt.RcNeAt.none_str b t⟩
  | _ => exact absurd (show false = true from fx) Bool.false_ne_true
 | bl a =>
  cases ry
  cases x with
  | non => cases rx; exact ⟨SeqAt.RcAt.bool_none a, SeqAt.RcNeAt.bool_none a⟩
  | bl b => cases rx; exact ⟨SeqAt.RcAt.bool_bool a b, SeqAt.RcNeAt.bool_bool a b⟩
  | int b => obtain ⟨t, rfl⟩ := rx; exact ⟨SeqAt.RcAt.bool_int a b t, SeqAt.RcNeAt.bool_int a b t⟩
  | str b => obtain ⟨t, rfl⟩ := rx; exact ⟨SeqAt.RcAt.bool_str a b t, SeqAt.RcNeAt.bool_str a b t⟩
  | _ => exact absurd (show false = true from fx) Bool.false_ne_true
 | int a =>
  obtain ⟨t', rfl⟩ := ry
  cases x with
  | non => cases rx; exact ⟨SeqAt.RcAt.int_none a t', SeqAt.RcNeAt.int_none a t'⟩
  | bl b => cases rx; exact ⟨SeqAt.RcAt.int_bool a t' b, SeqAt.RcNeAt.int_bool a t' b⟩
  | int b => obtain ⟨t, rfl⟩ := rx; exact ⟨SeqAt.RcAt.int_int a t' b t, SeqAt.RcNeAt.int_int a t' b t⟩
  | str b => obtain ⟨t, rfl⟩ := rx; exact ⟨SeqAt.RcAt.int_str a t' b t, SeqAt.RcNeAt.int_str a t' b t⟩
  | _ => exact absurd (show false = true from fx) Bool.false_ne_true
 | str a =>
  obtain ⟨t', rfl⟩ := ry
  cases x with
  | non => cases rx; exact ⟨SeqAt.RcAt.str_none a t', SeqAt.RcNeAt.str_none a t'⟩
  | bl b => cases rx; exact ⟨SeqAt.RcAt.str_bool a t' b, SeqAt.RcNeAt.str_bool a t' b⟩
  | int b => obtain ⟨t, rfl⟩ := rx; exact ⟨SeqAt.RcAt.str_int a t' b t, SeqAt.RcNeAt.str_int a t' b t⟩
  | str b => obtain ⟨t, rfl⟩ := rx; exact ⟨SeqAt.RcAt.str_str a t' b t, SeqAt.RcNeAt.str_str a t' b t⟩
  | _ => exact absurd (show false = true from fx) Bool.false_ne_true
 | _ => exact absurd (show false = true from fy) Bool.false_ne_true
theorem Dd {A : Around} {p : Addr} {xs : List V} {x : V} {v : Value} (I : Inv X pins σ H s) (hp : SqT X.K H p xs) (rx : RelV x v) (fx : Ob x = true) (hu : A.units < cLine) : SeqAt.EqAt A s (.ref p) v false /\ SeqAt.EqAt A s v (.ref p) false := by
 obtain ⟨us, _, lp, _⟩ := I.tuple hp
 cases x with
 | non => cases rx; exact ⟨SeqAt.EqAt.tuple_none lp hu, SeqAt.EqAt.none_tuple lp hu⟩
 | bl b => cases rx; exact ⟨SeqAt.EqAt.tuple_bool b lp hu, SeqAt.EqAt.bool_tuple b lp hu⟩
 | int b => obtain ⟨t, rfl⟩ := rx; exact ⟨SeqAt.EqAt.tuple_int b t lp hu, SeqAt.EqAt.int_tuple b t lp hu⟩
 | str b => obtain ⟨t, rfl⟩ := rx; exact ⟨SeqAt.EqAt.tuple_str b t lp hu, SeqAt.EqAt.str_tuple b t lp hu⟩
 | _ => exact absurd (show false = true from fx) Bool.false_ne_true
theorem je {A : Around} {p : Addr} {xs : List V} {x : V} {v : Value} (I : Inv X pins σ H s) (hp : SqL X.K H p xs) (rx : RelV x v) (fx : Ob x = true) (hu : A.units < cLine) : SeqAt.EqAt A s (.ref p) v false /\ SeqAt.EqAt A s v (.ref p) false := by
 obtain ⟨us, _, lp, _⟩ := I.list hp
 cases x with
 | non => cases rx; exact ⟨SeqAt.EqAt.list_none lp.isList hu, SeqAt.EqAt.none_list lp.isList hu⟩
 | bl b => cases rx; exact ⟨SeqAt.EqAt.list_bool b lp.isList hu, SeqAt.EqAt.bool_list b lp.isList hu⟩
 | int b => obtain ⟨t, rfl⟩ := rx; exact ⟨SeqAt.EqAt.list_int b t lp.isList hu, SeqAt.EqAt.int_list b t lp.isList hu⟩
 | str b => obtain ⟨t, rfl⟩ := rx; exact ⟨SeqAt.EqAt.list_str b t lp.isList hu, SeqAt.EqAt.str_list b t lp.isList hu⟩
 | _ => exact absurd (show false = true from fx) Bool.false_ne_true
theorem Gv (I : Inv X pins σ H s) : ∀ (n : Nat) (d e : D) (x y : V) (u v : Value) (A : Around), dep d <= n -> A.units + n < cLine -> IsD X.K H d x -> IsD X.K H e y -> RelV x u -> RelV y v -> SeqAt.EqAt A s u v (eqD d e) := by
 intro n
 induction n with
 | zero =>
  intro d e x y u v A hn hu h h' ru rv
  cases d with
  | t ds => unfold dep at hn; omega
  | l ds => unfold dep at hn; omega
  | v x' =>
   unfold IsD at h
   obtain ⟨fx, rfl⟩ := h
   cases e with
   | v y' => unfold IsD at h'; obtain ⟨fy, rfl⟩ := h'; unfold eqD; exact Ss ru rv fx fy
   | t es => unfold IsD at h'; obtain ⟨p, ys, rfl, hs, _⟩ := h'; cases rv; unfold eqD; exact (Dd I hs ru fx (by omega)).2
   | l es => unfold IsD at h'; obtain ⟨p, ys, rfl, hs, _⟩ := h'; cases rv; unfold eqD; exact (je I hs ru fx (by omega)).2
 | succ n ihn =>
  intro d e x y u v A hn hu h h' ru rv
  have hin : A.in1.units = A.units + 1 := rfl
  cases d with
  | v x' =>
   unfold IsD at h
   obtain ⟨fx, rfl⟩ := h
   cases e with
   | v y' => unfold IsD at h'; obtain ⟨fy, rfl⟩ := h'; unfold eqD; exact Ss ru rv fx fy
   | t es => unfold IsD at h'; obtain ⟨p, ys, rfl, hs, _⟩ := h'; cases rv; unfold eqD; exact (Dd I hs ru fx (by omega)).2
   | l es => unfold IsD at h'; obtain ⟨p, ys, rfl, hs, _⟩ := h'; cases rv; unfold eqD; exact (je I hs ru fx (by omega)).2
  | t ds =>
   have hd0 := h
   unfold IsD at h
   obtain ⟨p, xs, rfl, hs, hd⟩ := h
   cases ru
   unfold dep at hn
   cases e with
   | v y' => unfold IsD at h'; obtain ⟨fy, rfl⟩ := h'; unfold eqD; exact (Dd I hs rv fy (by omega)).1
   | t es =>
    have hd0' := h'
    unfold IsD at h'
    obtain ⟨q, ys, rfl, hs', hd'⟩ := h'
    cases rv
    unfold eqD
    by_cases hpq : p = q
    . subst hpq
      have e1 := zm I hd0 hd0'
      injection e1 with e1
      subst e1
      rw [ke hd]
      exact SeqAt.EqAt.same _
    . exact .of_refs hpq (zk I hs hs' hd hd' (by omega) fun d e x y u v hj h1 h2 r1 r2 => ihn d e x y u v A.in1 (by omega) (by omega) h1 h2 r1 r2).1
   | l es =>
    unfold IsD at h'
    obtain ⟨q, ys, rfl, hs', hd'⟩ := h'
    cases rv
    unfold eqD
    obtain ⟨_, _, lp, _⟩ := I.tuple hs
    obtain ⟨_, _, lq, _⟩ := I.list hs'
    exact SeqAt.EqAt.tuple_list lp lq.isList (by omega)
  | l ds =>
   have hd0 := h
   unfold IsD at h
   obtain ⟨p, xs, rfl, hs, hd⟩ := h
   cases ru
   unfold dep at hn
   cases e with
   | v y' => unfold IsD at h'; obtain ⟨fy, rfl⟩ := h'; unfold eqD; exact (je I hs rv fy (by omega)).1
   | l es =>
    have hd0' := h'
    unfold IsD at h'
    obtain ⟨q, ys, rfl, hs', hd'⟩ := h'
    cases rv
    unfold eqD
    by_cases hpq : p = q
    . subst hpq
      have e1 := zm I hd0 hd0'
      injection e1 with e1
      subst e1
      rw [ke hd]
      exact SeqAt.EqAt.same _
    . exact .of_refs hpq (Cn I hs hs' hd hd' (by omega) fun d e x y u v hj h1 h2 r1 r2 => ihn d e x y u v A.in1 (by omega) (by omega) h1 h2 r1 r2).1
   | t es =>
    unfold IsD at h'
    obtain ⟨q, ys, rfl, hs', hd'⟩ := h'
    cases rv
    unfold eqD
    obtain ⟨_, _, lp, _⟩ := I.list hs
    obtain ⟨_, _, lq, _⟩ := I.tuple hs'
    exact SeqAt.EqAt.list_tuple lp.isList lq (by omega)
def dw : D -> D -> Bool
 | .v _, .v _ => true
 | .t _, .t _ => true
 | .l _, .l _ => true
 | _, _ => false
def rEqD (K : PySem.W.Frag) (neg : Bool) : R2 := fun x y H Q => ∃ d e, dw d e = true /\ dep d <= 40 /\ IsD K H d x /\ IsD K H e y /\ Q (.bl (if neg then !eqD d e else eqD d e)) H
theorem rc_D (I : Inv X pins σ H s) {d e : D} {x y : V} {u v : Value} {A : Around} (hk : dw d e = true) (hn : dep d <= 40) (hu : A.units + 64 < cLine) (h : IsD X.K H d x) (h' : IsD X.K H e y) (ru : RelV x u) (rv : RelV y v) :
 SeqAt.RcAt A s u v (eqD d e) /\ SeqAt.RcNeAt A s u v (!eqD d e) := by
 have hin : A.in1.units = A.units + 1 := rfl
 cases d with
 | v x' =>
  cases e with
  | v y' => unfold IsD at h h'; obtain ⟨fx, rfl⟩ := h; obtain ⟨fy, rfl⟩ := h'; unfold eqD; exact jw ru rv fx fy
  | t es => cases hk
  | l es => cases hk
 | t ds =>
  cases e with
  | v y' => cases hk
  | l es => cases hk
  | t es =>
   unfold IsD at h h'
   obtain ⟨p, xs, rfl, hs, hd⟩ := h
   obtain ⟨q, ys, rfl, hs', hd'⟩ := h'
   cases ru
   cases rv
   unfold dep at hn
   unfold eqD
   exact zk I hs hs' hd hd' (by omega) fun d e x y u v hj h1 h2 r1 r2 => Gv I 40 d e x y u v A.in1 (by omega) (by omega) h1 h2 r1 r2
 | l ds =>
  cases e with
  | v y' => cases hk
  | t es => cases hk
  | l es =>
   unfold IsD at h h'
   obtain ⟨p, xs, rfl, hs, hd⟩ := h
   obtain ⟨q, ys, rfl, hs', hd'⟩ := h'
   cases ru
   cases rv
   unfold dep at hn
   unfold eqD
   exact Cn I hs hs' hd hd' (by omega) fun d e x y u v hj h1 h2 r1 r2 => Gv I 40 d e x y u v A.in1 (by omega) (by omega) h1 h2 r1 r2
end
section
variable {X : Cx}
theorem op_eqD (hu : X.A.units + 64 < cLine) : OpR X (compareOp .Eq) (rEqD X.K false) := by
 intro pins s σ H x y v u Q I rx ry h
 obtain ⟨d, e, hk, hn, h1, h2, q⟩ := h
 exact (rc_D I hk hn hu h1 h2 rx ry).1 _ _ _ _ ⟨.bl (eqD d e), H, I, rfl, q⟩
theorem op_neD (hu : X.A.units + 64 < cLine) : OpR X (compareOp .NotEq) (rEqD X.K true) := by
 intro pins s σ H x y v u Q I rx ry h
 obtain ⟨d, e, hk, hn, h1, h2, q⟩ := h
 exact (rc_D I hk hn hu h1 h2 rx ry).2 _ _ _ _ ⟨.bl (!eqD d e), H, I, rfl, q⟩
def iu (K : PySem.W.Frag) : R2 := fun x y H Q => rI0 (fun i j => .int (i + j)) x y H Q \/ rCat x y H Q \/ rCatT K x y H Q \/ (∃ i j, x = .str i /\ y = .str j /\ i.length + j.length <= sizeLine /\ Q (.str (i ++ j)) H)
theorem Ww : OpR X (binaryOp .Add) (iu X.K) := op_add.or (op_cat.or (Ir.or ui))
def Mw : R2 := fun x y H Q => rI og (fun i j => .int (i * j)) x y H Q \/ rRep x y H Q
theorem ub : OpR X (binaryOp .Mult) Mw := Uw.or op_rep
def rEqA (K : PySem.W.Frag) : R2 := fun x y H Q => rEq x y H Q \/ rEqD K false x y H Q
theorem op_eqA (hu : X.A.units + 64 < cLine) : OpR X (compareOp .Eq) (rEqA X.K) := op_eq.or (op_eqD hu)
def rNeA (K : PySem.W.Frag) : R2 := fun x y H Q => rNe x y H Q \/ rEqD K true x y H Q
theorem op_neA (hu : X.A.units + 64 < cLine) : OpR X (compareOp .NotEq) (rNeA X.K) := op_ne.or (op_neD hu)
def rIx2 (K : PySem.W.Frag) : R2 := fun x y H Q => rIxL K x y H Q \/ rIxT K x y H Q
theorem ix_2 : IxR X (rIx2 X.K) := ox.or ix_tup
end
section
variable {K : PySem.W.Frag} {H : Hp} {Q : VK} {v : V}
theorem r_addI {p q : Int} (h : Q (.int (p + q)) H) : iu K (.int p) (.int q) H Q := .inl (du h)
theorem r_addL {a b : Addr} {xs ys : List V} (h1 : H a = some (.lst xs)) (h2 : H b = some (.lst ys)) (h3 : xs.length + ys.length <= sizeLine) (h : ∀ p, H p = none -> Q (.ref p) (upd H p (.lst (xs ++ ys)))) : iu K (.ref a) (.ref b) H Q := .inr (.inl ⟨a, b, xs, ys, rfl, rfl, h1, h2, h3, h⟩)
theorem pf {p q : Int} (hc : og p q) (h : Q (.int (p * q)) H) : Mw (.int p) (.int q) H Q := .inl (r_rI hc h)
theorem r_eqI {p q : Int} (h : Q (.bl (decide (p = q))) H) : rEqA K (.int p) (.int q) H Q := .inl (r_rEqI h)
theorem r_neI {p q : Int} (h : Q (.bl (!decide (p = q))) H) : rNeA K (.int p) (.int q) H Q := .inl (r_rNeI h)
theorem r_eqB {p q : Bool} (h : Q (.bl (p == q)) H) : rEqA K (.bl p) (.bl q) H Q := .inl (r_rEqB h)
theorem r_neB {p q : Bool} (h : Q (.bl (p != q)) H) : rNeA K (.bl p) (.bl q) H Q := .inl (r_rNeB h)
theorem r_eqS {p q : Str} (h : Q (.bl (decide (p = q))) H) : rEqA K (.str p) (.str q) H Q := .inl (r_rEqS h)
theorem r_neS {p q : Str} (h : Q (.bl (!decide (p = q))) H) : rNeA K (.str p) (.str q) H Q := .inl (r_rNeS h)
theorem nv {x y : V} (d e : D) (hk : dw d e = true) (hn : dep d <= 40) (h1 : IsD K H d x) (h2 : IsD K H e y) (h : Q (.bl (!eqD d e)) H) : rNeA K x y H Q := .inr ⟨d, e, hk, hn, h1, h2, h⟩
theorem Ta {p : Addr} {xs : List V} {k : Int} (h1 : H p = some (.lst xs)) (h2 : atI xs k = some v) (h : Q v H) : rIx2 K (.ref p) (.int k) H Q := .inl (r_ixL h1 h2 h)
theorem Bc {p : Addr} {xs : List V} {k : Int} (h1 : H p = some (.tup xs)) (h2 : atI xs k = some v) (h : Q v H) : rIx2 K (.ref p) (.int k) H Q := .inr (r_ixT h1 h2 h)
end
def tTru (K : PySem.W.Frag) (ta : TE) : TT := fun σ H Q => ta σ H fun x H' => ∃ k, TruV K x H' k /\ Q k H'
theorem pt_tru {X : Cx} {a : Expr} {ta : TE} (ha : PE X a ta) (he : ∀ whole, isTrue a X.env whole = (do let v <- whole; standAt a.pos; holding [v] (truthy v)) := by intro _; first | rfl | with_unfolding_all rfl) : PT X a (tTru X.K ta) := ju ha he
section
variable {K : PySem.W.Frag} {H : Hp} {σ : St} {QB : Bool -> Hp -> Prop} {te : TE}
theorem r_tru (h : te σ H fun x H' => ∃ k, TruV K x H' k /\ QB k H') : tTru K te σ H QB := h
theorem r_truI {p : Int} {P : Bool -> Prop} (h : P (!decide (p = 0))) : ∃ k, TruV K (.int p) H k /\ P k := ⟨_, show _ = (p != 0) from rfl, by
 have e : (p != 0) = !decide (p = 0) := by by_cases z : p = 0 <;> simp [z]
 rw [e]; exact h⟩
theorem r_truB {b : Bool} {P : Bool -> Prop} (h : P b) : ∃ k, TruV K (.bl b) H k /\ P k := ⟨b, rfl, h⟩
theorem kv {p : Addr} {xs : List V} {P : Bool -> Prop} (h1 : H p = some (.lst xs)) (h : P (!xs.isEmpty)) : ∃ k, TruV K (.ref p) H k /\ P k := ⟨_, .inl ⟨xs, SqL.of h1, rfl⟩, h⟩
end
end L2
namespace L2
open PySem PySem.Spec PyProof.Rows
section
variable {H : Hp} {Q : VK}
theorem uw (h : Q (.int 1000000000000000000) H) : rI CPow (fun i j => .int (i ^ j.toNat)) (.int 10) (.int 18) H Q := ⟨10, 18, rfl, rfl, ⟨by decide, by decide, by decide⟩, h⟩
end
theorem Fj {H : Hp} {a b : Addr} {o u : HO} (h : H a = some o) (h' : H b = some u) (d : o ≠ u) : a ≠ b := ne_of h h' d
theorem Ji {xs ys : List V} : HO.tup xs ≠ HO.lst ys := fun h => HO.noConfusion h
theorem atI_in {α : Type} {xs : List α} {i : Int} (h0 : 0 <= i) (h1 : i < xs.length) : atI xs i = xs[i.toNat]? := by
 unfold atI ixN
 rw [if_pos h0, if_pos h1]; rfl
theorem Mu {ns : List Int} {i : Int} (h0 : 0 <= i) (h1 : i < ns.length) : atI (ns.map V.int) i = some (.int (ns.getD i.toNat 0)) := by
 rw [atI_in h0 (by rw [List.length_map]; exact h1), List.getElem?_map, List.getD_eq_getElem?_getD]
 have : i.toNat < ns.length := by omega
 rw [List.getElem?_eq_getElem this]; rfl
theorem up_mk {K : PySem.W.Frag} {h : Heap} {mg : Str -> Option Value} {x : Str} {st : Stmt} {ps : List Str} {f : Addr} {oc : Value} {od an : Option Addr} {osl : Array (Option Value)} {kV doc pm cdv ct : Value} (X : K.In h) (G : h.Ns mainGlobals mg)
 (a : PySem.W.nsIn K mainGlobals x = some (some (.ref f))) (l : K.lookup f = some ⟨oc, od, .func (PySem.W.fnOf x x (Ed st) (Ha st) (ya st) .none kV doc pm an cdv ct), osl⟩)
 (c : PySem.W.codeIn K cdv x = true) (k : PySem.W.keepIn K (.ref f) = true)
 (b : ∀ (kV doc pm : Value) (an : Option Addr) (cdv ct : Value) (us : List Value), us.length = ps.length -> bindArgs (PySem.W.fnOf x x (Ed st) (Ha st) (ya st) .none kV doc pm an cdv ct) ⟨us, []⟩ = pure (ps.zip us)) : Up K mg x st ps := by
 have F := fun_mk (x := x) (qual := x) (st := st) l c k
 exact ⟨f, _, F, PySem.W.mg_of X G a, F.binds b⟩
def rq (K : PySem.W.Frag) : Sp := fun vs H Q _ => ∃ (a : Addr) (ns : List Int), vs = [.ref a] /\ SqL K H a (ns.map V.int) /\ ns.length <= 63 /\ ∀ H', Q (.bl true) H'
theorem oq {K : PySem.W.Frag} {vs : List V} {H : Hp} {Q : VK} {E : XK} (h : rq K vs H Q E) : vs.length = 1 := by
 obtain ⟨a, ns, rfl, _⟩ := h; rfl
theorem walkC {l : PySem.W.OpenLaw} {k : Nat} {q : Program} {loose : List Str} {XP : (Str -> Option Value) -> Heap -> Prop} {YP : World -> Heap -> Prop} {d : DefRec} {K : Params -> PySem.W.Frag} {x : Str} (hn : l.most = some 63) (hdf : d.params.defaults = []) (hr : Room k callerA)
 (hY : ∀ (w : World) (h : Heap), YP w h -> (K w.params).In h)
 (F : ∀ (w : World) (mg : Str -> Option Value) (fa : Addr) (h : Heap), (K w.params).In h -> h.Ns mainGlobals mg -> mg d.name = some (.ref fa) ->
   ∃ fd : FuncData, (∀ (s : Shared) (u : Value), BindsTo s fd ⟨[u], []⟩ [(x, u)]) /\ ∀ base : Heap, (K w.params).In base -> base.Ns mainGlobals mg -> FnOk l.prog w (K w.params) mg base CX0 k fa fd [x] (rq (K w.params))) :
 PySem.W.WalkO q loose XP YP l.row.toRowW d [] (fun f vs => PySem.call f vs) :=
 L2.Nv (n := 63) (k := k) (x := x) (CX := fun _ => CX0) (sp := fun w => rq (K w.params)) hn (by decide) hdf hr hY F (fun _ _ a ns hl _ hS => ⟨a, ns, rfl, hS, hl, fun _ => rfl⟩) fun _ _ _ _ _ z => z
theorem law_fn {P : Program} {w : World} {K : PySem.W.Frag} {mg : Str -> Option Value} {fa : Addr} {k : Nat} {x p : Str} {st : Stmt} (U : Up K mg x st [p]) (hfa : mg x = some (.ref fa)) {sp : Sp}
 (C : ∀ base : Heap, K.In base -> base.Ns mainGlobals mg -> ∀ (f : Addr) (fd : FuncData), Fun K x x st f fd -> FnOk P w K mg base CX0 k f fd [p] sp)
 (hb : ∀ (kV doc pm : Value) (an : Option Addr) (cdv ct : Value) (s : Shared) (u : Value), BindsTo s (PySem.W.fnOf x x (Ed st) (Ha st) (ya st) .none kV doc pm an cdv ct) ⟨[u], []⟩ [(p, u)]) :
 ∃ fd : FuncData, (∀ (s : Shared) (u : Value), BindsTo s fd ⟨[u], []⟩ [(p, u)]) /\ ∀ base : Heap, K.In base -> base.Ns mainGlobals mg -> FnOk P w K mg base CX0 k fa fd [p] sp := by
 obtain ⟨f, fd, F, hm, _⟩ := U.ex
 have e := hfa.symm.trans hm
 cases e
 refine ⟨fd, fun s u => ?_, fun base kb nb => C base kb nb _ fd F⟩
 obtain ⟨oc, od, kV, doc, pm, an, cdv, ct, osl, rfl, _⟩ := F.ex
 exact hb kV doc pm an cdv ct s u
end L2
namespace HT
open PySem PyProof.Rows
def lexLe : List Int -> List Int -> Bool
 | [], _ => true
 | _ :: _, [] => false
 | x :: xs, y :: ys => if x = y then lexLe xs ys else decide (x <= y)
theorem Yo (x y : Int) (xs ys : List Int) : lexLe (x :: xs) (y :: ys) = if x = y then lexLe xs ys else decide (x <= y) := rfl
theorem Ds (ys : List Int) : lexLe [] ys = true := by cases ys <;> rfl
theorem Xh (x : Int) (xs : List Int) : lexLe (x :: xs) [] = false := rfl
theorem Zt (A : Around) (s : Shared) (a : Int) (t : Tok) (c : Int) (u : Tok) (prog : Program) (w : World) (E : Value -> Shared -> Prop) (Q : Value -> Shared -> Prop) (h : Q (.bool (decide (a <= c))) s) :
 wpAny (model prog w) A (richCompare .LtE (.int a t) (.int c u)) Q E s :=
 (PyProof.Rows.le_int h : wpAny (model prog w) A (compareOp .LtE (.int a t) (.int c u)) Q E s)
section
open PySem.SeqAt
open PySem.AutoSeq1 (wpAny_loadPart')
open PySem.MeetsSeq PySem.MeetsSeq2 PySem.MeetsSeq3
theorem Ii (l b : Addr) (items items2 : Array Value) (n n2 : Nat) (dd dd2 : Option Addr) (sl sl2 : Array (Option Value)) (ns ms : List Int) (hi : IntsAre items.toList ns) (hj : IntsAre items2.toList ms) :
 Meets (Builtin.«tuple.__le__» ⟨[.ref l, .ref b], []⟩)
  (fun _ R s => s.heap.get? l = some { cls := .type "tuple", dict := dd, data := .seq items n, slots := sl } /\ s.heap.get? b = some { cls := .type "tuple", dict := dd2, data := .seq items2 n2, slots := sl2 } /\
    R (.ok (.ret (.bool (lexLe ns ms)))) s) :=
 .of_wp fun prog w A R s h => by
  obtain ⟨hp, g, d, tk, os⟩ := s; obtain ⟨hl, hb, h⟩ := h
  have f2 := AutoSeq1.sub_tuple_tuple
  have z1 : items.size = ns.length := by rw [<- hi.length]; simp
  have z2 : items2.size = ms.length := by rw [<- hj.length]; simp
  wp_walk using wpAny_loadPart' hl, wpAny_loadPart' hb, wpAny_forIn_list _ (fun rest b s' => b.1 = none /\ s' = ⟨hp, g, d, tk, os⟩ /\ ∃ (vs ws : List Value) (ns' ms' : List Int), rest = vs.zip ws /\
   IntsAre vs ns' /\ IntsAre ws ms' /\ ns'.length + items2.size = ms'.length + items.size /\ R (.ok (.ret (.bool (lexLe ns' ms')))) ⟨hp, g, d, tk, os⟩) _
  case turn =>
   rintro ⟨y, x⟩ rest b s' ⟨hb', rfl, vs, ws, ns', ms', hz, hvi, hwi, hlen, hR⟩
   cases hvi with
   | nil => rw [List.zip_nil_left] at hz; cases hz
   | cons a t hvi' =>
    cases hwi with
    | nil => rw [List.zip_nil_right] at hz; cases hz
    | cons c u hwi' =>
     rw [List.zip_cons_cons] at hz
     injection hz with hyx hrest
     injection hyx with hy hx
     subst hy hx
     rw [Yo] at hR
     simp only [List.length_cons] at hlen
     obtain ⟨e, he, hiff⟩ := ao A.in1 ⟨hp, g, d, tk, os⟩ a t c u
     refine wpAny_bind (he prog w _ _ ?_)
     cases e with
     | true =>
      rw [if_pos (hiff.mp rfl)] at hR
      wp_walk
      exact ⟨rfl, rfl, _, _, _, _, hrest, hvi', hwi', by omega, hR⟩
     | false =>
      rw [if_neg (fun q => absurd (hiff.mpr q) Bool.false_ne_true)] at hR
      have hri := Zt A.in1 ⟨hp, g, d, tk, os⟩ a t c u prog w
      wp_walk using hri
      exact ⟨_, rfl, by simpa using hR⟩
  case fin =>
   rintro ⟨b1, b2⟩ s' ⟨hb', rfl, vs, ws, ns', ms', hz, hvi, hwi, hlen, hR⟩
   simp only at hb'
   subst hb'
   have hv : lexLe ns' ms' = decide (items.size <= items2.size) := by
    cases hvi with
    | nil =>
     rw [Ds]
     simp only [List.length_nil] at hlen
     exact (decide_eq_true (by omega)).symm
    | cons a t hv =>
     cases hwi with
     | nil =>
      simp only [List.length_nil, List.length_cons] at hlen
      rw [Xh]
      exact (decide_eq_false (by omega)).symm
     | cons c u hw =>
      rw [List.zip_cons_cons] at hz
      cases hz
   rw [hv] at hR
   wp_walk
   exact ⟨_, rfl, by simpa [Builtin.Tuple.tupleCompareSizes] using hR⟩
  case h =>
   exact ⟨rfl, rfl, items.toList, items2.toList, ns, ms, rfl, hi, hj, by omega, h⟩
end
section
variable {prog : Program} {w : World} {A : Around} {E : Value -> Shared -> Prop} {s : Shared}
theorem Zo {l b : Addr} {items items2 : Array Value} {ns ms : List Int} {Q : Value -> Shared -> Prop} (hl : IsTup s.heap l items) (hb : IsTup s.heap b items2) (hi : IntsAre items.toList ns) (hj : IntsAre items2.toList ms)
 (hu : A.units < cLine) (h : Q (.bool (lexLe ns ms)) s) : wpAny (model prog w) A (compareOp .LtE (.ref l) (.ref b)) Q E s := by
 obtain ⟨⟨cls, dd, data, sl⟩, ho, hc, n, hd⟩ := id hl
 obtain ⟨⟨cls2, dd2, data2, sl2⟩, ho2, hc2, n2, hd2⟩ := id hb
 simp only at hc hd hc2 hd2
 subst hc hd hc2 hd2
 exact richCompare_meets_room (op := .LtE) ⟨_, ho, rfl⟩ ⟨_, ho2, rfl⟩ PySem.F.slot_tuple_le PySem.F.entry_tuple_le (PySem.F.args_tuple_le_2 _ _) (Ii l b items items2 n n2 dd dd2 sl sl2 ns ms hi hj)
  ⟨ho, ho2, show Value.bool (lexLe ns ms) ≠ Value.notImplemented /\ Q (.bool (lexLe ns ms)) s from ⟨(fun x => nomatch x), h⟩⟩ hu
end
end HT
namespace L2
open PySem PySem.Spec PyProof.Rows
section
variable {X : Cx}
def rLeT (K : PySem.W.Frag) : R2 := fun x y H Q => ∃ a b ns ms, x = .ref a /\ y = .ref b /\ SqT K H a (ns.map V.int) /\ SqT K H b (ms.map V.int) /\ Q (.bl (HT.lexLe ns ms)) H
theorem op_leT (hu : X.A.units < cLine) : OpR X (compareOp .LtE) (rLeT X.K) := by
 intro pins s σ H x y v u Q I rx ry h
 obtain ⟨a, b, ns, ms, rfl, rfl, ha, hb, q⟩ := h
 cases rx
 cases ry
 obtain ⟨its, r1, p1, _⟩ := I.tuple ha
 obtain ⟨its2, r2, p2, _⟩ := I.tuple hb
 have i1 : IntsAre its.toArray.toList ns := intsAre_of r1
 have i2 : IntsAre its2.toArray.toList ms := intsAre_of r2
 exact HT.Zo p1 p2 i1 i2 hu ⟨.bl (HT.lexLe ns ms), H, I, rfl, q⟩
theorem hu0 (hu : X.A.units + 64 < cLine) : X.A.units < cLine := by omega
def rLeA (K : PySem.W.Frag) : R2 := fun x y H Q => rI0 (fun i j => .bl (decide (i <= j))) x y H Q \/ rLeT K x y H Q
theorem op_leA (hu : X.A.units + 64 < cLine) : OpR X (compareOp .LtE) (rLeA X.K) := op_le.or (op_leT (hu0 hu))
def rLtA (K : PySem.W.Frag) : R2 := fun x y H Q => rI0 (fun i j => .bl (decide (i < j))) x y H Q \/ rLtT K x y H Q
theorem op_ltA (hu : X.A.units + 64 < cLine) : OpR X (compareOp .Lt) (rLtA X.K) := op_lt.or (op_ltT (hu0 hu))
def Nw : R2 := fun x y H Q => y = .non /\ Q (.bl (decide (x = .non))) H
theorem wj : OpR X (compareOp .Is) Nw := op_isN
end
section
variable {K : PySem.W.Frag} {H : Hp} {Q : VK}
theorem r_leI {p q : Int} (h : Q (.bl (decide (p <= q))) H) : rLeA K (.int p) (.int q) H Q := .inl (du h)
theorem r_ltI {p q : Int} (h : Q (.bl (decide (p < q))) H) : rLtA K (.int p) (.int q) H Q := .inl (du h)
theorem Bw (h : Q (.bl true) H) : Nw .non .non H Q := ⟨rfl, h⟩
theorem Aw {a : Addr} (h : Q (.bl false) H) : Nw (.ref a) .non H Q := ⟨rfl, h⟩
end
end L2
namespace L2
open PySem PySem.Spec PyProof.Rows
def cxIn (X : Cx) (scope : Scope) (cl : List (Str × Addr)) (C : Addr) (N : List Str) (s₀ : Shared) (H₀ : Hp) (ex : List Addr) : Cx :=
 { X with env := compEnvC scope cl C X.env, N := N, s₀ := s₀, H₀ := H₀, outer := X.stack, stack := X.stack, ex := ex, fn := fun x => scope.names.lookup x == some .cell, pn := [], xe := fun _ _ => False }
def PTs (X : Cx) (ifs : List Expr) (t : TT) : Prop :=
 ∀ (pins : List (Addr × Obj)) (s : Shared) (σ : St) (H : Hp) (Q : Bool -> Hp -> Prop), Inv X pins σ H s -> t σ H Q ->
  wpAny (model X.prog X.w) X.A (forIn ifs true fun c r => if r = true then do let ok <- isTrue c X.env (eval c X.env); pure (ForInStep.yield ok) else pure (ForInStep.yield r)) (TP X pins σ Q) X.xe s
def tYes : TT := fun _ H Q => Q true H
theorem Lb {X : Cx} : PTs X [] tYes := fun _ _ _ H _ I h => wpAny_tests_nil ⟨H, I, h⟩
theorem Vd {X : Cx} {c : Expr} {t : TT} (hc : PT X c t) : PTs X [c] t := fun pins s σ H Q I h => wpAny_tests_one (hc pins s σ H Q I h)
def ng (X : Cx) (env' : Env) : List Str -> List Nat -> Prop
 | [], [] => True
 | x :: xs, j :: js => (X.N[j]? = some x /\ Vis X.env.scope x /\ X.env.kindOf x ≠ some .local /\ (env'.kindOf x = some .cell \/ env'.kindOf x = some .free) /\ env'.cells.lookup x = X.env.cells.lookup x) /\ ng X env' xs js
 | _, _ => False
theorem ng.len {X : Cx} {e : Env} : ∀ {xs : List Str} {js : List Nat}, ng X e xs js -> xs.length = js.length
 | [], [], _ => rfl
 | _ :: _, _ :: _, ⟨_, h⟩ => by rw [List.length_cons, List.length_cons, ng.len h]
 | [], _ :: _, h => h.elim
 | _ :: _, [], h => h.elim
theorem ng.get {X : Cx} {e : Env} : ∀ {xs : List Str} {js : List Nat} {i : Nat} {x : Str}, ng X e xs js -> xs[i]? = some x -> ∃ j, js[i]? = some j /\ X.N[j]? = some x /\ Vis X.env.scope x /\ X.env.kindOf x ≠ some .local /\ (e.kindOf x = some .cell \/ e.kindOf x = some .free) /\ e.cells.lookup x = X.env.cells.lookup x
 | [], [], i, x, _, h => by simp at h
 | y :: xs, j :: js, 0, x, ⟨h1, _⟩, h => by simp at h; subst h; exact ⟨j, by simp, h1⟩
 | y :: xs, j :: js, i + 1, x, ⟨_, h2⟩, h => by
  obtain ⟨k, a, b⟩ := ng.get (i := i) (x := x) h2 (by simpa using h)
  exact ⟨k, by simpa using a, b⟩
 | [], _ :: _, _, _, h, _ => h.elim
 | _ :: _, [], _, _, h, _ => h.elim
def cap (σ : St) (js : List Nat) (nt : Nat) : St := js.map (fun j => σ.getD j none) ++ List.replicate nt none
def Hh (js : List Nat) (nt : Nat) (wi : TI) (g : TG) (tt : TT) (te : TE) : TE := fun σ H Q => wi σ H fun J H1 => ∃ W : Nat -> Nat -> List V -> St -> Hp -> Prop, (∃ m, W 0 m [] (cap σ js nt) H1) /\
 ∀ i m ys σ' H', W i m ys σ' H' -> ys.length < sizeLine /\ ((J.stop i H' /\ ∀ D, H' D = none -> Q (.ref D) (upd H' D (.lst ys))) \/
  (J.go i H' /\ ∃ N : List V -> St -> Hp -> Prop, (∀ ys σ' H', N ys σ' H' -> ∃ m', m' < m /\ W (i + 1) m' ys σ' H') /\ ∀ x H2, J.yld i H' x H2 -> g x σ' H2 fun σ3 H3 => tt σ3 H3 fun ok H4 => if ok = true then te σ3 H4 fun y H5 => N (ys ++ [y]) σ3 H5 else N ys σ3 H4))
theorem jc {prog : Program} {w : World} {A : Around} {R : Result -> Shared -> Prop} {s : Shared} {elt target iter : Expr} {ifs : List Expr} {scope : Scope} {pos : Pos} {it acc : Value} {env : Env} (I : Nat -> Shared -> Prop)
 (turn : ∀ n s, I n s -> wpAny (model prog w) A (pyNext it) (fun r s₁ => match r with
   | none => R (.ok .next) s₁
   | some v => wpAny (model prog w) A (letOwnedTupleGo target it v) (fun _ s₁' => wpAny (model prog w) A (assign target env v) (fun _ s₂ =>
    wpAny (model prog w) A (forIn ifs true fun c r => if r = true then do let ok <- isTrue c env (eval c env); pure (ForInStep.yield ok) else pure (ForInStep.yield r)) (fun ok s₃ =>
     if ok = true then wpAny (model prog w) A (eval elt env) (fun x s₄ =>
      wpAny (model prog w) A (call (.builtin "list.append") [acc, x]) (fun _ s₅ => ∃ m, m < n /\ I m s₅) (notedBy (model prog w) A env fun e s' => R (.error e) s') s₄) (notedBy (model prog w) A env fun e s' => R (.error e) s') s₃
     else ∃ m, m < n /\ I m s₃) (notedBy (model prog w) A env fun e s' => R (.error e) s') s₂) (notedBy (model prog w) A env fun e s' => R (.error e) s') s₁') (notedBy (model prog w) A env fun e s' => R (.error e) s') s₁) (notedBy (model prog w) A env fun e s' => R (.error e) s') s)
 (n : Nat) (h : I n s) :
 codeAny (model prog w) A (.compLoop (.ListComp elt [⟨target, iter, ifs, 0⟩] scope pos) 0 it acc env) R s := by
 refine codeAny_loop rfl I (fun n s hI => ?_) n h
 show wpAny _ A ((compTurn (.ListComp elt [⟨target, iter, ifs, 0⟩] scope pos) 0 it acc env).onRaise (fun x => do noteFrame x env; theTreesLotGoes x)) _ _ s
 refine wpAny_noted ?_
 rw [compTurn_list]
 refine wpAny_bind (wpAny_standAt (wpAny_bind (wpAny_mono (turn n s hI) (fun r s₁ h₁ => ?_) fun _ _ h' => h')))
 cases r with
 | none => exact wpAny_pure h₁
 | some v =>
  refine wpAny_bind (wpAny_mono h₁ (fun _ s₁' h₁' => ?_) fun _ _ h' => h')
  refine wpAny_bind (wpAny_mono h₁' (fun _ s₂ h₂ => wpAny_bind (wpAny_mono h₂ (fun ok s₃ h₃ => ?_) fun _ _ h' => h')) fun _ _ h' => h')
  cases ok with
  | false => exact wpAny_pure ⟨rfl, h₃⟩
  | true =>
   exact wpAny_bind (wpAny_bind (wpAny_mono h₃ (fun x s₄ h₄ => wpAny_bind (wpAny_mono h₄ (fun _ s₅ h₅ => wpAny_pure (wpAny_pure ⟨rfl, h₅⟩)) fun _ _ h' => h')) fun _ _ h' => h'))
section
variable {X : Cx} {pins : List (Addr × Obj)} {σ : St} {H H' : Hp} {s : Shared}
theorem HOk.Qv {P : Program} {w : World} {h : Heap} {a : Addr} {o : HO} (x : HOk P w H h) (hn : H a = none) (new : Hc P w (upd H a o) h a o) : HOk P w (upd H a o) h := fun b u e => by
 by_cases hb : b = a
 . subst hb; rw [ja] at e; cases e; exact new
 . rw [La hb] at e
   exact (x b u e).stay (fun c v _ q => q) (fun c q => by rw [La (oa q hn)]; exact q) fun c xs q => by rw [La (oa q hn)]; exact q
theorem HOk.other {P : Program} {w : World} {h h' : Heap} {C : Addr} (x : HOk P w H h) (hn : H C = none) (k : ∀ b o, b ≠ C -> h.get? b = some o -> h'.get? b = some o) : HOk P w H h' := fun b u e =>
 (x b u e).stay (fun c v hc q => k c v (by
  rintro rfl
  rcases hc with rfl | hc
  . rw [hn] at e; cases e
  . rw [hn] at hc; cases hc) q) (fun _ q => q) fun _ _ q => q
theorem He : ∀ {names : List (Str × NameKind)} {n : Nat} {acc : List (Str × Addr)}, (∀ y ∈ names, y.2 ≠ .cell) -> cellsFrom n names acc = acc
 | [], _, _, _ => rfl
 | (x, k) :: r, n, acc, h => by
  unfold cellsFrom
  rw [if_neg (by simpa using h (x, k) List.mem_cons_self)]
  exact He fun y hy => h y (List.mem_cons_of_mem _ hy)
theorem xh : ∀ (names : List (Str × NameKind)) (h : Heap) (acc : List (Str × Addr)) (x : Str) (c : Addr), (cellsFrom h.objs.size names acc).lookup x = some c -> acc.lookup x = some c \/ ((pushCells h names).IsCell c none /\ h.objs.size <= c)
 | [], _, _, _, _, e => .inl e
 | (y, k) :: r, h, acc, x, c, e => by
  unfold cellsFrom at e
  unfold pushCells
  split at e
  . rename_i hk
    rw [if_pos hk]
    have e' : (cellsFrom (h.push { cls := .type "cell", data := .cell none }).objs.size r ((y, h.objs.size) :: acc)).lookup x = some c := by rw [Heap.size_push]; exact e
    rcases xh r _ _ x c e' with z | ⟨z1, z2⟩
    . rw [List.lookup_cons] at z
      split at z
      . cases z
        exact .inr ⟨⟨_, pushCells_keeps _ _ _ _ (Heap.get?_push_size _ rfl), rfl⟩, Nat.le_refl _⟩
      . exact .inl z
    . rw [Heap.size_push] at z2
      exact .inr ⟨z1, Nat.le_of_succ_le z2⟩
  . rename_i hk
    rw [if_neg hk]
    exact xh r h acc x c e
theorem yh : ∀ (names : List (Str × NameKind)) (n : Nat) (acc : List (Str × Addr)), (∀ x y c, acc.lookup x = some c -> acc.lookup y = some c -> x = y) -> (∀ x c, acc.lookup x = some c -> c < n) -> ∀ x y c, (cellsFrom n names acc).lookup x = some c -> (cellsFrom n names acc).lookup y = some c -> x = y
 | [], _, _, h, _ => h
 | (z, k) :: r, n, acc, h, hl => by
  unfold cellsFrom
  split
  . refine yh r (n + 1) _ (fun x y c e1 e2 => ?_) fun x c e => ?_
    . rw [List.lookup_cons] at e1 e2
      split at e1 <;> split at e2
      . rename_i _ a _ b; rw [beq_iff_eq.mp a, beq_iff_eq.mp b]
      . cases e1; exact absurd (hl _ _ e2) (Nat.lt_irrefl _)
      . cases e2; exact absurd (hl _ _ e1) (Nat.lt_irrefl _)
      . exact h x y c e1 e2
    . rw [List.lookup_cons] at e
      split at e
      . cases e; exact Nat.lt_succ_self _
      . exact Nat.lt_succ_of_lt (hl x c e)
  . exact yh r n acc h hl
theorem qo {x : Str} {lo : Nat} : ∀ (names : List (Str × NameKind)) (n : Nat) (acc : List (Str × Addr)), lo <= n -> ((∀ c, acc.lookup x = some c -> lo <= c) \/ names.lookup x = some .cell) -> ∀ c, (cellsFrom n names acc).lookup x = some c -> lo <= c
 | [], _, _, _, h => h.elim id fun z => nomatch z
 | (z, k) :: r, n, acc, hl, h => by
  have h2 : ∀ acc' : List (Str × Addr), (∀ c, acc'.lookup x = some c -> lo <= c) \/ r.lookup x = some .cell -> ∀ m, lo <= m -> ∀ c, (cellsFrom m r acc').lookup x = some c -> lo <= c := fun acc' q m hm => qo r m acc' hm q
  unfold cellsFrom
  rw [List.lookup_cons] at h
  split
  . refine h2 _ ?_ _ (Nat.le_succ_of_le hl)
    by_cases hx : x == z
    . refine .inl fun c e => ?_
      rw [List.lookup_cons, hx] at e
      cases e; exact hl
    . simp only [hx] at h
      refine h.imp (fun q c e => ?_) id
      rw [List.lookup_cons] at e
      simp only [hx] at e
      exact q c e
  . rename_i hk
    refine h2 _ ?_ _ hl
    by_cases hx : x == z
    . simp only [hx] at h
      refine .inl (h.elim id fun q => absurd q ?_)
      intro e
      rw [Option.some.inj e] at hk
      exact hk rfl
    . simp only [hx] at h
      exact h
theorem df {M : Model} {A : Around} {E : Value -> Shared -> Prop} {s : Shared} {scope : Scope} {g : Addr} {cl : List (Str × Addr)} {q : Str} {env : Env} {Q : Env -> Shared -> Prop}
 (h : Q { scope, locals := s.heap.objs.size, globals := g, cells := cellsFrom (s.heap.objs.size + 1) scope.names cl, qual := q, func := none, code := env.code, frame := env.frame, builtins := env.builtins }
   { s with heap := pushCells (s.heap.push { cls := .type "dict", data := .dict #[] }) scope.names }) : wpAny M A (newFunctionEnv scope g cl [] q none .none (some env)) Q E s := by
 simp only [newFunctionEnv, Option.isSome_some, if_true]
 refine wpAny_bind (wpAny_alloc (wpAny_bind (wpAny_layCells _ (fun name kind cells => by cases hkc : kind == NameKind.cell <;> simp [hkc]) _ _ _ _ ?_)))
 rw [show ({ s with heap := s.heap.push { cls := .type "dict", data := .dict #[] } } : Shared).heap.objs.size = s.heap.objs.size + 1 from Heap.size_push ..]
 refine wpAny_bind ?_
 rw [List.forIn_nil]
 exact wpAny_pure (wpAny_pure h)
theorem Xs {scope : Scope} {cl : List (Str × Addr)} {C : Addr} {N : List Str} {s₀ : Shared} {ex : List Addr} (I : Inv X pins σ H s₀) (hC : C = s₀.heap.objs.size) (hkind : scope.kind = .function)
 (hinj : ∀ x y c, cl.lookup x = some c -> cl.lookup y = some c -> x = y) (hcl : ∀ x c, cl.lookup x = some c -> X.env.cells.lookup x = some c \/ s₀.heap.objs.size <= c) (hcab : ∀ x c, scope.names.lookup x = some .cell -> cl.lookup x = some c -> s₀.heap.objs.size <= c) (hhas : ∀ x, ((compEnvC scope cl C X.env).kindOf x = some .cell \/ (compEnvC scope cl C X.env).kindOf x = some .free) -> ∃ c, cl.lookup x = some c)
 (hex : ∀ b ∈ ex, b < s₀.heap.objs.size /\ b ∉ frs X.stack /\ (∀ x c, X.env.cells.lookup x = some c -> c ≠ b) /\ X.base.get? b = none) : (cxIn X scope cl C N s₀ H ex).Ok := by
 refine ⟨I.ok.mod, hkind, I.ok.glob, I.ok.blt, ?_, hinj, hhas, fun x c h => hcab x c (beq_iff_eq.mp h), I.ok.hd, I.ok.frames, .inl rfl, fun b hb => ⟨?_, fun x c h => ?_⟩, I.bs, Nat.le_trans I.ok.bsz I.sz, fun b o e hb => ?_, fun b hb => (hex b hb).2.1, I.stack, I.Lp⟩
 . show s₀.heap.objs.size <= C
   rw [hC]; exact Nat.le_refl _
 . show b ≠ C
   rw [hC]; exact Nat.ne_of_lt (hex b hb).1
 . rcases hcl x c h with z | z
   . exact (hex b hb).2.2.1 x c z
   . exact fun e => absurd (Nat.lt_of_lt_of_le (hex b hb).1 (e ▸ z)) (Nat.lt_irrefl _)
 . have e' : X.base.get? b = some o := e
   rw [(hex b hb).2.2.2] at e'; cases e'
theorem et (σ : St) (js : List Nat) (nt : Nat) : (cap σ js nt).length = js.length + nt := by
 unfold cap; rw [List.length_append, List.length_map, List.length_replicate]
theorem ot {σ : St} {js : List Nat} {nt i : Nat} {v : V} (h : (cap σ js nt)[i]? = some (some v)) : ∃ j, js[i]? = some j /\ σ[j]? = some (some v) := by
 unfold cap at h
 by_cases hi : i < js.length
 . rw [List.getElem?_append_left (by rw [List.length_map]; exact hi), List.getElem?_map] at h
   obtain ⟨j, hj⟩ : ∃ j, js[i]? = some j := ⟨_, List.getElem?_eq_getElem hi⟩
   rw [hj] at h
   refine ⟨j, hj, ?_⟩
   have e : σ.getD j none = some v := Option.some.inj h
   rw [List.getD_eq_getElem?_getD] at e
   cases q : σ[j]? with
   | none => rw [q] at e; cases e
   | some z => rw [q] at e; have : z = some v := e; rw [this]
 . rw [List.getElem?_append_right (by rw [List.length_map]; omega), List.getElem?_replicate] at h
   split at h <;> cases h
end
theorem Pn {X : Cx} {elt tg iter : Expr} {ifs : List Expr} {scope : Scope} {pos : Pos} {cl : List (Str × Addr)} {cs : Addr -> List (Str × Addr)} {cN tN : List Str} {js : List Nat} {wi : TI} {g : TG} {tt : TT} {te : TE}
 (hc : X.calm = true) (hi : PI X tg iter wi)
 (hclos : closureFor scope X.env = pure cl) (hcs : ∀ C, cellsFrom (C + 1) scope.names cl = cs C) (hkind : scope.kind = .function) (hnames : ∀ y ∈ scope.names, y.2 = .local -> scope.names.lookup y.1 = some .local)
 (hcl : ∀ p ∈ cl, X.env.cells.lookup p.1 = some p.2) (hhas : ∀ C x, ((compEnvC scope (cs C) C X.env).kindOf x = some .cell \/ (compEnvC scope (cs C) C X.env).kindOf x = some .free) -> ∃ c, (cs C).lookup x = some c)
 (hcap : ∀ C, ng X (compEnvC scope (cs C) C X.env) cN js)
 (hg : ∀ C s₀ H₀ ex, PG (cxIn X scope (cs C) C (cN ++ tN) s₀ H₀ ex) tg g) (ht : ∀ C s₀ H₀ ex, PTs (cxIn X scope (cs C) C (cN ++ tN) s₀ H₀ ex) ifs tt) (he : ∀ C s₀ H₀ ex, PE (cxIn X scope (cs C) C (cN ++ tN) s₀ H₀ ex) elt te)
 (hs : ∀ x, foldedSetIterable iter X.env x = pure x := by intro _; first | rfl | with_unfolding_all rfl) :
 PE X (.ListComp elt [⟨tg, iter, ifs, 0⟩] scope pos) (Hh js tN.length wi g tt te) := by
 intro pins s σ H Q I h
 rw [eval_ListComp]
 refine wpAny_comprehension_free (use := none) rfl hs hclos hkind hnames (thn (hi pins s σ H _ I h) fun v s1 h1 => thn h1 fun itv s2 h2 => ?_)
 obtain ⟨it, fp, tn, J, H2, e, I2, T, st2, f2, W, ⟨m0, w0⟩, turn⟩ := h2
 subst e
 refine wpAny_newObj_type (df ?_)
 dsimp only
 generalize hH3 : s2.heap.push { cls := .type "list", dict := none, data := .seq ([] : List Value).toArray } = h3
 rw [hcs]
 have hns4 : (pushCells (h3.push { cls := .type "dict", data := .dict #[] }) scope.names).Ns h3.objs.size fun _ => none := (Heap.Ns.new h3 (.type "dict")).keeps (pushCells_keeps _ _)
 have hnew : ∀ x c, (cs h3.objs.size).lookup x = some c -> cl.lookup x = some c \/ ((pushCells (h3.push { cls := .type "dict", data := .dict #[] }) scope.names).IsCell c none /\ h3.objs.size + 1 <= c) := fun x c e => by
  have := xh scope.names (h3.push { cls := .type "dict", data := .dict #[] }) cl x c (by rw [Heap.size_push, hcs]; exact e)
  rw [Heap.size_push] at this; exact this
 have up4 : ∀ b o, h3.get? b = some o -> (pushCells (h3.push { cls := .type "dict", data := .dict #[] }) scope.names).get? b = some o := fun b o q => pushCells_keeps _ _ _ _ (Heap.get?_push_of_some _ q)
 generalize pushCells (h3.push { cls := .type "dict", data := .dict #[] }) scope.names = h4 at hns4 hnew up4 ⊢
 have hD : h3.get? s2.heap.objs.size = some { cls := .type "list", data := .seq ([] : List Value).toArray } := by rw [<- hH3]; exact Heap.get?_push_size _ rfl
 have up3 : ∀ b o, s2.heap.get? b = some o -> h3.get? b = some o := fun b o q => by rw [<- hH3]; exact Heap.get?_push_of_some _ q
 have sz3 : h3.objs.size = s2.heap.objs.size + 1 := by rw [<- hH3, Heap.size_push]
 have I3 : Inv X pins σ H2 { s2 with heap := h3 } := I2.kept (t' := s2.toks) up3
 have hDC : s2.heap.objs.size ≠ h3.objs.size := by rw [sz3]; exact Nat.ne_of_lt (Nat.lt_succ_self _)
 have hfpx : ∀ b ∈ s2.heap.objs.size :: fp, b < h3.objs.size /\ b ∉ frs X.stack /\ (∀ x c, X.env.cells.lookup x = some c -> c ≠ b) /\ X.base.get? b = none := fun b hb => by
  rcases List.mem_cons.mp hb with rfl | hb
  . refine ⟨by rw [sz3]; exact Nat.lt_succ_self _, fun z => ?_, fun x c q z => ?_, ?_⟩
    . rcases List.mem_cons.mp (I2.di _ z) with y | y
      . exact absurd (Nat.lt_of_lt_of_eq I2.lt y) (Nat.lt_irrefl _)
      . exact I2.nofs (Nat.le_refl _) y
    . obtain ⟨v, r⟩ := I2.cell x c q
      exact absurd (Nat.lt_of_lt_of_eq r.lt z.symm) (Nat.lt_irrefl _)
    . cases q : X.base.get? s2.heap.objs.size with
      | none => rfl
      | some o => exact absurd (Heap.lt_size (I2.bk _ o q)) (Nat.lt_irrefl _)
  . obtain ⟨f0, f1, f3, f4, f5, f6⟩ := f2 b hb
    obtain ⟨o, ho, _⟩ := T.obj _ _ st2 b hb
    refine ⟨Nat.lt_trans (Heap.lt_size ho) (by rw [sz3]; exact Nat.lt_succ_self _), fun z => ?_, f5, ?_⟩
    . rcases List.mem_cons.mp (I2.di _ z) with y | y
      . exact f1 y
      . exact f3 y
    . cases q : X.base.get? b with
      | none => rfl
      | some o' =>
       rcases f4 with z | z
       . exact absurd z (I2.ok.noex b o' q)
       . exact absurd (Nat.lt_of_lt_of_le (Heap.lt_size (I2.ok.bs b o' q).1) z) (Nat.lt_irrefl _)
 have hclL : ∀ x c, cl.lookup x = some c -> X.env.cells.lookup x = some c := fun x c q => hcl (x, c) (PySem.mem_of_lookup q)
 have hinj : ∀ x y c, (cs h3.objs.size).lookup x = some c -> (cs h3.objs.size).lookup y = some c -> x = y := by
  rw [<- hcs]
  exact yh _ _ _ (fun x y c e1 e2 => I2.ok.inj x y c (hclL x c e1) (hclL y c e2)) fun x c e => by
   obtain ⟨v, r⟩ := I3.cell x c (hclL x c e)
   exact Nat.lt_succ_of_lt r.lt
 have hcl3 : ∀ x c, (cs h3.objs.size).lookup x = some c -> X.env.cells.lookup x = some c \/ h3.objs.size <= c := fun x c e => (hnew x c e).imp (hclL x c) fun z => Nat.le_of_succ_le z.2
 have hclx : ∀ b ∈ s2.heap.objs.size :: fp, ∀ x c, (cs h3.objs.size).lookup x = some c -> c ≠ b := fun b hb x c e => by
  rcases hcl3 x c e with z | z
  . exact (hfpx b hb).2.2.1 x c z
  . exact fun e => absurd (Nat.lt_of_lt_of_le (hfpx b hb).1 (e ▸ z)) (Nat.lt_irrefl _)
 have ok : (cxIn X scope (cs h3.objs.size) h3.objs.size (cN ++ tN) { s2 with heap := h3 } H2 (s2.heap.objs.size :: fp)).Ok := Xs I3 rfl hkind hinj hcl3 (fun x c h q => Nat.le_of_succ_le (qo scope.names (h3.objs.size + 1) cl (Nat.le_refl _) (.inr h) c (by rw [hcs]; exact q))) (hhas _) hfpx
 have hg' := hg h3.objs.size { s2 with heap := h3 } H2 (s2.heap.objs.size :: fp)
 have ht' := ht h3.objs.size { s2 with heap := h3 } H2 (s2.heap.objs.size :: fp)
 have he' := he h3.objs.size { s2 with heap := h3 } H2 (s2.heap.objs.size :: fp)
 generalize hY : cxIn X scope (cs h3.objs.size) h3.objs.size (cN ++ tN) { s2 with heap := h3 } H2 (s2.heap.objs.size :: fp) = Y at ok hg' ht' he'
 have yP : Y.prog = X.prog := by rw [<- hY]; rfl
 have yw : Y.w = X.w := by rw [<- hY]; rfl
 have yK : Y.K = X.K := by rw [<- hY]; rfl
 have yA : Y.A = X.A := by rw [<- hY]; rfl
 have yc : Y.calm = true := by rw [<- hY]; exact hc
 have yx : Y.xe = fun _ _ => False := by rw [<- hY]; rfl
 have yl : Y.env.locals = h3.objs.size := by rw [<- hY]; rfl
 have ye : Y.env = compEnvC scope (cs h3.objs.size) h3.objs.size X.env := by rw [<- hY]; rfl
 have yfs : Y.fs = frs X.stack := by rw [<- hY]; rfl
 have yex : Y.ex = s2.heap.objs.size :: fp := by rw [<- hY]; rfl
 have ycl : Y.env.cells = cs h3.objs.size := by rw [<- hY]; rfl
 have ys0 : Y.s₀ = { s2 with heap := h3 } := by rw [<- hY]; rfl
 have yH0 : Y.H₀ = H2 := by rw [<- hY]; rfl
 have ypn : Y.pn = [] := by rw [<- hY]; rfl
 have yN : Y.N = cN ++ tN := by rw [<- hY]; rfl
 have hH2D : H2 s2.heap.objs.size = none := I2.hok.fresh (Nat.le_refl _)
 have pinD : ∀ {H' : Hp} {h : Heap} {ys : List Value} {n : Nat}, h.get? s2.heap.objs.size = some { cls := .type "list", data := .seq ys.toArray n } -> H' s2.heap.objs.size = none ->
  ∀ p ∈ ([(s2.heap.objs.size, ({ cls := .type "list", data := .seq ys.toArray n } : Obj))] : List (Addr × Obj)), h.get? p.1 = some p.2 /\ H' p.1 = none /\ p.1 ≠ Y.env.locals /\ p.1 ∉ Y.fs /\ ∀ v, p.2.data ≠ .cell v := fun {H' h ys n} q1 q2 p hp => by
  rw [List.mem_singleton.mp hp]
  exact ⟨q1, q2, by rw [yl]; exact hDC, by rw [yfs]; exact (hfpx _ List.mem_cons_self).2.1, fun v z => nomatch z⟩
 have I4 : Inv Y [] (cap σ js tN.length) H2 { s2 with heap := h4 } := by
  refine ⟨ok, by rw [ys0], I2.bare, ?_, ⟨_, by rw [yl]; exact hns4, fun i x v e1 e2 e3 => ?_⟩, fun x c q => ?_, ?_, fun x c q => ?_, fun p hp => ?_, ?_, ?_⟩
  . rw [ys0, yH0]; exact Un.kept up4
  . rw [yN] at e1
    obtain ⟨j, hj, hv⟩ := ot e2
    have hi' : i < cN.length := by
     rw [(hcap h3.objs.size).len]
     exact (List.getElem?_eq_some_iff.mp hj).1
    rw [List.getElem?_append_left hi'] at e1
    obtain ⟨j', hj', n1, n2, n3, n4, n5⟩ := (hcap h3.objs.size).get e1
    rw [hj] at hj'; cases hj'
    obtain ⟨m, hn, hl⟩ := I2.loc
    obtain ⟨u, ru, lk⟩ := hl j x v n1 hv n2
    refine ⟨u, ru, ?_⟩
    rcases lk with ⟨k1, _⟩ | ⟨k1, c, k2, k3⟩
    . exact absurd k1 n3
    . refine .inr ⟨by rw [ye]; exact n4, c, by rw [ye, n5]; exact k2, ?_⟩
      obtain ⟨o, ho, hd⟩ := k3
      exact ⟨o, up4 _ _ (up3 _ _ ho), hd⟩
  . rw [ycl] at q
    rcases hnew x c q with q | q
    . obtain ⟨v, o, ho, hd⟩ := I2.cell x c (hclL x c q)
      exact ⟨v, o, up4 _ _ (up3 _ _ ho), hd⟩
    . exact ⟨none, q.1⟩
  . rw [yl]; exact I3.hok.fresh (Nat.le_refl _)
  . rw [ycl] at q
    rcases hcl3 x c q with q | q
    . exact I2.freeC x c q
    . exact I3.hok.fresh q
  . rw [ypn] at hp
    exact absurd hp (by simp)
  . rw [yP, yw]
    exact I3.hok.kept up4
  . rw [et, yN, List.length_append, (hcap h3.objs.size).len]
 have fpY : ∀ {H' : Hp} {ps : List (Addr × Obj)}, (∀ b ∈ fp, H' b = none) -> (∀ p ∈ ps, p.1 = s2.heap.objs.size) -> ∀ b ∈ fp, FpOk Y ps H' b := fun {H' ps} hn hps b hb => by
  obtain ⟨a1, a2, a3, a4⟩ := hfpx b (List.mem_cons_of_mem _ hb)
  obtain ⟨o, ho, _⟩ := T.obj _ _ st2 b hb
  refine ⟨hn b hb, by rw [yl]; exact Nat.ne_of_lt a1, by rw [yfs]; exact a2, .inl (by rw [yex]; exact List.mem_cons_of_mem _ hb), fun x c q => by rw [ycl] at q; exact hclx b (List.mem_cons_of_mem _ hb) x c q, fun p hp => ?_⟩
  rw [ypn] at hp
  rw [hps p hp]
  exact (Nat.ne_of_lt (Heap.lt_size ho)).symm
 have st4 : tn 0 h4 := T.keep _ _ _ st2 fun b hb o q => up4 _ _ (up3 _ _ q)
 have loop : codeAny (model X.prog X.w) X.A (.compLoop (.ListComp elt [⟨tg, iter, ifs, 0⟩] scope pos) 0 (.ref it) (.ref s2.heap.objs.size) (compEnvC scope (cs h3.objs.size) h3.objs.size X.env))
  (compPost (model X.prog X.w) X.A X.xe none (EP X pins σ Q) (.ref s2.heap.objs.size) h3.objs.size) { s2 with heap := h4 } := by
  refine jc (fun n s' => ∃ (i : Nat) (σ' : St) (H' : Hp) (ys : List V) (us : List Value) (k : Nat), Inv Y [] σ' H' s' /\ tn i s'.heap /\ (∀ b ∈ fp, H' b = none) /\ H' s2.heap.objs.size = none /\ Vals ys us /\
   s'.heap.get? s2.heap.objs.size = some { cls := .type "list", data := .seq us.toArray k } /\ W i n ys σ' H') ?_ m0
   ⟨0, _, H2, [], [], 0, I4, st4, fun b hb => (f2 b hb).1, hH2D, .nil, up4 _ _ hD, w0⟩
  rintro n s5 ⟨i, σ5, H5, ys, us, k, I5, st5, fr5, hD5, rv5, ho5, w5⟩
  obtain ⟨hsz, step⟩ := turn i n ys σ5 H5 w5
  have I5p := I5.Rc (pins' := [(s2.heap.objs.size, ({ cls := .type "list", data := .seq us.toArray k } : Obj))]) (pinD ho5 hD5)
  have onlyD : ∀ p ∈ ([(s2.heap.objs.size, ({ cls := .type "list", data := .seq us.toArray k } : Obj))] : List (Addr × Obj)), p.1 = s2.heap.objs.size := fun p hp => by rw [List.mem_singleton.mp hp]
  rcases step with ⟨stop, fin⟩ | ⟨go, N, hN, step⟩
  ·
   have dn := T.done Y yP yw yK yc i _ s5 σ5 H5 (notedBy (model X.prog X.w) X.A (compEnvC scope (cs h3.objs.size) h3.objs.size X.env) fun e s' => compPost (model X.prog X.w) X.A X.xe none (EP X pins σ Q) (.ref s2.heap.objs.size) h3.objs.size (.error e) s') I5p (fpY fr5 onlyD) st5 stop
   rw [yA] at dn
   refine thn dn fun r s6 ⟨hr, I6⟩ => ?_
   subst hr
   obtain ⟨m6, hn6, _⟩ := I6.loc
   rw [yl] at hn6
   refine ⟨m6, hn6, fun h7 hs7 => ?_⟩
   have u6 : Un (frs X.stack) (s2.heap.objs.size :: fp) H2 H5 h3 s6.heap := by
    have := I6.base
    rw [yfs, yex, yH0, ys0] at this
    exact this
   have D6 := (I6.pin _ (List.mem_append_right _ (List.mem_singleton.mpr rfl))).1
   have C6 : H5 h3.objs.size = none := by have := I6.free; rw [yl] at this; exact this
   have k7 : ∀ b o, b ≠ h3.objs.size -> s6.heap.get? b = some o -> h7.get? b = some o := fun b o hb q => hs7.extBut b o hb q
   have neC : ∀ b o, s2.heap.get? b = some o -> b ≠ h3.objs.size := fun b o q => Nat.ne_of_lt (Heap.lt_size (up3 b o q))
   have neD : ∀ b o, s2.heap.get? b = some o -> b ≠ s2.heap.objs.size := fun b o q => Nat.ne_of_lt (Heap.lt_size q)
   have exn : ∀ b o, s2.heap.get? b = some o -> b ∉ fp -> b ∉ s2.heap.objs.size :: fp := fun b o q hb z => by
    rcases List.mem_cons.mp z with z | z
    . exact neD b o q z
    . exact hb z
   have un7 : Un (frs X.stack) fp H2 (upd H5 s2.heap.objs.size (.lst ys)) s2.heap h7 := by
    refine ⟨fun b o q nb hb hx => k7 b o (neC b o q) (u6.keep b o (up3 _ _ q) nb hb (exn b o q hx)), fun b o q nb hb hx => ?_, fun b o q nb hx => ?_, fun b o q hx => ?_, fun b xs q => ?_, fun b o xs q => ?_, fun b ps q => ?_⟩
    . obtain ⟨sl, z⟩ := u6.slot b o (up3 _ _ q) nb hb (exn b o q hx)
      exact ⟨sl, k7 b _ (neC b o q) z⟩
    . rw [La (neD b o q)]
      exact u6.free b o (up3 _ _ q) nb (exn b o q hx)
    . obtain ⟨o', z⟩ := u6.there b o (up3 _ _ q) (exn b o q hx)
      exact ⟨o', k7 b o' (neC b o q) z⟩
    . have z := u6.tups b xs q
      rw [La (oa z hD5)]; exact z
    . have z := u6.frzs b o xs q
      rw [La (oa z hD5)]; exact z
    . obtain ⟨more, z⟩ := u6.tbls b ps q
      exact ⟨more, by rw [La (oa z hD5)]; exact z⟩
   have hok7 : HOk X.prog X.w (upd H5 s2.heap.objs.size (.lst ys)) h7 := by
    have z := I6.hok
    rw [yP, yw] at z
    refine (z.other C6 k7).Qv hD5 ?_
    exact ⟨Nat.le_of_lt hsz, us, k, rv5, k7 _ _ hDC D6⟩
   obtain ⟨hh6, gg6, dd6, tt6, os6⟩ := s6
   have eos : os6 = s2.os := by have := I6.os; rw [ys0] at this; exact this
   subst eos
   have I7 : Inv X pins σ (upd H5 s2.heap.objs.size (.lst ys)) { s2 with heap := h7, gens := gg6, drawn := dd6, toks := tt6 } :=
    I2.call un7 hok7 I6.bare fun b hb => ⟨(f2 b hb).2.2.2.1, (f2 b hb).2.1, (f2 b hb).2.2.2.2.1, (f2 b hb).2.2.2.2.2⟩
   exact ⟨.ref s2.heap.objs.size, _, I7, rfl, fin _ hD5⟩
  ·
   have im := T.item Y yP yw yK yc i _ s5 σ5 H5 (notedBy (model X.prog X.w) X.A (compEnvC scope (cs h3.objs.size) h3.objs.size X.env) fun e s' => compPost (model X.prog X.w) X.A X.xe none (EP X pins σ Q) (.ref s2.heap.objs.size) h3.objs.size (.error e) s') I5p (fpY fr5 onlyD) st5 go
   rw [yA] at im
   refine thn im fun r s6 ⟨u, hr, h6⟩ => ?_
   subst hr
   refine thn h6 fun _ s7 ⟨x, H7, I7, r7, y7, st7, fr7⟩ => ?_
   have I7' := I7.pinned (fpY fr7 onlyD) (T.obj _ _ st7)
   have tog := hg' _ s7 σ5 H7 x u _ I7' r7 (step x H7 y7)
   rw [yP, yw, yA, yx, ye] at tog
   refine wpAny_mono tog (fun _ s8 ⟨σ8, H8, I8, q8⟩ => ?_) fun _ _ z => z.elim
   have tot := ht' _ s8 σ8 H8 _ I8 q8
   rw [yP, yw, yA, yx, ye] at tot
   refine wpAny_mono tot (fun okb s9 ⟨H9, I9, q9⟩ => ?_) fun _ _ z => z.elim
   have back : ∀ {H' : Hp} {s' : Shared}, Inv Y ([(s2.heap.objs.size, ({ cls := .type "list", data := .seq us.toArray k } : Obj))] ++ qi fp s7.heap) σ8 H' s' -> tn (i + 1) s'.heap /\ (∀ b ∈ fp, H' b = none) /\ H' s2.heap.objs.size = none /\ s'.heap.get? s2.heap.objs.size = some { cls := .type "list", data := .seq us.toArray k } := fun {H' s'} I' => by
    refine ⟨T.keep _ _ _ st7 fun b hb o e => (I'.pin (b, o) (List.mem_append_right _ (List.mem_append_right _ (vc hb e)))).1, fun b hb => ?_, ?_, ?_⟩
    . obtain ⟨o, e, d⟩ := T.obj _ _ st7 b hb
      exact (I'.pin (b, o) (List.mem_append_right _ (List.mem_append_right _ (vc hb e)))).2.1
    . exact (I'.pin _ (List.mem_append_right _ (List.mem_append_left _ (List.mem_singleton.mpr rfl)))).2.1
    . exact (I'.pin _ (List.mem_append_right _ (List.mem_append_left _ (List.mem_singleton.mpr rfl)))).1
   cases okb with
   | false =>
    rw [if_neg Bool.false_ne_true] at q9 ⊢
    obtain ⟨m', hm', w9⟩ := hN _ _ _ q9
    obtain ⟨b1, b2, b3, b4⟩ := back I9
    exact ⟨m', hm', i + 1, σ8, H9, ys, us, k, I9.Rc (fun p hp => absurd hp (by simp)), b1, b2, b3, rv5, b4, w9⟩
   | true =>
    rw [if_pos rfl] at q9 ⊢
    have toe := he' _ s9 σ8 H9 _ I9 q9
    rw [yP, yw, yA, yx, ye] at toe
    refine wpAny_mono toe (fun yv s10 ⟨yy, H10, I10, r10, q10⟩ => ?_) fun _ _ z => z.elim
    obtain ⟨m', hm', w10⟩ := hN _ _ _ q10
    obtain ⟨b1, b2, b3, b4⟩ := back I10
    have hus : us.length = ys.length := rv5.length.symm
    refine append_at b4 (fun h11 hs11 ho11 => ?_) (by rw [List.size_toArray, hus]; exact Nat.le_of_lt hsz)
    have I10' : Inv Y [] σ8 H10 s10 := I10.Rc (fun p hp => absurd hp (by simp))
    have I11 : Inv Y [] σ8 H10 { s10 with heap := h11 } := I10'.turned (t' := s10.toks) (it := s2.heap.objs.size) (fun b o hb q => hs11.extBut b o hb q) b3 (by rw [yl]; exact hDC) (.inl (by rw [yex]; exact List.mem_cons_self))
     (fun x c q => by rw [ycl] at q; exact hclx _ List.mem_cons_self x c q) (fun p hp => by rw [ypn] at hp; exact absurd hp (by simp))
    refine ⟨m', hm', i + 1, σ8, H10, ys ++ [yy], us ++ [yv], k + 1, I11, T.keep _ _ _ b1 fun b hb o q => hs11.extBut b o (fun z => ?_) q, b2, b3, Vals.append rv5 (.cons r10 .nil), ?_, w10⟩
    . have z' : b = s2.heap.objs.size := z
      obtain ⟨o', ho', _⟩ := T.obj _ _ st2 b hb
      exact absurd (z' ▸ Heap.lt_size ho') (Nat.lt_irrefl _)
    . rw [ho11, List.push_toArray]
 exact codeAny_compStart_list loop (T.self _ 0 _ _ _ st4 loop)
def jl (J : It) (js : List Nat) (nt : Nat) (g : TG) (tt : TT) (te : TE) (σ : St) (H : Hp) (Q : VK) : Prop := ∃ W : Nat -> Nat -> List V -> St -> Hp -> Prop, (∃ m, W 0 m [] (cap σ js nt) H) /\
 ∀ i m ys σ' H', W i m ys σ' H' -> ys.length < sizeLine /\ ((J.stop i H' /\ ∀ D, H' D = none -> Q (.ref D) (upd H' D (.lst ys))) \/
  (J.go i H' /\ ∃ N : List V -> St -> Hp -> Prop, (∀ ys σ' H', N ys σ' H' -> ∃ m', m' < m /\ W (i + 1) m' ys σ' H') /\ ∀ x H2, J.yld i H' x H2 -> g x σ' H2 fun σ3 H3 => tt σ3 H3 fun ok H4 => if ok = true then te σ3 H4 fun y H5 => N (ys ++ [y]) σ3 H5 else N ys σ3 H4))
theorem Hw {tA : TA} {js : List Nat} {nt : Nat} {g : TG} {tt : TT} {te : TE} {σ : St} {H : Hp} {Q : VK} (h : tA σ H fun vs H1 => ∃ j : Int, vs = [.int j] /\ -(2 ^ 62) <= j /\ j < 2 ^ 62 /\ jl (Itr 0 j.toNat) js nt g tt te σ H1 Q) : Hh js nt (sx tA) g tt te σ H Q := h
theorem Iw {K : PySem.W.Frag} {tl : TE} {js : List Nat} {nt : Nat} {g : TG} {tt : TT} {te : TE} {σ : St} {H : Hp} {Q : VK} (h : tl σ H fun x H1 => ∃ a, x = .ref a /\ (∃ xs, SqL K H1 a xs) /\ jl (Itl K a) js nt g tt te σ H1 Q) : Hh js nt (Bu K tl) g tt te σ H Q := h
theorem Gw {K : PySem.W.Frag} {tl : TE} {js : List Nat} {nt : Nat} {g : TG} {tt : TT} {te : TE} {σ : St} {H : Hp} {Q : VK} (h : tl σ H fun x H1 => ∃ a, x = .ref a /\ (∃ xs, SqT K H1 a xs) /\ jl (Itt K a) js nt g tt te σ H1 Q) : Hh js nt (iTup K tl) g tt te σ H Q := h
theorem r_yes {σ : St} {H : Hp} {QB : Bool -> Hp -> Prop} (h : QB true H) : tYes σ H QB := h
theorem compR {j : Int} {js : List Nat} {g : TG} {tt : TT} {te : TE} {σ : St} {H : Hp} {Q : VK} (caps : St) (Pv : Nat -> List V -> Hp -> Prop) (hcaps : cap σ js 1 = caps ++ [none]) (h1 : j < 16777216) (h2 : -(2 ^ 62) <= j) (h0 : Pv 0 [] H)
 (hlen : ∀ i ys H, Pv i ys H -> ys.length <= i)
 (hs : ∀ (i : Nat) ys z H, (i : Int) < j -> Pv i ys H -> g (.int (i : Int)) (caps ++ [z]) H fun σ3 H3 => tt σ3 H3 fun ok H4 => if ok = true then te σ3 H4 fun y H5 => Pv (i + 1) (ys ++ [y]) H5 /\ ∃ z, σ3 = caps ++ [z] else Pv (i + 1) ys H4 /\ ∃ z, σ3 = caps ++ [z])
 (hd : ∀ ys H, Pv j.toNat ys H -> ∀ D, H D = none -> Q (.ref D) (upd H D (.lst ys))) : ∃ j' : Int, [V.int j] = [.int j'] /\ -(2 ^ 62) <= j' /\ j' < 2 ^ 62 /\ jl (Itr 0 j'.toNat) js 1 g tt te σ H Q := by
 refine ⟨j, rfl, h2, by omega, fun i m ys σ' H' => m = j.toNat - i /\ i <= j.toNat /\ Pv i ys H' /\ ∃ z, σ' = caps ++ [z], ⟨j.toNat, by simp, Nat.zero_le _, h0, none, hcaps⟩, ?_⟩
 rintro i m ys σ' H' ⟨rfl, hi, p, z, rfl⟩
 refine ⟨by have := hlen i ys H' p; rw [sizeLine_eq]; omega, ?_⟩
 by_cases hlt : i < j.toNat
 . refine .inr ⟨hlt, fun ys σ' H' => Pv (i + 1) ys H' /\ ∃ z, σ' = caps ++ [z], fun ys σ' H' ⟨p', q'⟩ => ⟨j.toNat - (i + 1), by omega, rfl, hlt, p', q'⟩, fun x H2 y => ?_⟩
   obtain ⟨e1, e2⟩ := y
   subst e1 e2
   rw [Int.zero_add]
   exact hs i ys z _ (by omega) p
 . have e : i = j.toNat := by omega
   subst e
   exact .inl ⟨Nat.le_refl _, hd ys H' p⟩
theorem pe {K : PySem.W.Frag} {a : Addr} {xs : List V} {js : List Nat} {g : TG} {tt : TT} {te : TE} {σ : St} {H : Hp} {Q : VK} (caps : St) (Pv : Nat -> List V -> Hp -> Prop) (hcaps : cap σ js 1 = caps ++ [none]) (hsz : xs.length < sizeLine) (h0 : Pv 0 [] H)
 (hl : ∀ i ys H, i <= xs.length -> Pv i ys H -> SqL K H a xs) (hlen : ∀ i ys H, Pv i ys H -> ys.length <= i)
 (hs : ∀ (i : Nat) x ys z H, xs[i]? = some x -> Pv i ys H -> g x (caps ++ [z]) H fun σ3 H3 => tt σ3 H3 fun ok H4 => if ok = true then te σ3 H4 fun y H5 => Pv (i + 1) (ys ++ [y]) H5 /\ ∃ z, σ3 = caps ++ [z] else Pv (i + 1) ys H4 /\ ∃ z, σ3 = caps ++ [z])
 (hd : ∀ ys H, Pv xs.length ys H -> ∀ D, H D = none -> Q (.ref D) (upd H D (.lst ys))) : ∃ a', V.ref a = .ref a' /\ (∃ xs, SqL K H a' xs) /\ jl (Itl K a') js 1 g tt te σ H Q := by
 refine ⟨a, rfl, ⟨xs, hl 0 [] H (Nat.zero_le _) h0⟩, fun i m ys σ' H' => m = xs.length - i /\ i <= xs.length /\ Pv i ys H' /\ ∃ z, σ' = caps ++ [z], ⟨xs.length, by simp, Nat.zero_le _, h0, none, hcaps⟩, ?_⟩
 rintro i m ys σ' H' ⟨rfl, hi, p, z, rfl⟩
 refine ⟨by have := hlen i ys H' p; omega, ?_⟩
 have q := hl i ys H' hi p
 by_cases hlt : i < xs.length
 . refine .inr ⟨⟨xs, xs[i], q, by simp [hlt]⟩, fun ys σ' H' => Pv (i + 1) ys H' /\ ∃ z, σ' = caps ++ [z], fun ys σ' H' ⟨p', q'⟩ => ⟨xs.length - (i + 1), by omega, rfl, hlt, p', q'⟩, fun x H2 y => ?_⟩
   obtain ⟨e, y⟩ := y
   subst e
   exact hs i x ys z _ (y xs q) p
 . have e : i = xs.length := by omega
   subst e
   exact .inl ⟨⟨xs, q, Nat.le_refl _⟩, hd ys H' p⟩
theorem compT {K : PySem.W.Frag} {a : Addr} {xs : List V} {js : List Nat} {g : TG} {tt : TT} {te : TE} {σ : St} {H : Hp} {Q : VK} (caps : St) (Pv : Nat -> List V -> Hp -> Prop) (hcaps : cap σ js 1 = caps ++ [none]) (hsz : xs.length < sizeLine) (h0 : Pv 0 [] H)
 (hl : ∀ i ys H, i <= xs.length -> Pv i ys H -> SqT K H a xs) (hlen : ∀ i ys H, Pv i ys H -> ys.length <= i)
 (hs : ∀ (i : Nat) x ys z H, xs[i]? = some x -> Pv i ys H -> g x (caps ++ [z]) H fun σ3 H3 => tt σ3 H3 fun ok H4 => if ok = true then te σ3 H4 fun y H5 => Pv (i + 1) (ys ++ [y]) H5 /\ ∃ z, σ3 = caps ++ [z] else Pv (i + 1) ys H4 /\ ∃ z, σ3 = caps ++ [z])
 (hd : ∀ ys H, Pv xs.length ys H -> ∀ D, H D = none -> Q (.ref D) (upd H D (.lst ys))) : ∃ a', V.ref a = .ref a' /\ (∃ xs, SqT K H a' xs) /\ jl (Itt K a') js 1 g tt te σ H Q := by
 refine ⟨a, rfl, ⟨xs, hl 0 [] H (Nat.zero_le _) h0⟩, fun i m ys σ' H' => m = xs.length - i /\ i <= xs.length /\ Pv i ys H' /\ ∃ z, σ' = caps ++ [z], ⟨xs.length, by simp, Nat.zero_le _, h0, none, hcaps⟩, ?_⟩
 rintro i m ys σ' H' ⟨rfl, hi, p, z, rfl⟩
 refine ⟨by have := hlen i ys H' p; omega, ?_⟩
 have q := hl i ys H' hi p
 by_cases hlt : i < xs.length
 . refine .inr ⟨⟨xs, xs[i], q, by simp [hlt]⟩, fun ys σ' H' => Pv (i + 1) ys H' /\ ∃ z, σ' = caps ++ [z], fun ys σ' H' ⟨p', q'⟩ => ⟨xs.length - (i + 1), by omega, rfl, hlt, p', q'⟩, fun x H2 y => ?_⟩
   obtain ⟨e, y⟩ := y
   subst e
   exact hs i x ys z _ (y xs q) p
 . have e : i = xs.length := by omega
   subst e
   exact .inl ⟨⟨xs, q, Nat.le_refl _⟩, hd ys H' p⟩
end L2
namespace L2
open PySem PySem.Spec PyProof.Rows
def rSum (K : PySem.W.Frag) : List V -> Hp -> VK -> Prop := fun xs H Q => ∃ (p : Addr) (ns : List Int), xs = [.ref p] /\ SqL K H p (ns.map V.int) /\ Q (.int ns.sum) H
section
variable {X : Cx}
theorem Zh : ∀ {ns : List Int} {us : List Value}, Vals (ns.map V.int) us -> ∃ xs : List (Int × Tok), us = xs.map (fun p => Value.int p.1 p.2) /\ xs.map (·.1) = ns
 | [], us, r => by rw [List.map_nil] at r; cases r; exact ⟨[], rfl, rfl⟩
 | n :: ns, us, r => by
  rw [List.map_cons] at r
  cases r with
  | cons r1 r2 =>
   obtain ⟨xs, e1, e2⟩ := Zh r2
   obtain ⟨t, e⟩ := r1
   exact ⟨(n, t) :: xs, by rw [e, e1]; rfl, by rw [List.map_cons, e2]⟩
theorem cl_sum (hc : X.calm = true) : Wc X (.builtin "sum") (rSum X.K) := by
 intro pins s σ H xs us Q I r h
 obtain ⟨p, ns, rfl, hq, q⟩ := h
 obtain ⟨u, rfl, rx⟩ := vals1 r
 cases rx
 obtain ⟨its, r', pl, hz⟩ := I.list hq
 obtain ⟨ps, e1, e2⟩ := Zh r'
 have hl := pl.isList
 have e3 : its.toArray = PySem.intItems ps.toArray := by rw [e1]; simp [PySem.intItems]
 rw [e3] at hl
 refine PySem.sum_intListG (I.ok.hd hc) hl fun h' tk t' hk => ⟨.int ns.sum, H, I.kept (t' := tk) hk, ⟨t', ?_⟩, q⟩
 rw [PySem.preSum_eq, List.take_of_length_le (by simp)]
 simp only [e2]
end
section
variable {K : PySem.W.Frag} {H : Hp} {Q : VK}
theorem r_sum {p : Addr} {ns : List Int} (h1 : H p = some (.lst (ns.map V.int))) (h : Q (.int ns.sum) H) : rSum K [.ref p] H Q := ⟨p, ns, rfl, SqL.of h1, h⟩
end
def CellsOk (X : Cx) : List (Str × Addr) -> Prop
 | [] => True
 | p :: r => X.env.cells.lookup p.1 = some p.2 /\ CellsOk X r
theorem CellsOk.all {X : Cx} : ∀ {cl : List (Str × Addr)}, CellsOk X cl -> ∀ p ∈ cl, X.env.cells.lookup p.1 = some p.2
 | [], _, p, h => by cases h
 | q :: r, ⟨h1, h2⟩, p, h => by
  rcases List.mem_cons.mp h with rfl | h
  . exact h1
  . exact CellsOk.all h2 p h
theorem cap1 {X : Cx} {e : Env} {x : Str} {j : Nat} (h1 : X.N[j]? = some x) (h2 : X.env.scope.names.lookup x = some .cell) (h3 : e.scope.names.lookup x = some .cell) (h4 : e.cells.lookup x = X.env.cells.lookup x) :
 X.N[j]? = some x /\ Vis X.env.scope x /\ X.env.kindOf x ≠ some .local /\ (e.kindOf x = some .cell \/ e.kindOf x = some .free) /\ e.cells.lookup x = X.env.cells.lookup x :=
 ⟨h1, .inr (.inl h2), (fun h => by have h' : X.env.scope.names.lookup x = some .local := h; rw [h2] at h'; cases h'), .inl h3, h4⟩
theorem Ib {env : Env} : ∀ {names : List (Str × NameKind)} {x : Str} {k' : NameKind},
 (names.map fun (n, k) => if (k == NameKind.free && env.scope.kind == .function && env.kindOf n == some .cell) then (n, NameKind.cell) else (n, k)).lookup x = some k' -> ∃ k, (x, k) ∈ names /\ (k' = k \/ k = .free)
 | [], _, _, h => by simp at h
 | (n, k) :: r, x, k', h => by
  rw [List.map_cons] at h
  dsimp only at h
  by_cases hx : x = n
  . subst hx
    refine ⟨k, List.mem_cons_self, ?_⟩
    by_cases c : (k == NameKind.free && env.scope.kind == .function && env.kindOf x == some .cell) = true
    . right
      simp only [Bool.and_eq_true, beq_iff_eq] at c
      exact c.1.1
    . rw [if_neg c] at h
      simp only [List.lookup_cons_self, Option.some.injEq] at h
      exact .inl h.symm
  . have hx' : (x == n) = false := by simpa using hx
    have h2 : (r.map fun (n, k) => if (k == NameKind.free && env.scope.kind == .function && env.kindOf n == some .cell) then (n, NameKind.cell) else (n, k)).lookup x = some k' := by
     by_cases c : (k == NameKind.free && env.scope.kind == .function && env.kindOf n == some .cell) = true
     . rw [if_pos c, List.lookup_cons, hx'] at h; exact h
     . rw [if_neg c, List.lookup_cons, hx'] at h; exact h
    obtain ⟨k0, m, e⟩ := Ib h2
    exact ⟨k0, List.mem_cons_of_mem _ m, e⟩
theorem Bv {X : Cx} {scope : Scope} {cl : List (Str × Addr)} (hcell : ∀ y ∈ scope.names, y.2 ≠ .cell) (h : (scope.names.all fun y => y.2 != .free || (cl.lookup y.1).isSome) = true) :
 ∀ C x, ((compEnvC scope cl C X.env).kindOf x = some .cell \/ (compEnvC scope cl C X.env).kindOf x = some .free) -> ∃ c, cl.lookup x = some c := by
 intro C x hx
 obtain ⟨k', hk, e⟩ : ∃ k', (relabel scope X.env).names.lookup x = some k' /\ (k' = .cell \/ k' = .free) := by
  rcases hx with hx | hx
  . exact ⟨_, hx, .inl rfl⟩
  . exact ⟨_, hx, .inr rfl⟩
 obtain ⟨k, m, e2⟩ := Ib hk
 have hf : k = .free := by
  rcases e2 with e2 | e2
  . subst e2
    rcases e with e | e
    . exact absurd e (hcell _ m)
    . exact e
  . exact e2
 have z := List.all_eq_true.mp h _ m
 rw [hf] at z
 have z' : (cl.lookup x).isSome = true := by simpa using z
 exact Option.isSome_iff_exists.mp z'
theorem Te {X : Cx} {elt tg iter : Expr} {ifs : List Expr} {scope : Scope} {pos : Pos} {cl : List (Str × Addr)} {wi : TI} {g : TG} {tt : TT} {te : TE} (cN tN : List Str) (js : List Nat)
 (hclos : closureFor scope X.env = pure cl) (hc : X.calm = true) (hx0 : X.xe = fun _ _ => False) (hi : PI X tg iter wi)
 (hcell : ∀ y ∈ scope.names, y.2 ≠ .cell) (hkind : scope.kind = .function) (hnames : ∀ y ∈ scope.names, y.2 = .local -> scope.names.lookup y.1 = some .local)
 (hcl : CellsOk X cl) (hall : (scope.names.all fun y => y.2 != .free || (cl.lookup y.1).isSome) = true) (hcap : ∀ C, ng X (compEnvC scope cl C X.env) cN js)
 (hg : ∀ C s₀ H₀ ex, PG (cxIn X scope cl C (cN ++ tN) s₀ H₀ ex) tg g) (ht : ∀ C s₀ H₀ ex, PTs (cxIn X scope cl C (cN ++ tN) s₀ H₀ ex) ifs tt) (he : ∀ C s₀ H₀ ex, PE (cxIn X scope cl C (cN ++ tN) s₀ H₀ ex) elt te)
 (hs : ∀ x, foldedSetIterable iter X.env x = pure x := by intro _; first | rfl | with_unfolding_all rfl) :
 PE X (.ListComp elt [⟨tg, iter, ifs, 0⟩] scope pos) (Hh js tN.length wi g tt te) :=
 Pn hc hi hclos (fun _ => He hcell) hkind hnames hcl.all (Bv hcell hall) hcap hg ht he hs
theorem vx {X : Cx} {scope : Scope} {cl : List (Str × Addr)} {nm : Str} (h : (scope.names.all fun y => (y.2 != .free && y.2 != .cell) || y.1 == nm || (cl.lookup y.1).isSome) = true) :
 ∀ C x, ((compEnvC scope ((nm, C + 1) :: cl) C X.env).kindOf x = some .cell \/ (compEnvC scope ((nm, C + 1) :: cl) C X.env).kindOf x = some .free) -> ∃ c, ((nm, C + 1) :: cl).lookup x = some c := by
 intro C x hx
 obtain ⟨k', hk, e⟩ : ∃ k', (relabel scope X.env).names.lookup x = some k' /\ (k' = .cell \/ k' = .free) := by
  rcases hx with hx | hx
  . exact ⟨_, hx, .inl rfl⟩
  . exact ⟨_, hx, .inr rfl⟩
 obtain ⟨k, m, e2⟩ := Ib hk
 have z := List.all_eq_true.mp h _ m
 rw [List.lookup_cons]
 cases hb : x == nm with
 | true => exact ⟨_, rfl⟩
 | false =>
  have hf : (k != .free && k != .cell) = false := by
   rcases e2 with rfl | rfl
   . rcases e with rfl | rfl <;> rfl
   . rfl
  rw [show (x, k).2 = k from rfl, show (x, k).1 = x from rfl, hf, hb] at z
  exact Option.isSome_iff_exists.mp z
theorem pe_lcc {X : Cx} {elt tg iter : Expr} {ifs : List Expr} {scope : Scope} {pos : Pos} {cl : List (Str × Addr)} {wi : TI} {g : TG} {tt : TT} {te : TE} (cN tN : List Str) (js : List Nat) (nm : Str)
 (hclos : closureFor scope X.env = pure cl) (hc : X.calm = true) (hi : PI X tg iter wi)
 (hcell : ∀ C, cellsFrom (C + 1) scope.names cl = (nm, C + 1) :: cl) (hkind : scope.kind = .function) (hnames : ∀ y ∈ scope.names, y.2 = .local -> scope.names.lookup y.1 = some .local)
 (hcl : CellsOk X cl) (hall : (scope.names.all fun y => (y.2 != .free && y.2 != .cell) || y.1 == nm || (cl.lookup y.1).isSome) = true) (hcap : ∀ C, ng X (compEnvC scope ((nm, C + 1) :: cl) C X.env) cN js)
 (hg : ∀ C s₀ H₀ ex, PG (cxIn X scope ((nm, C + 1) :: cl) C (cN ++ tN) s₀ H₀ ex) tg g) (ht : ∀ C s₀ H₀ ex, PTs (cxIn X scope ((nm, C + 1) :: cl) C (cN ++ tN) s₀ H₀ ex) ifs tt) (he : ∀ C s₀ H₀ ex, PE (cxIn X scope ((nm, C + 1) :: cl) C (cN ++ tN) s₀ H₀ ex) elt te)
 (hs : ∀ x, foldedSetIterable iter X.env x = pure x := by intro _; first | rfl | with_unfolding_all rfl) :
 PE X (.ListComp elt [⟨tg, iter, ifs, 0⟩] scope pos) (Hh js tN.length wi g tt te) :=
 Pn (cs := fun C => (nm, C + 1) :: cl) hc hi hclos hcell hkind hnames hcl.all (vx hall) hcap hg ht he hs
end L2
namespace HT
open PySem PyProof.Rows
section
variable {prog : Program} {w : World} {A : Around} {E : Value -> Shared -> Prop} {s : Shared}
theorem Ve {t sl : Addr} {items : Array Value} {vl vu : Value} {lo hi : Option Int} {Q : Value -> Shared -> Prop} (ht : IsTup s.heap t items) (hs : s.heap.IsSliceOf sl vl vu .none) (pl : IsPart vl lo) (pu : IsPart vu hi)
 (hw : sIx items.size 0 lo = 0 /\ sIx items.size items.size hi = items.size) (h : Q (.ref t) s) : wpAny (model prog w) A (getItem (.ref t) (.ref sl)) Q E s := by
 obtain ⟨os, hos, hcs, hds⟩ := id hs
 have hTs : s.TypeIs (.ref sl) "slice" := ⟨os, hos, hcs⟩
 unfold getItem
 try with_reducible refine wpAny_holding ?_
 first | refine wpAny_bind (wpAny_pure ?_) | skip
 refine wpAny_bind (wpAny_sequenceKey ht.typeIs (by decide) ?_)
 refine wpAny_bind (wpAny_callSpecial?_slot (name := Str.ofString "__getitem__") ht.typeIs PyProof.Rows.slot_tuple_getitem
  (wpAny_call_entry PyProof.Rows.slot_tuple_getitem ht.typeIs entry_tuple_getitem ?_ (args_tuple_getitem _ _)))
 show wpAny _ _ (Builtin.Tuple.tupleItemsOf (.ref t) >>= _) _ _ s
 refine wpAny_bind (tupleItemsOf_ ht ?_)
 refine wpAny_bind (wpAny_typeOf hTs ?_)
 rw [if_pos (by decide)]
 refine wpAny_bind (Ld hs pl pu ?_)
 have hyes : (((sIx items.size 0 lo : Nat) : Int) == 0 && (1 : Int) == 1 && (sIx items.size items.size hi - sIx items.size 0 lo) == items.size) = true := by
  rw [hw.1, hw.2]; simp
 show wpAny _ _ (if (((sIx items.size 0 lo : Nat) : Int) == 0 && (1 : Int) == 1 && (sIx items.size items.size hi - sIx items.size 0 lo) == items.size) = true then _ else _) _ _ s
 rw [if_pos hyes]
 unfold Builtin.Tuple.tupleIsExact
 refine wpAny_bind (wpAny_bind (wpAny_typeOf ht.typeIs (wpAny_pure ?_)))
 rw [if_pos (by decide)]
 first
  | exact wpAny_bind (wpAny_rule (wpAny_bind (wpAny_pure (wpAny_pure ⟨_, rfl, wpAny_pure h⟩))))
  | exact wpAny_bind (wpAny_rule (wpAny_bind (wpAny_pure ⟨_, rfl, wpAny_pure h⟩)))
  | exact wpAny_bind (wpAny_rule (wpAny_pure ⟨_, rfl, wpAny_pure h⟩))
theorem Ku {t b : Addr} {ws : List Value} {Q : Value -> Shared -> Prop} (ht : IsTup s.heap t ([] : List Value).toArray) (hb : IsTup s.heap b ws.toArray) (h : Q (.ref b) s) : wpAny (model prog w) A (binaryOp .Add (.ref t) (.ref b)) Q E s := by
 obtain ⟨⟨cls, dd, data, sl⟩, ho, hc, n, hd⟩ := id ht
 obtain ⟨⟨cls2, dd2, data2, sl2⟩, ho2, hc2, n2, hd2⟩ := id hb
 simp only at hc hd hc2 hd2
 subst hc hd hc2 hd2
 exact concat_meets ⟨_, ho, rfl⟩ ⟨_, ho2, rfl⟩ noFill_tuple_add seq_tuple_add PySem.F.slot_tuple_add PySem.F.entry_tuple_add (PySem.F.args_tuple_add_2 _ _)
  (tuple_addW0 t b _ ws.toArray n n2 dd dd2 sl sl2 rfl) ⟨ho, ho2, h⟩
end
end HT
namespace L2
open PySem PySem.Spec PyProof.Rows
section
variable {X : Cx}
def rSlTt : V -> Option Int -> Option Int -> Hp -> VK -> Prop := fun x lo hi H Q => ∃ a xs, x = .ref a /\ H a = some (.tup xs) /\ ∀ p H', Same H H' -> H' p = some (.tup (cutV xs lo hi)) -> Q (.ref p) H'
theorem Xv : SlR X rSlTt := by
 intro pins s σ H x v vl vu lo hi sl Q I rx hs pl pu h
 obtain ⟨a, xs, rfl, hx, q⟩ := h
 by_cases hw : HT.sIx xs.length 0 lo = 0 /\ HT.sIx xs.length xs.length hi = xs.length
 . cases rx
   obtain ⟨its, r, ht, hz⟩ := I.tuple (SqT.of hx)
   have hlen : its.toArray.size = xs.length := by rw [List.size_toArray]; exact r.length.symm
   refine ⟨"tuple", _, PyProof.Rows.slot_tuple_getitem.lookup, ht.typeIs, ?_⟩
   refine HT.Ve ht hs pl pu (by rw [hlen]; exact hw) ⟨.ref a, H, I, rfl, q a H (Same.refl H) ?_⟩
   rw [hx]
   unfold cutV
   rw [hw.1, hw.2, List.drop_zero, Nat.sub_zero, List.take_length]
 . exact sl_tup pins s σ H (.ref a) v vl vu lo hi sl Q I rx hs pl pu ⟨a, xs, rfl, SqT.of hx, hw, fun p hp => q p _ ((Same.refl H).new hp) ja⟩
def rSl2 (K : PySem.W.Frag) : V -> Option Int -> Option Int -> Hp -> VK -> Prop := fun x lo hi H Q => rSlL K x lo hi H Q \/ rSlTt x lo hi H Q
theorem sl_2 : SlR X (rSl2 X.K) := Yv.or Xv
def tv : R2 := fun x y H Q => ∃ a b xs ys, x = .ref a /\ y = .ref b /\ H a = some (.tup xs) /\ H b = some (.tup ys) /\ xs.length + ys.length <= sizeLine /\ ∀ p H', Same H H' -> H' p = some (.tup (xs ++ ys)) -> Q (.ref p) H'
theorem ou : OpR X (binaryOp .Add) tv := by
 intro pins s σ H x y v u Q I rx ry h
 obtain ⟨a, b, xs, ys, rfl, rfl, ha, hb, hz, q⟩ := h
 by_cases hx : xs = []
 . subst hx
   cases rx
   cases ry
   obtain ⟨its, r1, p1, _⟩ := I.tuple (SqT.of ha)
   obtain ⟨its2, r2, p2, _⟩ := I.tuple (SqT.of hb)
   cases r1
   exact HT.Ku p1 p2 ⟨.ref b, H, I, rfl, q b H (Same.refl H) hb⟩
 . refine Ir pins s σ H _ _ v u Q I rx ry ⟨a, b, xs, ys, rfl, rfl, SqT.of ha, SqT.of hb, hx, hz, fun e => ?_, fun e p hp => q p _ ((Same.refl H).new hp) ja⟩
   subst e
   exact q a H (Same.refl H) (by rw [List.append_nil]; exact ha)
def kr (K : PySem.W.Frag) : R2 := fun x y H Q => iu K x y H Q \/ tv x y H Q
theorem Vw : OpR X (binaryOp .Add) (kr X.K) := Ww.or ou
end
section
variable {K : PySem.W.Frag} {H : Hp} {Q : VK} {σ : St}
theorem br {p q : Int} (h : Q (.int (p + q)) H) : kr K (.int p) (.int q) H Q := .inl (r_addI h)
theorem Pe {a b : Addr} {xs ys : List V} (h1 : H a = some (.lst xs)) (h2 : H b = some (.lst ys)) (h3 : xs.length + ys.length <= sizeLine) (h : ∀ p, H p = none -> Q (.ref p) (upd H p (.lst (xs ++ ys)))) : kr K (.ref a) (.ref b) H Q := .inl (r_addL h1 h2 h3 h)
theorem ow {r : V -> Option Int -> Option Int -> Hp -> VK -> Prop} {te : TE} {tl th : TO} (h : te σ H fun x H1 => tl σ H1 fun l H2 => th σ H2 fun u H3 => r x l u H3 Q) : tSl r te tl th σ H Q := h
theorem fu {QO : Option Int -> Hp -> Prop} (h : QO none H) : Jp σ H QO := h
theorem r_part {te : TE} {QO : Option Int -> Hp -> Prop} (h : te σ H fun x H1 => ∃ i, x = .int i /\ QO (some i) H1) : tPart te σ H QO := h
theorem vw {p : Int} {P : Int -> Prop} (h : P p) : ∃ i, V.int p = .int i /\ P i := ⟨p, rfl, h⟩
theorem ah {a : Addr} {xs : List V} {lo hi : Option Int} (h1 : H a = some (.lst xs)) (h : ∀ p, H p = none -> Q (.ref p) (upd H p (.lst (cutV xs lo hi)))) : rSl2 K (.ref a) lo hi H Q := .inl ⟨a, xs, rfl, SqL.of h1, h⟩
theorem Ys {xs : List V} {k : Nat} : cutV xs none (some (k : Int)) = xs.take k := by
 unfold cutV
 rw [HT.Wt, HT.fw, List.drop_zero, Nat.sub_zero]
 by_cases h : k <= xs.length
 . rw [Nat.min_eq_left h]
 . rw [Nat.min_eq_right (by omega), List.take_length, List.take_of_length_le (by omega)]
end
end L2
namespace L2
open PySem PySem.Spec PyProof.Rows
section
variable {X : Cx} {K : PySem.W.Frag}
theorem ixK (h : X.K = K) : IxR X (rIx2 K) := by subst h; exact ix_2
theorem addK (h : X.K = K) : OpR X (binaryOp .Add) (kr K) := by subst h; exact Vw
theorem eqK (h : X.K = K) (hu : X.A.units + 64 < cLine) : OpR X (compareOp .Eq) (rEqA K) := by subst h; exact op_eqA hu
theorem neK (h : X.K = K) (hu : X.A.units + 64 < cLine) : OpR X (compareOp .NotEq) (rNeA K) := by subst h; exact op_neA hu
theorem ltK (h : X.K = K) (hu : X.A.units + 64 < cLine) : OpR X (compareOp .Lt) (rLtA K) := by subst h; exact op_ltA hu
theorem leK (h : X.K = K) (hu : X.A.units + 64 < cLine) : OpR X (compareOp .LtE) (rLeA K) := by subst h; exact op_leA hu
theorem isiK (h : X.K = K) : Wc X (.builtin "isinstance") (rIsi K) := by subst h; exact cl_isi
theorem lenK (h : X.K = K) : Wc X (.builtin "len") (rLen K) := by subst h; exact cl_len
theorem Wo (h : X.K = K) : Wc X (.type "list") (gm K) := by subst h; exact Ax
theorem Su (h : X.K = K) : Wc X (.type "tuple") (nj K) := by subst h; exact Ju
theorem sumK (h : X.K = K) (hc : X.calm = true) : Wc X (.builtin "sum") (rSum K) := by subst h; exact cl_sum hc
theorem truK {a : Expr} {ta : TE} (h : X.K = K) (ha : PE X a ta) (he : ∀ whole, isTrue a X.env whole = (do let v <- whole; standAt a.pos; holding [v] (truthy v)) := by intro _; first | rfl | with_unfolding_all rfl) : PT X a (tTru K ta) := by subst h; exact pt_tru ha he
theorem piLK {tg l : Expr} {tl : TE} (h : X.K = K) (hl : PE X l tl) : PI X tg l (Bu K tl) := by subst h; exact Rw hl
theorem piTK {tg l : Expr} {tl : TE} (h : X.K = K) (hl : PE X l tl) : PI X tg l (iTup K tl) := by subst h; exact pi_tup hl
theorem slK (h : X.K = K) : SlR X (rSl2 K) := by subst h; exact sl_2
theorem fe {es : List Expr} {k : Nat} {t : TGs} {n : Nat} {pos : Pos} (hk : X.K = K) (hc : X.calm = true) (h : PGs X es t)
 (hn : (assignEach es X.env).length = n := by first | rfl | with_unfolding_all rfl) (hst : (assignEach es X.env).findIdx? (·.1) = none := by first | rfl | with_unfolding_all rfl) : PG X (.Tuple es k pos) (gTup K n t) := by subst hk; exact pg_tup hc h hn hst
end
end L2
namespace MB
def ch : Nat -> Nat -> Nat
 | _, 0 => 1
 | 0, _ + 1 => 0
 | n + 1, k + 1 => ch n k + ch n (k + 1)
theorem Ua (n : Nat) : ch n 0 = 1 := by cases n <;> rfl
theorem Rj (k : Nat) : ch 0 (k + 1) = 0 := rfl
theorem Vc (n k : Nat) : ch (n + 1) (k + 1) = ch n k + ch n (k + 1) := rfl
theorem Od : ∀ {n k : Nat}, n < k -> ch n k = 0
 | 0, k + 1, _ => rfl
 | n + 1, k + 1, h => by rw [Vc, Od (by omega), Od (by omega)]
theorem Hm : ∀ n : Nat, ch n n = 1
 | 0 => rfl
 | n + 1 => by rw [Vc, Hm n, Od (by omega)]
theorem ko : ∀ {n k : Nat}, k <= n -> 0 < ch n k
 | n, 0, _ => by rw [Ua]; decide
 | n + 1, k + 1, h => by rw [Vc]; have := ko (n := n) (k := k) (by omega); omega
theorem qe : ∀ n k : Nat, (k + 1) * ch (n + 1) (k + 1) = (n + 1) * ch n k
 | 0, 0 => rfl
 | 0, k + 1 => by rw [Vc, Rj, Rj]; omega
 | n + 1, 0 => by
  have h := qe n 0
  rw [Ua] at h
  rw [Vc (n + 1) 0, Ua]
  omega
 | n + 1, k + 1 => by
  have h1 := qe n k
  have h2 := qe n (k + 1)
  have e1 : ch (n + 1) (k + 1) = ch n k + ch n (k + 1) := Vc n k
  rw [Vc (n + 1) (k + 1)]
  have e2 : (k + 1 + 1) * (ch (n + 1) (k + 1) + ch (n + 1) (k + 1 + 1)) = (k + 1) * ch (n + 1) (k + 1) + ch (n + 1) (k + 1) + (k + 1 + 1) * ch (n + 1) (k + 1 + 1) := by
   rw [Nat.mul_add, Nat.add_mul (k + 1) 1, Nat.one_mul]
  rw [e2, h1, h2, e1]
  have e3 : (n + 1 + 1) * (ch n k + ch n (k + 1)) = (n + 1) * ch n k + (n + 1) * ch n (k + 1) + (ch n k + ch n (k + 1)) := by
   rw [Nat.add_mul (n + 1) 1, Nat.one_mul, Nat.mul_add]
  rw [e3]
  omega
theorem dt (n k : Nat) : (k + 1) * ch n (k + 1) = (n - k) * ch n k := by
 by_cases h : k <= n
 . have h1 := qe n k
   rw [Vc, Nat.mul_add] at h1
   have e : (n + 1) * ch n k = (n - k) * ch n k + (k + 1) * ch n k := by
    rw [<- Nat.add_mul]; congr 1; omega
   omega
 . rw [Od (by omega), Od (by omega), Nat.mul_zero, Nat.mul_zero]
theorem Gm : ∀ {n k : Nat}, k <= n -> ch n (n - k) = ch n k
 | 0, 0, _ => rfl
 | n + 1, 0, _ => by rw [Ua, Nat.sub_zero, Hm]
 | n + 1, k + 1, h => by
  by_cases e : k = n
  . subst e; rw [Nat.sub_self, Ua, Hm]
  . have h1 := Gm (n := n) (k := k) (by omega)
    have h2 := Gm (n := n) (k := k + 1) (by omega)
    have e1 : n + 1 - (k + 1) = (n - (k + 1)) + 1 := by omega
    rw [e1, Vc, Vc, h2]
    have e2 : n - (k + 1) + 1 = n - k := by omega
    rw [e2, h1]; omega
theorem Xa : ∀ n k : Nat, ch n k <= 2 ^ n
 | 0, 0 => by decide
 | 0, k + 1 => by rw [Rj]; decide
 | n + 1, 0 => by rw [Ua]; exact Nat.one_le_two_pow
 | n + 1, k + 1 => by
  have h1 := Xa n k
  have h2 := Xa n (k + 1)
  rw [Vc, Nat.pow_succ]; omega
def fall (n : Nat) : Nat -> Nat
 | 0 => 1
 | k + 1 => fall n k * (n - k)
def fac : Nat -> Nat
 | 0 => 1
 | k + 1 => fac k * (k + 1)
theorem Cm : ∀ k, 0 < fac k
 | 0 => by decide
 | k + 1 => Nat.mul_pos (Cm k) (by omega)
theorem Qs : ∀ n k : Nat, fall n k = ch n k * fac k
 | n, 0 => by rw [Ua]; rfl
 | n, k + 1 => by
  unfold fall fac
  rw [Qs n k]
  have h := dt n k
  calc ch n k * fac k * (n - k) = ((n - k) * ch n k) * fac k := by rw [Nat.mul_comm (n - k), Nat.mul_assoc, Nat.mul_assoc, Nat.mul_comm (fac k)]
   _ = ((k + 1) * ch n (k + 1)) * fac k := by rw [h]
   _ = ch n (k + 1) * (fac k * (k + 1)) := by rw [Nat.mul_comm (k + 1), Nat.mul_assoc, Nat.mul_comm (k + 1)]
theorem Fu (n k : Nat) : fall n k / fac k = ch n k := by
 rw [Qs, Nat.mul_div_cancel _ (Cm k)]
theorem Dv : ∀ k : Nat, k <= 512 -> fac k < 2 ^ (9 * k + 1)
 | 0, _ => by unfold fac; decide
 | k + 1, h => by
  unfold fac
  have h1 := Dv k (by omega)
  have e : 2 ^ (9 * (k + 1) + 1) = 2 ^ (9 * k + 1) * 512 := by rw [show 9 * (k + 1) + 1 = (9 * k + 1) + 9 by omega, Nat.pow_add]
  rw [e]
  calc fac k * (k + 1) <= fac k * 512 := Nat.mul_le_mul_left _ h
   _ < 2 ^ (9 * k + 1) * 512 := Nat.mul_lt_mul_of_pos_right h1 (by decide)
theorem Jv (n i : Nat) (h : i <= n) : ((ch n i : Int) * ((n : Int) - (i : Int))) / ((i : Int) + 1) = (ch n (i + 1) : Int) := by
 have e := dt n i
 have e1 : ((ch n i : Int) * ((n : Int) - (i : Int))) = (ch n (i + 1) : Int) * ((i : Int) + 1) := by
  have e2 : ((n : Int) - (i : Int)) = ((n - i : Nat) : Int) := by omega
  have e3 : ((i : Int) + 1) = ((i + 1 : Nat) : Int) := by omega
  rw [e2, e3, <- Int.natCast_mul, <- Int.natCast_mul, Nat.mul_comm, <- e, Nat.mul_comm]
 rw [e1, Int.mul_ediv_cancel _ (by omega)]
theorem Lk (n k : Nat) : (fall n k : Int) / (fac k : Int) = (ch n k : Int) := by
 rw [<- Int.natCast_ediv, Fu]
def W (many few : Int) : Int := if few < 0 \/ few > many then 0 else (ch many.toNat few.toNat : Int)
theorem Jm {many few : Int} (h : few < 0 \/ few > many) : W many few = 0 := by unfold W; rw [if_pos h]
theorem W_in {many few : Int} (h : ¬ (few < 0 \/ few > many)) : W many few = (ch many.toNat few.toNat : Int) := by unfold W; rw [if_neg h]
theorem Wj (n k : Nat) : W (n : Int) (k : Int) = (ch n k : Int) := by
 by_cases h : k <= n
 . rw [W_in (by omega)]; rfl
 . rw [Jm (by omega), Od (by omega)]; rfl
theorem W_symm {m k : Int} (h : 0 <= m) : W m (m - k) = W m k := by
 by_cases hk : k < 0 \/ k > m
 . rw [Jm hk, Jm (by omega)]
 . rw [W_in hk, W_in (by omega)]
   have e : (m - k).toNat = m.toNat - k.toNat := by omega
   rw [e, Gm (by omega)]
theorem ch_min {m k j : Int} (h0 : 0 <= k) (h1 : k <= m) (hj : j = k \/ j = m - k) : (ch m.toNat j.toNat : Int) = W m k := by
 rcases hj with rfl | rfl
 . rw [W_in (by omega)]
 . rw [<- W_symm (by omega), W_in (by omega)]
end MB
namespace BL
open PySem PySem.Spec PyProof.Rows L2
def DrL (H : Hp) (d l : Addr) : Prop := ∃ (ns : List Int) (i c r : Int), H d = some (.lst [.ref l, .int i, .int c, .int r]) /\ H l = some (.lst (ns.map V.int)) /\ l ≠ d /\ 0 <= i
theorem DrL.some {H : Hp} {d l : Addr} (D : DrL H d l) : (∃ xs, H d = some (.lst xs)) /\ ∃ xs, H l = some (.lst xs) := by
 obtain ⟨ns, i, c, r, h, h2, _⟩ := D; exact ⟨⟨_, h⟩, ⟨_, h2⟩⟩
theorem DrL.new {H : Hp} {d l p : Addr} {o : HO} (D : DrL H d l) (e : H p = none) : DrL (upd H p o) d l := by
 obtain ⟨ns, i, c, r, h, h2, n, z⟩ := D
 exact ⟨ns, i, c, r, by rw [La (oa h e)]; exact h, by rw [La (oa h2 e)]; exact h2, n, z⟩
theorem DrL.upd {H : Hp} {d l p : Addr} {o : HO} (D : DrL H d l) (e1 : p ≠ d) (e2 : p ≠ l) : DrL (L2.upd H p o) d l := by
 obtain ⟨ns, i, c, r, h, h2, n, z⟩ := D
 exact ⟨ns, i, c, r, by rw [La e1.symm]; exact h, by rw [La e2.symm]; exact h2, n, z⟩
theorem DrL.same {H H' : Hp} {d l : Addr} (D : DrL H d l) (e : Same H H') : DrL H' d l := by
 obtain ⟨ns, i, c, r, h, h2, n, z⟩ := D
 exact ⟨ns, i, c, r, e _ _ h, e _ _ h2, n, z⟩
theorem DrL.ne {H : Hp} {d l p : Addr} (D : DrL H d l) (e : H p = none) : p ≠ d /\ p ≠ l := by
 obtain ⟨⟨_, h1⟩, _, h2⟩ := D.some
 exact ⟨(oa h1 e).symm, (oa h2 e).symm⟩
def Bq (K : PySem.W.Frag) : Sp := fun vs H Q _ => ∃ (a : Addr) (ns : List Int), vs = [.ref a] /\ SqL K H a (ns.map V.int) /\ ∀ (d l : Addr) (H' : Hp), H d = none -> H l = none -> DrL H' d l -> Same H H' -> Q (.ref d) H'
theorem Aq {K : PySem.W.Frag} {a : Addr} {ns : List Int} {H : Hp} {Q : VK} {E : XK} (hS : SqL K H a (ns.map V.int)) (k : ∀ (d l : Addr) (H' : Hp), H d = none -> H l = none -> DrL H' d l -> Same H H' -> Q (.ref d) H') : Bq K [.ref a] H Q E := ⟨a, ns, rfl, hS, k⟩
def Wu : Sp := fun vs H Q _ => ∃ (d l : Addr) (m : Int), vs = [.ref d, .int m] /\ DrL H d l /\ 0 < m /\ (∃ n : Nat, m.natAbs < 2 ^ n /\ n <= 9000) /\ ∀ (g : Int) (H' : Hp), 0 <= g -> g < m -> DrL H' d l -> Fr1 d H H' -> Q (.int g) H'
def spInt : Sp := fun vs H Q _ => ∃ n : Int, vs = [.int n] /\ Q (.bl true) H
def Pp : Sp := fun vs H Q _ => ∃ m k : Int, vs = [.int m, .int k] /\ m < 512 /\ Q (.int (MB.W m k)) H
theorem Ub {d l : Addr} {m : Int} {H : Hp} {Q : VK} {E : XK} (D : DrL H d l) (h1 : 0 < m) (h2 : m < 4294967296) (k : ∀ (g : Int) (H' : Hp), 0 <= g -> g < m -> DrL H' d l -> Fr1 d H H' -> Q (.int g) H') : Wu [.ref d, .int m] H Q E :=
 ⟨d, l, m, rfl, D, h1, ⟨32, by omega, by decide⟩, k⟩
theorem kc {m k : Int} {H : Hp} {Q : VK} {E : XK} (h : m < 512) (q : Q (.int (MB.W m k)) H) : Pp [.int m, .int k] H Q E := ⟨m, k, rfl, h, q⟩
theorem yq {n : Int} {H : Hp} {Q : VK} {E : XK} (q : Q (.bl true) H) : spInt [.int n] H Q E := ⟨n, rfl, q⟩
end BL
namespace MB
def hv : Nat -> Nat -> Nat
 | n + 1, k + 1 => ch n k
 | _, _ => 0
theorem de (n : Nat) : hv n 0 = 0 := by cases n <;> rfl
theorem Jk (n k : Nat) : hv (n + 1) (k + 1) = ch n k := rfl
theorem Am (n k : Nat) : ch (n + 1) k = hv (n + 1) k + ch n k := by
 cases k with
 | zero => rw [de, Ua, Ua]
 | succ k => rw [Jk, Vc]
theorem hv_div (n k : Nat) (h : k <= n + 1) : (ch (n + 1) k : Int) * (k : Int) / ((n : Int) + 1) = (hv (n + 1) k : Int) := by
 cases k with
 | zero => rw [de]; simp
 | succ k =>
  rw [Jk]
  have e := qe n k
  have e1 : (ch (n + 1) (k + 1) : Int) * ((k + 1 : Nat) : Int) = (ch n k : Int) * ((n : Int) + 1) := by
   rw [show ((n : Int) + 1) = ((n + 1 : Nat) : Int) by omega, <- Int.natCast_mul, <- Int.natCast_mul, Nat.mul_comm, e, Nat.mul_comm]
  rw [e1, Int.mul_ediv_cancel _ (by omega)]
def pk : Nat -> Nat -> Nat -> Nat -> List Nat
 | 0, _, _, _ => []
 | n + 1, p, k, r => if r < hv (n + 1) k then p :: pk n (p + 1) (k - 1) r else pk n (p + 1) k (r - hv (n + 1) k)
def nm : Nat -> Nat -> List Nat -> Nat
 | 0, _, _ => 0
 | n + 1, p, l => match l with
  | [] => 0
  | x :: r => if x = p then nm n (p + 1) r else hv (n + 1) (r.length + 1) + nm n (p + 1) (x :: r)
theorem Xr (n p : Nat) : nm n p [] = 0 := by cases n <;> rfl
theorem nm_eq (n p : Nat) (r : List Nat) : nm (n + 1) p (p :: r) = nm n (p + 1) r := by
 rw [show nm (n + 1) p (p :: r) = if p = p then nm n (p + 1) r else hv (n + 1) (r.length + 1) + nm n (p + 1) (p :: r) from rfl, if_pos rfl]
theorem nm_ne {n p x : Nat} {r : List Nat} (h : ¬ x = p) : nm (n + 1) p (x :: r) = ch n r.length + nm n (p + 1) (x :: r) := by
 rw [show nm (n + 1) p (x :: r) = if x = p then nm n (p + 1) r else hv (n + 1) (r.length + 1) + nm n (p + 1) (x :: r) from rfl, if_neg h, Jk]
theorem Qw {n p k r : Nat} (h : r < hv (n + 1) k) : pk (n + 1) p k r = p :: pk n (p + 1) (k - 1) r := by
 rw [show pk (n + 1) p k r = if r < hv (n + 1) k then p :: pk n (p + 1) (k - 1) r else pk n (p + 1) k (r - hv (n + 1) k) from rfl, if_pos h]
theorem Cr {n p k r : Nat} (h : ¬ r < hv (n + 1) k) : pk (n + 1) p k r = pk n (p + 1) k (r - hv (n + 1) k) := by
 rw [show pk (n + 1) p k r = if r < hv (n + 1) k then p :: pk n (p + 1) (k - 1) r else pk n (p + 1) k (r - hv (n + 1) k) from rfl, if_neg h]
def Ris : Nat -> Nat -> List Nat -> Prop
 | _, _, [] => True
 | p, e, x :: r => p <= x /\ x < e /\ Ris (x + 1) e r
theorem Ris.mono : ∀ {l : List Nat} {p q e : Nat}, q <= p -> Ris p e l -> Ris q e l
 | [], _, _, _, _, _ => trivial
 | _ :: _, _, _, _, h, ⟨h1, h2, h3⟩ => ⟨by omega, h2, h3⟩
theorem Ris.len : ∀ {l : List Nat} {p e : Nat}, Ris p e l -> l.length <= e - p
 | [], _, _, _ => Nat.zero_le _
 | x :: r, p, e, ⟨h1, h2, h3⟩ => by
  have := Ris.len h3
  simp only [List.length_cons]; omega
theorem lu : ∀ {n p k r : Nat}, r < ch n k -> (pk n p k r).length = k /\ Ris p (p + n) (pk n p k r)
 | 0, p, 0, r, _ => ⟨rfl, trivial⟩
 | 0, p, k + 1, r, h => by rw [Rj] at h; omega
 | n + 1, p, k, r, h => by
  by_cases e : r < hv (n + 1) k
  . rw [Qw e]
    cases k with
    | zero => rw [de] at e; omega
    | succ k =>
     rw [Jk] at e
     have ih := lu (n := n) (p := p + 1) (k := k) (r := r) e
     rw [show k + 1 - 1 = k by omega]
     exact ⟨by rw [List.length_cons, ih.1], Nat.le_refl _, by omega, by rw [show p + (n + 1) = p + 1 + n by omega]; exact ih.2⟩
  . rw [Cr e]
    rw [Am] at h
    have ih := lu (n := n) (p := p + 1) (k := k) (r := r - hv (n + 1) k) (by omega)
    exact ⟨ih.1, (by rw [show p + (n + 1) = p + 1 + n by omega]; exact ih.2 : Ris (p + 1) (p + (n + 1)) _).mono (by omega)⟩
theorem kx : ∀ {n p k r : Nat}, r < ch n k -> nm n p (pk n p k r) = r
 | 0, p, 0, r, h => by rw [Ua] at h; unfold nm; omega
 | 0, p, k + 1, r, h => by rw [Rj] at h; omega
 | n + 1, p, k, r, h => by
  by_cases e : r < hv (n + 1) k
  . rw [Qw e]
    cases k with
    | zero => rw [de] at e; omega
    | succ k =>
     rw [Jk] at e
     rw [show k + 1 - 1 = k by omega, nm_eq]
     exact kx e
  . rw [Cr e]
    rw [Am] at h
    have ih := kx (n := n) (p := p + 1) (k := k) (r := r - hv (n + 1) k) (by omega)
    have ok := lu (n := n) (p := p + 1) (k := k) (r := r - hv (n + 1) k) (by omega)
    cases q : pk n (p + 1) k (r - hv (n + 1) k) with
    | nil =>
     rw [q] at ih ok
     rw [Xr] at ih ⊢
     have : k = 0 := by rw [<- ok.1]; rfl
     subst this
     rw [de] at *
     omega
    | cons x l =>
     rw [q] at ih ok
     obtain ⟨o1, o2, o3, _⟩ := ok
     rw [nm_ne (by omega), ih]
     have : l.length + 1 = k := by rw [<- o1]; rfl
     subst this
     rw [Jk] at *
     omega
def run (x : Nat) : Nat -> List Nat
 | 0 => []
 | k + 1 => x :: run (x + 1) k
end MB
namespace BL
open PySem PySem.Spec PyProof.Rows L2
def zs (l : List Nat) : List Int := l.map (fun x : Nat => (x : Int))
def tupN (l : List Nat) : HO := .tup ((zs l).map V.int)
def lstN (l : List Nat) : HO := .lst ((zs l).map V.int)
theorem Qu (l : List Nat) : (zs l).length = l.length := List.length_map _
theorem lst_snoc (l : List Nat) (x : Nat) : ((zs l).map V.int ++ [V.int (x : Int)]) = (zs (l ++ [x])).map V.int := by
 unfold zs; simp
def zq : Sp := fun vs H Q _ => ∃ t n k : Int, vs = [.int t, .int n, .int k] /\ 0 < n /\ n < 4294967296 /\ -4294967296 < k /\ k < 4294967296 /\ Q (.int (t * k / n)) H
theorem qk {t n k : Int} {H : Hp} {Q : VK} {E : XK} (h1 : 0 < n) (h2 : n < 4294967296) (h3 : -4294967296 < k) (h4 : k < 4294967296) (q : Q (.int (t * k / n)) H) : zq [.int t, .int n, .int k] H Q E := ⟨t, n, k, rfl, h1, h2, h3, h4, q⟩
def av : Sp := fun vs H Q _ => ∃ m k r : Nat, vs = [.int m, .int k, .int r] /\ m < 512 /\ r < MB.ch m k /\ ∀ (t : Addr) (H' : Hp), H t = none -> Same H H' -> H' t = some (tupN (MB.pk m 0 k r)) -> Q (.ref t) H'
theorem Jt {m k r : Nat} {H : Hp} {Q : VK} {E : XK} (h1 : m < 512) (h2 : r < MB.ch m k) (q : ∀ (t : Addr) (H' : Hp), H t = none -> Same H H' -> H' t = some (tupN (MB.pk m 0 k r)) -> Q (.ref t) H') : av [.int m, .int k, .int r] H Q E := ⟨m, k, r, rfl, h1, h2, q⟩
def pkB (many : Int) : Int -> List Int -> Bool
 | _, [] => true
 | last, x :: r => if x <= last \/ x ≥ many then false else pkB many x r
theorem vv {e : Nat} : ∀ {l : List Nat} {p : Nat}, MB.Ris p e l -> pkB e ((p : Int) - 1) (zs l) = true
 | [], _, _ => rfl
 | x :: r, p, ⟨h1, h2, h3⟩ => by
  show (if (x : Int) <= (p : Int) - 1 \/ (x : Int) ≥ e then false else pkB e (x : Int) (zs r)) = true
  rw [if_neg (by omega)]
  have := vv h3
  rw [show ((x + 1 : Nat) : Int) - 1 = (x : Int) by omega] at this
  exact this
def mn : Sp := fun vs H Q _ => ∃ (m : Int) (t : Addr) (ns : List Int), vs = [.int m, .ref t] /\ H t = some (.tup (ns.map V.int)) /\ Q (.bl (pkB m (-1) ns)) H
theorem Co {m : Int} {t : Addr} {ns : List Int} {H : Hp} {Q : VK} {E : XK} (h1 : H t = some (.tup (ns.map V.int))) (q : Q (.bl (pkB m (-1) ns)) H) : mn [.int m, .ref t] H Q E := ⟨m, t, ns, rfl, h1, q⟩
def gn : Sp := fun vs H Q _ => ∃ (m : Nat) (t : Addr) (l : List Nat), vs = [.int m, .ref t] /\ H t = some (tupN l) /\ m < 512 /\ MB.Ris 0 m l /\ Q (.int (MB.nm m 0 l)) H
theorem Bo {m : Nat} {t : Addr} {l : List Nat} {H : Hp} {Q : VK} {E : XK} (h1 : H t = some (tupN l)) (h2 : m < 512) (h3 : MB.Ris 0 m l) (q : Q (.int (MB.nm m 0 l)) H) : gn [.int m, .ref t] H Q E := ⟨m, t, l, rfl, h1, h2, h3, q⟩
theorem ua (l : List Nat) : ((zs l).map V.int).length = l.length := by rw [List.length_map, Qu]
theorem Ab {l : List Nat} {i : Nat} {x : Nat} (h : l[i]? = some x) : atI ((zs l).map V.int) (i : Int) = some (.int (x : Int)) := by
 refine Pb ?_
 unfold zs
 rw [List.getElem?_map, List.getElem?_map, h]; rfl
theorem Kg {m i k : Nat} (h : i < m) (hk : k <= m - i) : (MB.ch (m - i) k : Int) * (k : Int) / ((m : Int) - (i : Int)) = (MB.hv (m - i) k : Int) := by
 obtain ⟨n, hn⟩ : ∃ n, m - i = n + 1 := ⟨m - i - 1, by omega⟩
 have := MB.hv_div n k (by omega)
 rw [hn]
 rw [show ((m : Int) - (i : Int)) = (n : Int) + 1 by omega]
 exact this
theorem ch_hv {m i k : Nat} (h : i < m) : MB.ch (m - i) k = MB.hv (m - i) k + MB.ch (m - (i + 1)) k := by
 obtain ⟨n, hn⟩ : ∃ n, m - i = n + 1 := ⟨m - i - 1, by omega⟩
 rw [hn, show m - (i + 1) = n by omega]
 exact MB.Am n k
theorem ux {m i k : Nat} (h : i < m) : MB.hv (m - i) (k + 1) = MB.ch (m - (i + 1)) k := by
 obtain ⟨n, hn⟩ : ∃ n, m - i = n + 1 := ⟨m - i - 1, by omega⟩
 rw [hn, show m - (i + 1) = n by omega]; rfl
theorem hv_pos {m i k r : Nat} (h : r < MB.hv (m - i) k) : ∃ j, k = j + 1 := by
 cases k with
 | zero => rw [MB.de] at h; omega
 | succ j => exact ⟨j, rfl⟩
theorem pk_in' {m i k r : Nat} (h : i < m) (hr : r < MB.hv (m - i) k) : MB.pk (m - i) i k r = i :: MB.pk (m - (i + 1)) (i + 1) (k - 1) r := by
 obtain ⟨n, hn⟩ : ∃ n, m - i = n + 1 := ⟨m - i - 1, by omega⟩
 rw [hn] at hr ⊢
 rw [show m - (i + 1) = n by omega]
 exact MB.Qw hr
theorem Pw {m i k r : Nat} (h : i < m) (hr : ¬ r < MB.hv (m - i) k) : MB.pk (m - i) i k r = MB.pk (m - (i + 1)) (i + 1) k (r - MB.hv (m - i) k) := by
 obtain ⟨n, hn⟩ : ∃ n, m - i = n + 1 := ⟨m - i - 1, by omega⟩
 rw [hn] at hr ⊢
 rw [show m - (i + 1) = n by omega]
 exact MB.Cr hr
theorem oo {n k r : Nat} (h : r < MB.ch n k) : k <= n := by
 rcases Nat.lt_or_ge n k with z | z
 . rw [MB.Od z] at h; omega
 . exact z
theorem nm_eq' {m i : Nat} {r : List Nat} (h : i < m) : MB.nm (m - i) i (i :: r) = MB.nm (m - (i + 1)) (i + 1) r := by
 obtain ⟨n, hn⟩ : ∃ n, m - i = n + 1 := ⟨m - i - 1, by omega⟩
 rw [hn, show m - (i + 1) = n by omega]
 exact MB.nm_eq n i r
theorem nm_ne' {m i : Nat} {r : List Nat} (h : i < m) (hr : ∀ x l, r = x :: l -> ¬ x = i) : MB.nm (m - i) i r = MB.hv (m - i) r.length + MB.nm (m - (i + 1)) (i + 1) r := by
 obtain ⟨n, hn⟩ : ∃ n, m - i = n + 1 := ⟨m - i - 1, by omega⟩
 rw [hn, show m - (i + 1) = n by omega]
 cases r with
 | nil => rw [MB.Xr, MB.Xr, List.length_nil, MB.de]
 | cons x l => rw [MB.nm_ne (hr x l rfl), List.length_cons, MB.Jk]
end BL
namespace BL
end BL
namespace BL
open PySem PySem.Spec PyProof.Rows L2
def tupF (q : Int × Int) : HO := .tup [.int q.1, .int q.2]
structure FrAt (H : Hp) (f : Addr) (ps : List Addr) (qs : List (Int × Int)) : Prop where
 ls : H f = some (.lst (ps.map V.ref))
 it : ∀ i : Nat, ∀ p, ps[i]? = some p -> ∃ q, qs[i]? = some q /\ H p = some (tupF q)
 ln : ps.length = qs.length
theorem Ja {α : Type} {l : List α} {i : Nat} {x : α} (h : l[i]? = some x) : l.take (i + 1) = l.take i ++ [x] := by
 rw [List.take_add_one, h]; rfl
theorem FrAt.push {H : Hp} {f p : Addr} {ps : List Addr} {qs : List (Int × Int)} {q : Int × Int} (F : FrAt H f ps qs) (hp : H p = none) : FrAt (upd (upd H p (tupF q)) f (.lst (ps.map V.ref ++ [.ref p]))) f (ps ++ [p]) (qs ++ [q]) := by
 have hfp : f ≠ p := oa F.ls hp
 refine ⟨by rw [ja]; simp, fun i p' h => ?_, by rw [List.length_append, List.length_append, F.ln]; rfl⟩
 by_cases hi : i < ps.length
 . rw [List.getElem?_append_left hi] at h
   obtain ⟨q', a, b⟩ := F.it i p' h
   refine ⟨q', by rw [List.getElem?_append_left (by rw [<- F.ln]; exact hi)]; exact a, ?_⟩
   rw [La (Fj b F.ls Ji), La (oa b hp)]
   exact b
 . rw [List.getElem?_append_right (by omega)] at h
   have e : i - ps.length = 0 := by
    cases z : i - ps.length with
    | zero => rfl
    | succ k => rw [z] at h; simp at h
   rw [e] at h
   simp at h
   subst h
   refine ⟨q, by rw [List.getElem?_append_right (by rw [<- F.ln]; omega), <- F.ln, e]; rfl, ?_⟩
   rw [La hfp.symm, ja]
end BL
namespace MB
end MB
namespace BL
open PySem PySem.Spec PyProof.Rows L2
end BL
namespace L2
open PySem PySem.Spec PyProof.Rows
section
variable {X : Cx} {pins : List (Addr × Obj)} {σ : St} {H : Hp} {s : Shared} {h' : Heap}
theorem Inv.Gi {t' : Nat} {ch : List Addr} (I : Inv X pins σ H s) (k : ∀ b o, b ∉ ch -> s.heap.get? b = some o -> h'.get? b = some o) (hf : ∀ b ∈ ch, FpOk X pins H b) : Inv X pins σ H { s with heap := h', toks := t' } := by
 have nit : ∀ b u, H b = some u -> b ∉ ch := fun b u e z => by rw [(hf b z).1] at e; cases e
 refine I.step (g' := s.gens) (d' := s.drawn) (ch := ch) (fun b hb => ?_) (fun b o _ _ hc e _ => k b o hc e) (fun b o _ _ hc e _ => ⟨o.slots, k b o hc e⟩) (fun _ _ _ _ n => n)
  (fun b o hc e => ⟨o, k b o hc e⟩) (fun _ _ e => e) (fun _ _ _ e => e) (fun b ps e => ⟨#[], by rw [e]; simp⟩) (fun m hm => ?_) (fun b u e => ?_) I.bare
 . obtain ⟨f0, f1, f2, f3, f4, f5⟩ := hf b hb
   exact ⟨f3, f1, f4, f5⟩
 . obtain ⟨o, es, ep, ho, r⟩ := hm
   exact ⟨o, es, ep, k _ o (fun z => (hf _ z).2.1 rfl) ho, r⟩
 . refine (I.hok b u e).stay (fun c v hc q => k c v ?_ q) (fun _ q => q) fun _ _ q => q
   rcases hc with z | z
   . rw [z]; exact nit b u e
   . exact nit c _ z
theorem Inv.Jg {t' : Nat} {ch : List Addr} {a : Addr} {o : HO} (I : Inv X pins σ H s) (k : ∀ b u, b ∉ ch -> s.heap.get? b = some u -> h'.get? b = some u) (hf : ∀ b ∈ ch, FpOk X pins H b) (hp : s.heap.objs.size <= a)
 (new : Hc X.prog X.w (upd H a o) h' a o) : Inv X pins σ (upd H a o) { s with heap := h', toks := t' } := by
 have hn : H a = none := I.hok.fresh hp
 have I1 := I.Gi (t' := t') k hf
 have nea : ∀ b u, s.heap.get? b = some u -> b ≠ a := fun b u e => Nat.ne_of_lt (Nat.lt_of_lt_of_le (Heap.lt_size e) hp)
 refine I.step (g' := s.gens) (d' := s.drawn) (ch := ch) (fun b hb => ?_) (fun b o _ _ hc e _ => k b o hc e) (fun b o _ _ hc e _ => ⟨o.slots, k b o hc e⟩) (fun b u _ e n => by rw [La (nea b u e)]; exact n)
  (fun b o hc e => ⟨o, k b o hc e⟩) (fun b xs e => by rw [La (oa e hn)]; exact e) (fun b o u e => by rw [La (oa e hn)]; exact e) (fun b ps e => ⟨#[], by rw [La (oa e hn), e]; simp⟩) (fun m hm => ?_) (I1.hok.Qv hn new) I.bare
 . obtain ⟨f0, f1, f2, f3, f4, f5⟩ := hf b hb
   exact ⟨f3, f1, f4, f5⟩
 . obtain ⟨o, es, ep, ho, r⟩ := hm
   exact ⟨o, es, ep, k _ o (fun z => (hf _ z).2.1 rfl) ho, r⟩
end
def Ite (a : Addr) : It :=
 ⟨fun i H => ∃ xs x, H a = some (.lst xs) /\ xs[i]? = some x, fun i H v H' => ∃ T xs x, v = .ref T /\ H T = none /\ H a = some (.lst xs) /\ xs[i]? = some x /\ H' = upd H T (.tup [.int (i : Int), x]), fun i H => ∃ xs, H a = some (.lst xs) /\ xs.length <= i⟩
theorem Gp {P : Program} {w : World} {K : PySem.W.Frag} {elts : List Expr} {k : Nat} {pos : Pos} (a e it : Addr) (hei : e ≠ it) (hae : a ≠ e) (hai : a ≠ it) :
 Turn P w K (.Tuple elts k pos) (Ite a) [e, it] e (fun i h => (∃ old, IsEnum h e it i old) /\ h.IsListIter it a i) where
 mem := by simp
 obj := fun i h st b hb => by
  obtain ⟨⟨old, he⟩, o, ho, c, d⟩ := st
  rcases List.mem_cons.mp hb with rfl | hb
  . exact ⟨_, he, fun v z => by cases z⟩
  . have e' : b = it := by simpa using hb
    subst e'
    exact ⟨o, ho, fun v z => by rw [d] at z; cases z⟩
 keep := fun i h h' st k => by
  obtain ⟨⟨old, he⟩, hi⟩ := st
  exact ⟨⟨old, k e (by simp) _ he⟩, hi.at fun o q => k it (by simp) o q⟩
 item := by
  intro X hP hw hK hc i pins s σ H E I hf st hg
  subst hP hw hK
  obtain ⟨xs, x, hq, hx⟩ := hg
  obtain ⟨its, rv, p, hz⟩ := I.list (SqL.of (K := X.K) hq)
  obtain ⟨u, hu, ru⟩ := rv.get hx
  have W := WalksT.enumerate (prog := X.prog) (w := X.w) (I.ok.hd hc) e it a hei hae hai its.toArray
  have hlt : i < its.toArray.size := by
   have := (List.getElem?_eq_some_iff.mp hu).1
   simpa using this
  refine W.item i s _ _ hlt ⟨st.1, st.2, p.isList⟩ fun T vals h1 tk hPt hT hTup hMid hk => ?_
  have hTw := W.apart _ _ _ hMid
  refine ⟨_, rfl, W.go elts k pos i T _ _ _ hMid fun h2 hSt hk2 => ?_⟩
  obtain ⟨t, x', hx', hv⟩ := hPt
  have ex : x' = u := by
   rw [List.getElem?_toArray, hu] at hx'
   exact (Option.some.inj hx').symm
  subst ex
  subst hv
  have hTn : H T = none := I.hok.fresh hT
  refine ⟨.ref T, upd H T (.tup [.int (i : Int), x]), ?_, rfl, ⟨T, xs, x, rfl, hTn, hq, hx, rfl⟩, ⟨hSt.1, hSt.2.1⟩, fun b hb => ?_⟩
  . refine I.Jg (t' := tk) (ch := [e, it]) (fun b o hb q => hk2 b o hb (hk b o hb q)) hf hT ?_
    refine ⟨by simp only [List.length_cons, List.length_nil]; rw [sizeLine_eq]; decide, [.int (i : Int) t, x'], .cons ⟨_, rfl⟩ (.cons ru .nil), ?_⟩
    obtain ⟨o, ho, c, n, d⟩ := hTup
    exact ⟨o, hk2 T o hTw ho, c, n, d⟩
  . rw [La (fun z => by subst z; exact hTw hb)]
    exact (hf b hb).1
 done := by
  intro X hP hw hK hc i pins s σ H E I hf st hg
  subst hP hw hK
  obtain ⟨xs, hq, hx⟩ := hg
  obtain ⟨its, rv, p, hz⟩ := I.list (SqL.of (K := X.K) hq)
  obtain ⟨⟨old, he⟩, hit⟩ := st
  have hl := rv.length
  refine wpAny_pyNext_enum_end (I.ok.hd hc) he hit p.isList (by rw [List.getElem?_toArray]; exact List.getElem?_eq_none (by omega)) fun h' hx' => ⟨rfl, ?_⟩
  exact I.Gi (t' := s.toks) (ch := [e, it]) (fun b o hb q => hx' b o (fun z => hb (by simp [z])) q) hf
 self := fun A i s Q E st h => by
  obtain ⟨⟨old, he⟩, _⟩ := st
  exact wpAny_pyIter_enum he h
def Itz (a b : Addr) : It :=
 ⟨fun i H => ∃ xs ys x y, H a = some (.lst xs) /\ H b = some (.lst ys) /\ xs[i]? = some x /\ ys[i]? = some y,
  fun i H v H' => ∃ T xs ys x y, v = .ref T /\ H T = none /\ H a = some (.lst xs) /\ H b = some (.lst ys) /\ xs[i]? = some x /\ ys[i]? = some y /\ H' = upd H T (.tup [x, y]),
  fun i H => ∃ xs ys, H a = some (.lst xs) /\ H b = some (.lst ys) /\ (xs.length <= i \/ ys.length <= i)⟩
theorem Ft {P : Program} {w : World} {K : PySem.W.Frag} {elts : List Expr} {k : Nat} {pos : Pos} (a b z TI TO i1 i2 : Addr) (D : ZipApart z TI TO i1 i2 a b) :
 Turn P w K (.Tuple elts k pos) (Itz a b) [z, TI, TO, i1, i2] z (fun i h => IsZip h z TI TO .none /\ IsPair h TI (.ref i1) (.ref i2) /\ (∃ x y, IsPair h TO x y) /\ h.IsListIter i1 a i /\ h.IsListIter i2 b i) where
 mem := by simp
 obj := fun i h st c hc => by
  obtain ⟨hz, hTI, ⟨x, y, hTO⟩, ⟨o1, h1, c1, d1⟩, ⟨o2, h2, c2, d2⟩⟩ := st
  simp only [List.mem_cons, List.not_mem_nil, or_false] at hc
  rcases hc with rfl | rfl | rfl | rfl | rfl
  . exact ⟨_, hz, fun v q => by cases q⟩
  . exact ⟨_, hTI, fun v q => by cases q⟩
  . exact ⟨_, hTO, fun v q => by cases q⟩
  . exact ⟨o1, h1, fun v q => by rw [d1] at q; cases q⟩
  . exact ⟨o2, h2, fun v q => by rw [d2] at q; cases q⟩
 keep := fun i h h' st k => by
  obtain ⟨hz, hTI, ⟨x, y, hTO⟩, h1, h2⟩ := st
  exact ⟨k z (by simp) _ hz, k TI (by simp) _ hTI, ⟨x, y, k TO (by simp) _ hTO⟩, h1.at fun o q => k i1 (by simp) o q, h2.at fun o q => k i2 (by simp) o q⟩
 item := by
  intro X hP hw hK hc i pins s σ H E I hf st hg
  subst hP hw hK
  obtain ⟨xs, ys, x, y, hq1, hq2, hx, hy⟩ := hg
  obtain ⟨its1, rv1, p1, _⟩ := I.list (SqL.of (K := X.K) hq1)
  obtain ⟨its2, rv2, p2, _⟩ := I.list (SqL.of (K := X.K) hq2)
  obtain ⟨u, hu, ru⟩ := rv1.get hx
  obtain ⟨v, hv, rv⟩ := rv2.get hy
  have W := WalksT.zip2 (prog := X.prog) (w := X.w) (I.ok.hd hc) z TI TO i1 i2 a b D its1.toArray its2.toArray
  have hlt : i < min its1.toArray.size its2.toArray.size := by
   have e1 := (List.getElem?_eq_some_iff.mp hu).1
   have e2 := (List.getElem?_eq_some_iff.mp hv).1
   simp only [List.size_toArray]
   omega
  obtain ⟨hz, hTI, hTO, h1, h2⟩ := st
  refine W.item i s _ _ hlt ⟨hz, hTI, hTO, h1, h2, p1.isList, p2.isList⟩ fun T vals hh tk hPt hT hTup hMid hk => ?_
  have hTw := W.apart _ _ _ hMid
  refine ⟨_, rfl, W.go elts k pos i T _ _ _ hMid fun h3 hSt hk2 => ?_⟩
  obtain ⟨x', y', hx', hy', hvs⟩ := hPt
  have ex : x' = u := by rw [List.getElem?_toArray, hu] at hx'; exact (Option.some.inj hx').symm
  have ey : y' = v := by rw [List.getElem?_toArray, hv] at hy'; exact (Option.some.inj hy').symm
  subst ex ey hvs
  have hTn : H T = none := I.hok.fresh hT
  have hTI' : T ≠ TI := fun q => by subst q; exact absurd (Nat.lt_of_lt_of_le (Heap.lt_size hTI) hT) (Nat.lt_irrefl _)
  refine ⟨.ref T, upd H T (.tup [x, y]), ?_, rfl, ⟨T, xs, ys, x, y, rfl, hTn, hq1, hq2, hx, hy, rfl⟩, ⟨hSt.1, hSt.2.1, hSt.2.2.1, hSt.2.2.2.1, hSt.2.2.2.2.1⟩, fun c hc' => ?_⟩
  . refine I.Jg (t' := tk) (ch := [z, TO, i1, i2]) (fun c o hc' q => hk2 c o hc' (hk c o hc' q)) (fun c hc' => hf c (W.sub c hc' |> fun q => by simp at hc' ⊢; rcases hc' with rfl | rfl | rfl | rfl <;> simp)) hT ?_
    refine ⟨by simp only [List.length_cons, List.length_nil]; rw [sizeLine_eq]; decide, [x', y'], .cons ru (.cons rv .nil), ?_⟩
    obtain ⟨o, ho, c, n, d⟩ := hTup
    exact ⟨o, hk2 T o hTw ho, c, n, d⟩
  . rw [La (fun q => by
     subst q
     simp only [List.mem_cons, List.not_mem_nil, or_false] at hc' hTw
     rcases hc' with q | q | q | q | q
     . exact hTw (.inl q)
     . exact hTI' q
     . exact hTw (.inr (.inl q))
     . exact hTw (.inr (.inr (.inl q)))
     . exact hTw (.inr (.inr (.inr q))))]
    exact (hf c hc').1
 done := by
  intro X hP hw hK hc i pins s σ H E I hf st hg
  subst hP hw hK
  obtain ⟨xs, ys, hq1, hq2, hx⟩ := hg
  obtain ⟨its1, rv1, p1, _⟩ := I.list (SqL.of (K := X.K) hq1)
  obtain ⟨its2, rv2, p2, _⟩ := I.list (SqL.of (K := X.K) hq2)
  obtain ⟨hz, hTI, ⟨x, y, hTO⟩, h1, h2⟩ := st
  have l1 := rv1.length
  have l2 := rv2.length
  refine wpAny_pyNext_zip_end (I.ok.hd hc) D hz hTI hTO h1 h2 p1.isList p2.isList ?_ fun h' hk => ⟨rfl, ?_⟩
  . rcases hx with hx | hx
    . exact .inl (by rw [List.getElem?_toArray]; exact List.getElem?_eq_none (by omega))
    . exact .inr (by rw [List.getElem?_toArray]; exact List.getElem?_eq_none (by omega))
  . exact I.Gi (t' := s.toks) (ch := [z, TI, TO, i1, i2]) (fun c o hc' q => hk c o (fun q => hc' (by simp [q])) (fun q => hc' (by simp [q])) (fun q => hc' (by simp [q])) (fun q => hc' (by simp [q])) q) hf
 self := fun A i s Q E st h => wpAny_pyIter_zip st.1 h
def tx (tA : TA) : TI := fun σ H R => tA σ H fun vs H1 => ∃ a xs, vs = [.ref a] /\ H1 a = some (.lst xs) /\ R (Ite a) H1
def iZip (tA : TA) : TI := fun σ H R => tA σ H fun vs H1 => ∃ a b xs ys, vs = [.ref a, .ref b] /\ H1 a = some (.lst xs) /\ H1 b = some (.lst ys) /\ R (Itz a b) H1
theorem Uk : bootBuiltins "enumerate" = some (.type "enumerate") := by decide +kernel
theorem Kv : bootBuiltins "zip" = some (.type "zip") := by decide +kernel
section
variable {X : Cx}
theorem Zd {elts : List Expr} {k : Nat} {tp : Pos} {a : Expr} {ta : TA} {p pos : Pos} (hg : Gl X "enumerate") (hm : X.mg "enumerate" = none) (ha : PA X [a] ta) (hs : starEach [a] X.env = [(false, eval a X.env)] := by first | rfl | with_unfolding_all rfl) :
 PI X (.Tuple elts k tp) (.Call (.Name "enumerate" p) [a] [] pos) (tx ta) := by
 intro pins s σ H R I h
 refine Call_ (Ge I hg hm Uk (PyProof.Rows.callWith_type1 (thn (ha pos pins s σ H _ I h) fun us s1 ⟨vs, H1, I1, r1, q1⟩ => ?_) hs rfl))
 obtain ⟨l, xs, e, hl, q⟩ := q1
 subst e
 cases r1 with
 | cons r rr =>
  cases rr
  cases r
  obtain ⟨_, its, n, _, _, hget⟩ := I1.lstM hl
  have hll : l < s1.heap.objs.size := Heap.lt_size hget
  refine call_enumerate_1 hget fun h' he hi hsz hk => wpAny_pyIter_enum he ?_
  have I2 : Inv X pins σ H1 { s1 with heap := h' } := I1.kept (t' := s1.toks) hk
  refine ⟨s1.heap.objs.size + 1, [s1.heap.objs.size + 1, s1.heap.objs.size], _, _, H1, rfl, I2, Gp l _ _ (Nat.ne_of_gt (Nat.lt_succ_self _)) (Nat.ne_of_lt (Nat.lt_succ_of_lt hll)) (Nat.ne_of_lt hll), ⟨⟨_, he⟩, hi⟩, fun b hb => ?_, q⟩
  have hle : s1.heap.objs.size <= b := by
   simp only [List.mem_cons, List.not_mem_nil, or_false] at hb
   rcases hb with hb | hb
   . rw [hb]; exact Nat.le_succ _
   . rw [hb]; exact Nat.le_refl _
  exact I1.fpOk hle (I1.hok.fresh hle)
theorem Nn {elts : List Expr} {k : Nat} {tp : Pos} {a b : Expr} {ta : TA} {p pos : Pos} (hg : Gl X "zip") (hm : X.mg "zip" = none) (ha : PA X [a, b] ta) (hs : starEach [a, b] X.env = [(false, eval a X.env), (false, eval b X.env)] := by first | rfl | with_unfolding_all rfl) (hs2 : starEach [b] X.env = [(false, eval b X.env)] := by first | rfl | with_unfolding_all rfl) :
 PI X (.Tuple elts k tp) (.Call (.Name "zip" p) [a, b] [] pos) (iZip ta) := by
 intro pins s σ H R I h
 refine Call_ (Ge I hg hm Kv (PyProof.Rows.callWith_type1 (thn (ha pos pins s σ H _ I h) fun us s1 ⟨vs, H1, I1, r1, q1⟩ => ?_) (by rw [hs, hs2]) (by rw [hs2]; rfl)))
 obtain ⟨l1, l2, xs, ys, e, hl1, hl2, q⟩ := q1
 subst e
 cases r1 with
 | cons r rr =>
  cases rr with
  | cons r' rr =>
   cases rr
   cases r
   cases r'
   obtain ⟨its1, _, p1, _⟩ := I1.list (SqL.of (K := X.K) hl1)
   obtain ⟨its2, _, p2, _⟩ := I1.list (SqL.of (K := X.K) hl2)
   have a1 : l1 < s1.heap.objs.size := I1.hok.lt hl1
   have a2 : l2 < s1.heap.objs.size := I1.hok.lt hl2
   refine call_zip_2 p1.isList p2.isList fun h' hz hTI hTO h1 h2 hsz hk => wpAny_pyIter_zip hz ?_
   have I2 : Inv X pins σ H1 { s1 with heap := h' } := I1.kept (t' := s1.toks) hk
   refine ⟨s1.heap.objs.size + 4, [s1.heap.objs.size + 4, s1.heap.objs.size + 2, s1.heap.objs.size + 3, s1.heap.objs.size, s1.heap.objs.size + 1], _, _, H1, rfl, I2, Ft l1 l2 _ _ _ _ _ (zipApart_new a1 a2), ⟨hz, hTI, ⟨_, _, hTO⟩, h1, h2⟩, fun b hb => ?_, q⟩
   have hle : s1.heap.objs.size <= b := by
    simp only [List.mem_cons, List.not_mem_nil, or_false] at hb
    rcases hb with hb | hb | hb | hb | hb <;> rw [hb]
    . exact Nat.le_add_right _ _
    . exact Nat.le_add_right _ _
    . exact Nat.le_add_right _ _
    . exact Nat.le_refl _
    . exact Nat.le_add_right _ _
   exact I1.fpOk hle (I1.hok.fresh hle)
end
end L2
namespace L2
open PySem PySem.Spec PyProof.Rows
def ForJ (J : It) (g : TG) (tb : TS) (D : Ends) (σ : St) (H : Hp) : Prop := ∃ W : Nat -> Nat -> St -> Hp -> Prop, (∃ m, W 0 m σ H) /\ ∀ i m σ H, W i m σ H ->
 (J.stop i H /\ D.nx σ H) \/ (J.go i H /\ ∃ N : St -> Hp -> Prop, (∀ σ' H', N σ' H' -> ∃ m', m' < m /\ W (i + 1) m' σ' H') /\ ∀ x H', J.yld i H x H' -> g x σ H' fun σ2 H2 => tb { D with nx := N, ct := N, bk := D.nx } σ2 H2)
def ForE (vs : List V) (g : TG) (tb : TS) (D : Ends) (σ : St) (H : Hp) : Prop := ∃ a xs, vs = [.ref a] /\ H a = some (.lst xs) /\ ForJ (Ite a) g tb D σ H
section
variable {tA : TA} {g : TG} {tb : TS} {D : Ends} {σ : St} {H : Hp} {n b c : St -> Hp -> Prop} {r : VK}
theorem r_forE (h : tA σ H fun vs H1 => ForE vs g tb D σ H1) : tFor (tx tA) g tb D σ H := h
theorem forE {a : Addr} {xs : List V} (Pv : Nat -> St -> Hp -> Prop) (h0 : Pv 0 σ H) (hl : ∀ i σ H, i <= xs.length -> Pv i σ H -> H a = some (.lst xs))
 (hs : ∀ (i : Nat) x σ H T, xs[i]? = some x -> Pv i σ H -> H T = none -> g (.ref T) σ (upd H T (.tup [.int (i : Int), x])) fun σ2 H2 => tb ⟨Pv (i + 1), r, n, Pv (i + 1)⟩ σ2 H2) (hd : ∀ σ H, Pv xs.length σ H -> n σ H) : ForE [.ref a] g tb ⟨n, r, b, c⟩ σ H := by
 refine ⟨a, xs, rfl, hl 0 σ H (Nat.zero_le _) h0, fun i m σ' H' => m = xs.length - i /\ i <= xs.length /\ Pv i σ' H', ⟨xs.length, by simp, Nat.zero_le _, h0⟩, ?_⟩
 rintro i m σ' H' ⟨rfl, hi, p⟩
 have q := hl i σ' H' hi p
 by_cases hlt : i < xs.length
 . refine .inr ⟨⟨xs, xs[i], q, by simp [hlt]⟩, Pv (i + 1), fun σ' H' p' => ⟨xs.length - (i + 1), by omega, rfl, hlt, p'⟩, fun v H2 y => ?_⟩
   obtain ⟨T, xs', x, rfl, hT, hq, hx, rfl⟩ := y
   rw [q] at hq
   cases hq
   exact hs i x σ' H' T hx p hT
 . have e : i = xs.length := by omega
   subst e
   exact .inl ⟨⟨xs, q, Nat.le_refl _⟩, hd σ' H' p⟩
end
section
variable {tA : TA} {js : List Nat} {g : TG} {tt : TT} {te : TE} {σ : St} {H : Hp} {Q : VK} {nt : Nat}
def CompE (vs : List V) (js : List Nat) (nt : Nat) (g : TG) (tt : TT) (te : TE) (σ : St) (H : Hp) (Q : VK) : Prop := ∃ a xs, vs = [.ref a] /\ H a = some (.lst xs) /\ jl (Ite a) js nt g tt te σ H Q
def CompZ (vs : List V) (js : List Nat) (nt : Nat) (g : TG) (tt : TT) (te : TE) (σ : St) (H : Hp) (Q : VK) : Prop := ∃ a b xs ys, vs = [.ref a, .ref b] /\ H a = some (.lst xs) /\ H b = some (.lst ys) /\ jl (Itz a b) js nt g tt te σ H Q
theorem Jw (h : tA σ H fun vs H1 => CompE vs js nt g tt te σ H1 Q) : Hh js nt (tx tA) g tt te σ H Q := h
theorem Fw (h : tA σ H fun vs H1 => CompZ vs js nt g tt te σ H1 Q) : Hh js nt (iZip tA) g tt te σ H Q := h
theorem compE {a : Addr} {xs : List V} (caps : St) (Pv : Nat -> List V -> Hp -> Prop) (hcaps : cap σ js 2 = caps ++ [none, none]) (hsz : xs.length < sizeLine) (h0 : Pv 0 [] H)
 (hl : ∀ i ys H, i <= xs.length -> Pv i ys H -> H a = some (.lst xs)) (hlen : ∀ i ys H, Pv i ys H -> ys.length <= i)
 (hs : ∀ (i : Nat) x ys z1 z2 H T, xs[i]? = some x -> Pv i ys H -> H T = none -> g (.ref T) (caps ++ [z1, z2]) (upd H T (.tup [.int (i : Int), x])) fun σ3 H3 => tt σ3 H3 fun ok H4 => if ok = true then te σ3 H4 fun y H5 => Pv (i + 1) (ys ++ [y]) H5 /\ ∃ z1 z2, σ3 = caps ++ [z1, z2] else Pv (i + 1) ys H4 /\ ∃ z1 z2, σ3 = caps ++ [z1, z2])
 (hd : ∀ ys H, Pv xs.length ys H -> ∀ D, H D = none -> Q (.ref D) (upd H D (.lst ys))) : CompE [.ref a] js 2 g tt te σ H Q := by
 refine ⟨a, xs, rfl, hl 0 [] H (Nat.zero_le _) h0, fun i m ys σ' H' => m = xs.length - i /\ i <= xs.length /\ Pv i ys H' /\ ∃ z1 z2, σ' = caps ++ [z1, z2], ⟨xs.length, by simp, Nat.zero_le _, h0, none, none, hcaps⟩, ?_⟩
 rintro i m ys σ' H' ⟨rfl, hi, p, z1, z2, rfl⟩
 refine ⟨by have := hlen i ys H' p; omega, ?_⟩
 have q := hl i ys H' hi p
 by_cases hlt : i < xs.length
 . refine .inr ⟨⟨xs, xs[i], q, by simp [hlt]⟩, fun ys σ' H' => Pv (i + 1) ys H' /\ ∃ z1 z2, σ' = caps ++ [z1, z2], fun ys σ' H' ⟨p', q'⟩ => ⟨xs.length - (i + 1), by omega, rfl, hlt, p', q'⟩, fun v H2 y => ?_⟩
   obtain ⟨T, xs', x, rfl, hT, hq, hx, rfl⟩ := y
   rw [q] at hq
   cases hq
   exact hs i x ys z1 z2 H' T hx p hT
 . have e : i = xs.length := by omega
   subst e
   exact .inl ⟨⟨xs, q, Nat.le_refl _⟩, hd ys H' p⟩
theorem Iu {a1 a2 : Addr} {xs ws : List V} (caps : St) (Pv : Nat -> List V -> Hp -> Prop) (hcaps : cap σ js 2 = caps ++ [none, none]) (hsz : xs.length < sizeLine) (h0 : Pv 0 [] H)
 (hl : ∀ i ys H, i <= xs.length -> i <= ws.length -> Pv i ys H -> H a1 = some (.lst xs) /\ H a2 = some (.lst ws)) (hlen : ∀ i ys H, Pv i ys H -> ys.length <= i)
 (hs : ∀ (i : Nat) x w ys z1 z2 H T, xs[i]? = some x -> ws[i]? = some w -> Pv i ys H -> H T = none -> g (.ref T) (caps ++ [z1, z2]) (upd H T (.tup [x, w])) fun σ3 H3 => tt σ3 H3 fun ok H4 => if ok = true then te σ3 H4 fun y H5 => Pv (i + 1) (ys ++ [y]) H5 /\ ∃ z1 z2, σ3 = caps ++ [z1, z2] else Pv (i + 1) ys H4 /\ ∃ z1 z2, σ3 = caps ++ [z1, z2])
 (hd : ∀ ys H, Pv (min xs.length ws.length) ys H -> ∀ D, H D = none -> Q (.ref D) (upd H D (.lst ys))) : CompZ [.ref a1, .ref a2] js 2 g tt te σ H Q := by
 obtain ⟨q1, q2⟩ := hl 0 [] H (Nat.zero_le _) (Nat.zero_le _) h0
 refine ⟨a1, a2, xs, ws, rfl, q1, q2, fun i m ys σ' H' => m = min xs.length ws.length - i /\ i <= min xs.length ws.length /\ Pv i ys H' /\ ∃ z1 z2, σ' = caps ++ [z1, z2], ⟨min xs.length ws.length, by simp, Nat.zero_le _, h0, none, none, hcaps⟩, ?_⟩
 rintro i m ys σ' H' ⟨rfl, hi, p, z1, z2, rfl⟩
 refine ⟨by have := hlen i ys H' p; omega, ?_⟩
 obtain ⟨q1, q2⟩ := hl i ys H' (by omega) (by omega) p
 by_cases hlt : i < min xs.length ws.length
 . have l1 : i < xs.length := by omega
   have l2 : i < ws.length := by omega
   refine .inr ⟨⟨xs, ws, xs[i], ws[i], q1, q2, by simp [l1], by simp [l2]⟩, fun ys σ' H' => Pv (i + 1) ys H' /\ ∃ z1 z2, σ' = caps ++ [z1, z2], fun ys σ' H' ⟨p', q'⟩ => ⟨min xs.length ws.length - (i + 1), by omega, rfl, hlt, p', q'⟩, fun v H2 y => ?_⟩
   obtain ⟨T, xs', ys', x, y, rfl, hT, e1, e2, hx, hy, rfl⟩ := y
   rw [q1] at e1
   rw [q2] at e2
   cases e1
   cases e2
   exact hs i x y ys z1 z2 H' T hx hy p hT
 . have e : i = min xs.length ws.length := by omega
   exact .inl ⟨⟨xs, ws, q1, q2, by omega⟩, hd ys H' (e ▸ p)⟩
end
def Itd (hi : Int) (n : Nat) : It := ⟨fun i _ => i < n, fun i H x H' => H' = H /\ x = .int (hi - i), fun i _ => n <= i⟩
theorem Ip {P : Program} {w : World} {K : PySem.W.Frag} {tg : Expr} (it : Addr) (hi : Int) (n : Nat) : Turn P w K tg (Itd hi n) [it] it (fun i h => IsRangeIter h it (hi + (i : Nat) * (-1)) ((n : Int) - (i : Nat)) (-1)) where
 mem := by simp
 obj := fun i h st b hb => by
  have e : b = it := by simpa using hb
  subst e
  exact ⟨_, st, fun v z => by
   have z' : Data.fields _ = Data.cell v := z
   cases z'⟩
 keep := fun i h h' st k => k it (by simp) _ st
 item := by
  intro X hP hw hK hc i pins s σ H E I hf st hg
  subst hP hw hK
  obtain ⟨f0, f1, f2, f3, f4, f5⟩ := hf it (by simp)
  have W := Walks.range (prog := X.prog) (w := X.w) (I.ok.hd hc) it hi (-1) n
  refine W.item i s _ _ hg st fun v h' tk hv st' kk => ?_
  obtain ⟨t, rfl⟩ := hv
  have I1 : Inv X pins σ H { s with heap := h', toks := tk } := I.turned (fun b o hb e => kk b o (by simpa using hb) e) f0 f1 f3 f4 f5
  refine ⟨_, rfl, Du (s := { s with heap := h', toks := tk }) (n := "range_iterator") st' rfl rfl (by decide) ⟨.int (hi - i), H, I1, ⟨t, ?_⟩, ⟨rfl, rfl⟩, st', fun b hb => (hf b hb).1⟩⟩
  rw [Int.mul_neg, Int.mul_one]
  rfl
 done := by
  intro X hP hw hK hc i pins s σ H E I hf st hg
  subst hP hw hK
  obtain ⟨f0, f1, f2, f3, f4, f5⟩ := hf it (by simp)
  exact wpAny_pyNext_range_end (I.ok.hd hc) st (by have : n <= i := hg; omega) fun h' eb => ⟨rfl, I.turned (t' := s.toks) (fun b o hb e => eb b o hb e) f0 f1 f3 f4 f5⟩
 self := fun _ _ _ _ _ st h => wpAny_pyIter_rangeiter st h
theorem rangeSize_down (a b : Int) : Builtin.Range.rangeSize a b (-1) = ((a - b).toNat : Int) := by
 unfold Builtin.Range.rangeSize
 rw [if_neg (by decide), show (- -1 : Int) = 1 by decide, Int.ediv_one]
 split <;> omega
theorem small_down {a b : Int} (ha : -(2 ^ 62) <= a) (ha' : a < 2 ^ 62) (hb : -(2 ^ 62) <= b) (hb' : b < 2 ^ 62) : Builtin.Range.small a b (-1) = true := by
 unfold Builtin.Range.small
 rw [rangeSize_down]
 simp only [Builtin.Range.rangeFitsLong, Bool.and_eq_true, Bool.or_eq_true, decide_eq_true_eq, beq_iff_eq, show ¬ ((-1 : Int) > 0) by decide, if_false]
 omega
def iRngD (ta : TA) : TI := fun σ H R => ta σ H fun vs H1 => ∃ i j : Int, vs = [.int i, .int j, .int (-1)] /\ (-(2 ^ 61) <= i /\ i < 2 ^ 61 /\ -(2 ^ 61) <= j /\ j < 2 ^ 61) /\ R (Itd i (i - j).toNat) H1
section
variable {X : Cx} {tg : Expr}
theorem Gr {a b c : Expr} {ta : TA} {p pos : Pos} (hg : Gl X "range") (hm : X.mg "range" = none) (ha : PA X [a, b, c] ta) (hs : starEach [a, b, c] X.env = [(false, eval a X.env), (false, eval b X.env), (false, eval c X.env)] := by first | rfl | with_unfolding_all rfl)
 (hs2 : starEach [b, c] X.env = [(false, eval b X.env), (false, eval c X.env)] := by first | rfl | with_unfolding_all rfl) :
 PI X tg (.Call (.Name "range" p) [a, b, c] [] pos) (iRngD ta) := by
 intro pins s σ H R I h
 refine Call_ (Ge I hg hm boot_range (PyProof.Rows.callWith_type1 (thn (ha pos pins s σ H _ I h) fun us s1 ⟨vs, H1, I1, r1, q1⟩ => ?_) (by rw [hs, hs2]) (by rw [hs2]; rfl)))
 obtain ⟨i, j, e, ⟨q1, q2, q3, q4⟩, q⟩ := q1
 subst e
 cases r1 with
 | cons r rr =>
  cases rr with
  | cons r' rr =>
   cases rr with
   | cons r'' rr =>
    cases rr
    obtain ⟨t, rfl⟩ := r
    obtain ⟨t', rfl⟩ := r'
    obtain ⟨t'', rfl⟩ := r''
    refine call_range_3 (by decide) ?_ (Or.inl (PyProof.noPylong_small (by decide)))
    have I1' : Inv X pins σ H1 { s1 with heap := s1.heap.push { cls := .type "range", data := .fields #[.int i t, .int j t', .int (-1) t''] }, toks := s1.toks } := I1.kept fun b o e => Heap.get?_push_of_some _ e
    refine wpAny_pyIter_range (IsRange.new ..) (small_down (by omega) (by omega) (by omega) (by omega)) ?_
    refine ⟨(s1.heap.push { cls := .type "range", data := .fields #[.int i t, .int j t', .int (-1) t''] }).objs.size, [(s1.heap.push { cls := .type "range", data := .fields #[.int i t, .int j t', .int (-1) t''] }).objs.size], _, _, H1, rfl,
     I1'.kept (t' := s1.toks) fun b o e => Heap.get?_push_of_some _ e, Ip _ i (i - j).toNat, ?_, fun b hb => ?_, q⟩
    . show IsRangeIter _ _ (i + ((0 : Nat) : Int) * (-1)) ((((i - j).toNat : Nat) : Int) - ((0 : Nat) : Int)) (-1)
      rw [show i + ((0 : Nat) : Int) * (-1) = i by simp, show (((i - j).toNat : Nat) : Int) - ((0 : Nat) : Int) = Builtin.Range.rangeSize i j (-1) by rw [rangeSize_down]; simp]
      exact Heap.get?_push_size _ rfl
    . have e : b = (s1.heap.push { cls := .type "range", data := .fields #[.int i t, .int j t', .int (-1) t''] }).objs.size := by simpa using hb
      subst e
      exact I1'.fpOk (Nat.le_refl _) (I1'.hok.fresh (Nat.le_refl _))
end
def ForD (vs : List V) (g : TG) (tb : TS) (D : Ends) (σ : St) (H : Hp) : Prop := ∃ i j : Int, vs = [.int i, .int j, .int (-1)] /\ (-(2 ^ 61) <= i /\ i < 2 ^ 61 /\ -(2 ^ 61) <= j /\ j < 2 ^ 61) /\ ForJ (Itd i (i - j).toNat) g tb D σ H
section
variable {tA : TA} {g : TG} {tb : TS} {D : Ends} {σ : St} {H : Hp} {n b c : St -> Hp -> Prop} {r : VK}
theorem r_forD (h : tA σ H fun vs H1 => ForD vs g tb D σ H1) : tFor (iRngD tA) g tb D σ H := h
theorem forD {hi lo : Int} (Pv : Nat -> St -> Hp -> Prop) (h1 : -1000000 <= hi) (h2 : hi < 1000000) (h3 : -1000000 <= lo) (h4 : lo < 1000000) (h0 : Pv 0 σ H)
 (hs : ∀ (i : Nat) σ H, (i : Int) < hi - lo -> Pv i σ H -> g (.int (hi - i)) σ H fun σ2 H2 => tb ⟨Pv (i + 1), r, n, Pv (i + 1)⟩ σ2 H2) (hd : ∀ σ H, Pv (hi - lo).toNat σ H -> n σ H) : ForD [.int hi, .int lo, .int (-1)] g tb ⟨n, r, b, c⟩ σ H := by
 refine ⟨hi, lo, rfl, ⟨by omega, by omega, by omega, by omega⟩, fun i m σ' H' => m = (hi - lo).toNat - i /\ i <= (hi - lo).toNat /\ Pv i σ' H', ⟨(hi - lo).toNat, by simp, Nat.zero_le _, h0⟩, ?_⟩
 rintro i m σ' H' ⟨rfl, hi', p⟩
 by_cases hlt : i < (hi - lo).toNat
 . refine .inr ⟨hlt, Pv (i + 1), fun σ' H' p' => ⟨(hi - lo).toNat - (i + 1), by omega, rfl, hlt, p'⟩, fun v H2 y => ?_⟩
   obtain ⟨rfl, rfl⟩ := y
   exact hs i σ' _ (by omega) p
 . have e : i = (hi - lo).toNat := by omega
   subst e
   exact .inl ⟨Nat.le_refl _, hd σ' H' p⟩
end
def rRev (K : PySem.W.Frag) (x y : V) (H : Hp) (Q : VK) : Prop := ∃ a xs, x = .ref a /\ y = .int (-1) /\ SqL K H a xs /\ ∀ p, H p = none -> Q (.ref p) (upd H p (.lst xs.reverse))
section
variable {X : Cx} {K : PySem.W.Frag}
theorem Se {e k : Expr} {te tk : TE} {pos p2 : Pos} (hK : X.K = K) (he : PE X e te) (hk : PE X k tk) : PE X (.Subscript e (.Slice none none (some k) p2) pos) (tOp (rRev K) te tk) := by
 subst hK
 intro pins s σ H Q I h
 refine Subscript_ (thn (he pins s σ H _ I h) fun v s1 ⟨x, H1, I1, r1, q1⟩ => ?_)
 refine wpAny_Slice ?_
 rw [evalPart_none]
 refine wpAny_pure ?_
 refine wpAny_pure ?_
 rw [evalPart_some]
 refine thn (hk pins s1 σ H1 _ I1 q1) fun vk s3 ⟨y, H3, I3, r3, q3⟩ => ?_
 obtain ⟨a, xs, rfl, rfl, hx, q⟩ := q3
 cases r1
 obtain ⟨t, rfl⟩ := r3
 have I4 : Inv X pins σ H3 { s3 with heap := s3.heap.push { cls := .type "slice", data := .fields #[.none, .none, .int (-1) t] } } := I3.kept (t' := s3.toks) fun b ob q => Heap.get?_push_of_some _ q
 obtain ⟨its, r, ht, hz⟩ := I4.list hx
 have hlen := r.length
 show wpAny (model X.prog X.w) X.A (subscriptTail e (.Slice none none (some k) p2) (.ref a) (.ref s3.heap.objs.size)) (EP X pins σ Q) X.xe { s3 with heap := s3.heap.push { cls := .type "slice", data := .fields #[.none, .none, .int (-1) t] } }
 refine tail_any (ops := [.ref a, .ref s3.heap.objs.size]) (T := "list") ht.isList.typeIs slot_list_getitem.lookup ?_ (by with_unfolding_all rfl)
 refine wpAny_getItem_list_slice ht.isList (Heap.IsSliceOf.new ..) .none .none (.int (-1) t) (by decide) ?_ (by rw [List.size_toArray] <;> omega)
 rw [PySem.W.krv_pick]
 refine ⟨.ref _, _, I4.laid (t' := s3.toks) (o := .lst xs.reverse) (fun b ob q => Heap.get?_push_of_some _ q) (Nat.le_refl _) ?_, rfl, q _ (I4.hok.fresh (Nat.le_refl _))⟩
 exact ⟨by rw [List.length_reverse]; exact hz, _, 0, r.reverse, Heap.get?_push_size _ rfl⟩
end
theorem dh {K : PySem.W.Frag} {H : Hp} {Q : VK} {a : Addr} {xs : List V} (h1 : H a = some (.lst xs)) (h : ∀ p, H p = none -> Q (.ref p) (upd H p (.lst xs.reverse))) : rRev K (.ref a) (.int (-1)) H Q := ⟨a, xs, rfl, rfl, SqL.of h1, h⟩
theorem Qn {X : Cx} {x : Str} {i : Int} {pos : Pos} (hg : Gl X x) (hm : ∃ t, X.mg x = some (.int i t)) (hd : (x == ("__debug__" : Str)) = false := by decide) : PE X (.Name x pos) (tC (.int i)) := by
 obtain ⟨t, hm⟩ := hm
 exact Sw hg hm ⟨t, rfl⟩ hd
section
variable {X : Cx}
def ipC (C : Int -> Int -> Prop) (f : Int -> Int -> Int) : TIp := fun x y H Q => ∃ i j, x = .int i /\ y = .int j /\ C i j /\ Q (.int (f i j)) H
theorem xv : PIp X .Mult (ipC og fun i j => i * j) := by
 intro pins s σ H x y v u Q I r1 r2 h
 obtain ⟨i, j, e1, e2, hc, q⟩ := h
 subst e1; subst e2
 obtain ⟨t, rfl⟩ := r1
 obtain ⟨t', rfl⟩ := r2
 have ok : IntMulOk i j := by
  rcases hc with hc | ⟨m, n, h1, h2, h3⟩
  . exact hc.ok
  . exact PySem.IntMulOk.of_le (PySem.intBits_le_iff.mpr h1) (PySem.intBits_le_iff.mpr h2) h3
 exact imul_int ⟨.int _, H, I.tok _, ⟨_, rfl⟩, q⟩ ok
end
theorem r_ipC {C : Int -> Int -> Prop} {f : Int -> Int -> Int} {p q : Int} {H : Hp} {Q : VK} (hc : C p q) (h : Q (.int (f p q)) H) : ipC C f (.int p) (.int q) H Q := ⟨p, q, rfl, rfl, hc, h⟩
section
variable {X : Cx} {K : PySem.W.Frag}
theorem getLK (hK : X.K = K) : PGet X (rIxL K) := by
 subst hK
 intro pins s σ H x y v u Q I rx ry h
 obtain ⟨p, xs, i, z, rfl, rfl, hq, he, q⟩ := h
 cases rx
 obtain ⟨t, rfl⟩ := ry
 obtain ⟨its, r, pl, hz⟩ := I.list hq
 obtain ⟨j, h1, h2, h3, h4, h5⟩ := Vj he
 obtain ⟨w, ew, rw'⟩ := r.get h2
 have hl := r.length
 have hn := oh
 have fin : EP X pins σ Q w s := ⟨z, H, I, rw', q⟩
 by_cases h0 : 0 <= i
 . have hj : i.toNat = j := by
    rw [seqIndex_of h0 h5] at h1
    exact Option.some.inj h1
   exact wpAny_getItem_list pl.isList h0 (by omega) (by rw [hj]; simpa using ew) fin
 . have hj : (i + (its.toArray.size : Int)).toNat = j := by
    rw [seqIndex_neg (by omega) h4] at h1
    rw [List.size_toArray, <- hl]
    exact Option.some.inj h1
   exact wpAny_getItem_list_neg pl.isList (by omega) (by rw [List.size_toArray] <;> omega) (by omega) (by rw [hj]; simpa using ew) fin
end
section
variable {K : PySem.W.Frag} {to ti te : TE} {tget : V -> V -> Hp -> VK -> Prop} {tip : TIp} {tset : TSet} {n b c : St -> Hp -> Prop} {r : VK} {σ : St} {H : Hp}
theorem r_augS (h : to σ H fun o H1 => ti σ H1 fun i H2 => tget o i H2 fun x H3 => te σ H3 fun y H4 => tip x y H4 fun z H5 => tset o i z H5 fun H6 => n σ H6) : tAugS to ti te tget tip tset ⟨n, r, b, c⟩ σ H := h
theorem r_ixLL {K : PySem.W.Frag} {p : Addr} {xs : List V} {k : Int} {v : V} {Q : VK} (h1 : H p = some (.lst xs)) (h2 : atI xs k = some v) (h : Q v H) : rIxL K (.ref p) (.int k) H Q := ⟨p, xs, k, v, rfl, rfl, SqL.of h1, h2, h⟩
end
section
variable {X : Cx} {K : PySem.W.Frag}
theorem inK (h : X.K = K) : OpR X (compareOp .In) (rIn K false) := by subst h; exact Hr
theorem notInK (h : X.K = K) : OpR X (compareOp .NotIn) (rIn K true) := by subst h; exact Ak
def ir : List V -> Hp -> VK -> Prop := fun xs H Q => ∃ i j, xs = [.int i, .int j] /\ qg i j /\ ∀ p, H p = none -> Q (.ref p) (upd H p (.tup [.int (i / j), .int (i % j)]))
theorem Pk : Wc X (.builtin "divmod") ir := by
 intro pins s σ H xs us Q I r h
 obtain ⟨i, j, rfl, ⟨h1, n, h2, h3⟩, q⟩ := h
 obtain ⟨u, w', rfl, ⟨t, rfl⟩, ⟨t', rfl⟩⟩ := vals2 r
 refine divmod_int (by omega) ?_ (.inl (PyProof.noPylong_of_log2 ((Nat.log2_lt (by omega)).mpr (Nat.lt_of_lt_of_le h2 (Nat.pow_le_pow_right (by decide) h3)))))
 rw [Int.fdiv_eq_ediv_of_nonneg i (by omega), Int.fmod_eq_emod_of_nonneg i (by omega)]
 have hn : H s.heap.objs.size = none := I.hok.fresh (Nat.le_refl _)
 refine ⟨.ref s.heap.objs.size, _, ?_, rfl, q _ hn⟩
 refine I.laid (fun b o e => Heap.get?_push_of_some _ e) (Nat.le_refl _) ⟨by simp only [List.length_cons, List.length_nil]; rw [sizeLine_eq]; decide, [.int (i / j) s.toks, .int (i % j) (s.toks + 1)], .cons ⟨_, rfl⟩ (.cons ⟨_, rfl⟩ .nil), ?_⟩
 exact ⟨_, Heap.get?_push_size s.heap rfl, rfl, 0, rfl⟩
theorem Vk : bootBuiltins "divmod" = some (.builtin "divmod") := by decide +kernel
end
theorem Gn {i j : Int} {H : Hp} {Q : VK} (hc : qg i j) (h : ∀ p, H p = none -> Q (.ref p) (upd H p (.tup [.int (i / j), .int (i % j)]))) : ir [.int i, .int j] H Q := ⟨i, j, rfl, hc, h⟩
section
variable {K : PySem.W.Frag} {H : Hp} {Q : VK}
theorem Zq {a : Addr} {n k : Int} (h1 : H a = some (.lst [.int n])) (h0 : 0 <= k) (h2 : k < 65536) (h : ∀ p, H p = none -> Q (.ref p) (upd H p (.lst ((List.replicate k.toNat n).map V.int)))) : Mw (.ref a) (.int k) H Q := by
 refine .inr ⟨a, k, [.int n], rfl, rfl, h1, by omega, by omega, ?_, fun p hp => ?_⟩
 . rw [sizeLine_eq]
   simp only [List.length_cons, List.length_nil]
   omega
 . have e : (List.replicate k.toNat [V.int n]).flatten = (List.replicate k.toNat n).map V.int := by
    generalize k.toNat = m
    induction m with
    | zero => rfl
    | succ m ih => rw [List.replicate_succ, List.flatten_cons, ih, List.replicate_succ]; rfl
   rw [e]; exact h p hp
end
end L2
namespace L2
open PySem PySem.Spec PyProof.Rows
theorem nr {X : Cx} {xn : Str} {ix : Nat} {npos spos : Pos} {elt tg iter : Expr} {ifs : List Expr} {scope : Scope} {pos : Pos} {cl : List (Str × Addr)} {cN tN : List Str} {js : List Nat} {wi : TI} {g : TG} {tt : TT} {te : TE}
 (hc : X.calm = true) (hx0 : X.xe = fun _ _ => False) (hi : PI X tg iter wi)
 (hclos : closureFor scope X.env = pure cl) (hcell : ∀ y ∈ scope.names, y.2 ≠ .cell) (hkind : scope.kind = .function) (hnames : ∀ y ∈ scope.names, y.2 = .local -> scope.names.lookup y.1 = some .local)
 (hcl : ∀ p ∈ cl, X.env.cells.lookup p.1 = some p.2) (hhas : ∀ C x, ((compEnvC scope cl C X.env).kindOf x = some .cell \/ (compEnvC scope cl C X.env).kindOf x = some .free) -> ∃ c, cl.lookup x = some c)
 (hcap : ∀ C, ng X (compEnvC scope cl C X.env) cN js)
 (hg : ∀ C s₀ H₀ ex, PG (cxIn X scope cl C (cN ++ tN) s₀ H₀ ex) tg g) (ht : ∀ C s₀ H₀ ex, PTs (cxIn X scope cl C (cN ++ tN) s₀ H₀ ex) ifs tt) (he : ∀ C s₀ H₀ ex, PE (cxIn X scope cl C (cN ++ tN) s₀ H₀ ex) elt te)
 (hgN : PG X (.Name xn npos) (Bm ix)) (hsw : swapsWith (.ListComp elt [⟨tg, iter, ifs, 0⟩] scope pos) (some (.Name xn npos)) spos.line X.env = pure true)
 (hs : ∀ x, foldedSetIterable iter X.env x = pure x := by intro _; first | rfl | with_unfolding_all rfl) :
 PS X (.Assign [.Name xn npos] (.ListComp elt [⟨tg, iter, ifs, 0⟩] scope pos) spos) (tAsg (Hh js tN.length wi g tt te) (Bm ix)) := by
 intro pins s σ H DD I h
 have hxe : X.xe = fun _ _ => False := hx0
 rw [exec_Assign_Name_used xn npos _ spos hsw]
 refine wpAny_bind (wpAny_standAt (wpAny_bind ?_))
 show wpAny _ _ (comprehension (.ListComp elt [⟨tg, iter, ifs, 0⟩] scope pos) scope X.env _ (newList []) false (eval iter X.env) (some (assign (.Name xn npos) X.env)) >>= _) _ _ s
 refine wpAny_bind ?_
 refine wpAny_mono (Q := fun _ s'' => ∃ σ' H', Inv X pins σ' H' s'' /\ DD.nx σ' H') ?_ (fun _ s'' hq => wpAny_pure (wpAny_pure hq)) fun _ _ z => z
 refine wpAny_comprehension_free (use := some (assign (.Name xn npos) X.env)) rfl hs hclos hkind hnames (thn (hi pins s σ H _ I h) fun v s1 h1 => thn h1 fun itv s2 h2 => ?_)
 obtain ⟨it, fp, tn, J, H2, e, I2, T, st2, f2, W, ⟨m0, w0⟩, turn⟩ := h2
 subst e
 refine wpAny_newObj_type (wpAny_newFunctionEnv hcell (by intro y hy; simp at hy) (fun h4 hns4 hsb4 => ?_) hkind)
 dsimp only at hns4 hsb4 ⊢
 generalize hH3 : s2.heap.push { cls := .type "list", dict := none, data := .seq ([] : List Value).toArray } = h3 at hns4 hsb4 ⊢
 have hD : h3.get? s2.heap.objs.size = some { cls := .type "list", data := .seq ([] : List Value).toArray } := by rw [<- hH3]; exact Heap.get?_push_size _ rfl
 have up3 : ∀ b o, s2.heap.get? b = some o -> h3.get? b = some o := fun b o q => by rw [<- hH3]; exact Heap.get?_push_of_some _ q
 have sz3 : h3.objs.size = s2.heap.objs.size + 1 := by rw [<- hH3, Heap.size_push]
 have I3 : Inv X pins σ H2 { s2 with heap := h3 } := I2.kept (t' := s2.toks) up3
 have hDC : s2.heap.objs.size ≠ h3.objs.size := by rw [sz3]; exact Nat.ne_of_lt (Nat.lt_succ_self _)
 have up4 : ∀ b o, h3.get? b = some o -> h4.get? b = some o := fun b o q => hsb4.extBut b o (Nat.ne_of_lt (Heap.lt_size q)) (Heap.get?_push_of_some _ q)
 have hfpx : ∀ b ∈ s2.heap.objs.size :: fp, b < h3.objs.size /\ b ∉ frs X.stack /\ (∀ x c, X.env.cells.lookup x = some c -> c ≠ b) /\ X.base.get? b = none := fun b hb => by
  rcases List.mem_cons.mp hb with rfl | hb
  . refine ⟨by rw [sz3]; exact Nat.lt_succ_self _, fun z => ?_, fun x c q z => ?_, ?_⟩
    . rcases List.mem_cons.mp (I2.di _ z) with y | y
      . exact absurd (Nat.lt_of_lt_of_eq I2.lt y) (Nat.lt_irrefl _)
      . exact I2.nofs (Nat.le_refl _) y
    . obtain ⟨v, r⟩ := I2.cell x c q
      exact absurd (Nat.lt_of_lt_of_eq r.lt z.symm) (Nat.lt_irrefl _)
    . cases q : X.base.get? s2.heap.objs.size with
      | none => rfl
      | some o => exact absurd (Heap.lt_size (I2.bk _ o q)) (Nat.lt_irrefl _)
  . obtain ⟨f0, f1, f3, f4, f5, f6⟩ := f2 b hb
    obtain ⟨o, ho, _⟩ := T.obj _ _ st2 b hb
    refine ⟨Nat.lt_trans (Heap.lt_size ho) (by rw [sz3]; exact Nat.lt_succ_self _), fun z => ?_, f5, ?_⟩
    . rcases List.mem_cons.mp (I2.di _ z) with y | y
      . exact f1 y
      . exact f3 y
    . cases q : X.base.get? b with
      | none => rfl
      | some o' =>
       rcases f4 with z | z
       . exact absurd z (I2.ok.noex b o' q)
       . exact absurd (Nat.lt_of_lt_of_le (Heap.lt_size (I2.ok.bs b o' q).1) z) (Nat.lt_irrefl _)
 have hclL : ∀ x c, cl.lookup x = some c -> X.env.cells.lookup x = some c := fun x c q => hcl (x, c) (PySem.mem_of_lookup q)
 have ok : (cxIn X scope cl h3.objs.size (cN ++ tN) { s2 with heap := h3 } H2 (s2.heap.objs.size :: fp)).Ok := Xs I3 rfl hkind (fun x y c e1 e2 => I3.ok.inj x y c (hclL x c e1) (hclL y c e2)) (fun x c e => .inl (hclL x c e)) (fun x c e _ => absurd rfl (hcell _ (PySem.mem_of_lookup e))) (hhas _) hfpx
 have hg' := hg h3.objs.size { s2 with heap := h3 } H2 (s2.heap.objs.size :: fp)
 have ht' := ht h3.objs.size { s2 with heap := h3 } H2 (s2.heap.objs.size :: fp)
 have he' := he h3.objs.size { s2 with heap := h3 } H2 (s2.heap.objs.size :: fp)
 generalize hY : cxIn X scope cl h3.objs.size (cN ++ tN) { s2 with heap := h3 } H2 (s2.heap.objs.size :: fp) = Y at ok hg' ht' he'
 have yP : Y.prog = X.prog := by rw [<- hY]; rfl
 have yw : Y.w = X.w := by rw [<- hY]; rfl
 have yK : Y.K = X.K := by rw [<- hY]; rfl
 have yA : Y.A = X.A := by rw [<- hY]; rfl
 have yc : Y.calm = true := by rw [<- hY]; exact hc
 have yx : Y.xe = fun _ _ => False := by rw [<- hY]; rfl
 have yl : Y.env.locals = h3.objs.size := by rw [<- hY]; rfl
 have ye : Y.env = compEnvC scope cl h3.objs.size X.env := by rw [<- hY]; rfl
 have yfs : Y.fs = frs X.stack := by rw [<- hY]; rfl
 have yex : Y.ex = s2.heap.objs.size :: fp := by rw [<- hY]; rfl
 have ycl : Y.env.cells = cl := by rw [<- hY]; rfl
 have ys0 : Y.s₀ = { s2 with heap := h3 } := by rw [<- hY]; rfl
 have yH0 : Y.H₀ = H2 := by rw [<- hY]; rfl
 have ypn : Y.pn = [] := by rw [<- hY]; rfl
 have yN : Y.N = cN ++ tN := by rw [<- hY]; rfl
 have hH2D : H2 s2.heap.objs.size = none := I2.hok.fresh (Nat.le_refl _)
 have pinD : ∀ {H' : Hp} {h : Heap} {ys : List Value} {n : Nat}, h.get? s2.heap.objs.size = some { cls := .type "list", data := .seq ys.toArray n } -> H' s2.heap.objs.size = none ->
  ∀ p ∈ ([(s2.heap.objs.size, ({ cls := .type "list", data := .seq ys.toArray n } : Obj))] : List (Addr × Obj)), h.get? p.1 = some p.2 /\ H' p.1 = none /\ p.1 ≠ Y.env.locals /\ p.1 ∉ Y.fs /\ ∀ v, p.2.data ≠ .cell v := fun {H' h ys n} q1 q2 p hp => by
  rw [List.mem_singleton.mp hp]
  exact ⟨q1, q2, by rw [yl]; exact hDC, by rw [yfs]; exact (hfpx _ List.mem_cons_self).2.1, fun v z => nomatch z⟩
 have I4 : Inv Y [] (cap σ js tN.length) H2 { s2 with heap := h4, toks := s2.toks + ([] : List (Str × Value)).length } := by
  refine ⟨ok, by rw [ys0], I2.bare, ?_, ⟨_, by rw [yl]; exact hns4, fun i x v e1 e2 e3 => ?_⟩, fun x c q => ?_, ?_, fun x c q => ?_, fun p hp => ?_, ?_, ?_⟩
  . rw [ys0, yH0]; exact Un.kept up4
  . rw [yN] at e1
    obtain ⟨j, hj, hv⟩ := ot e2
    have hi' : i < cN.length := by
     rw [(hcap h3.objs.size).len]
     exact (List.getElem?_eq_some_iff.mp hj).1
    rw [List.getElem?_append_left hi'] at e1
    obtain ⟨j', hj', n1, n2, n3, n4, n5⟩ := (hcap h3.objs.size).get e1
    rw [hj] at hj'; cases hj'
    obtain ⟨m, hn, hl⟩ := I2.loc
    obtain ⟨u, ru, lk⟩ := hl j x v n1 hv n2
    refine ⟨u, ru, ?_⟩
    rcases lk with ⟨k1, _⟩ | ⟨k1, c, k2, k3⟩
    . exact absurd k1 n3
    . refine .inr ⟨by rw [ye]; exact n4, c, by rw [ye, n5]; exact k2, ?_⟩
      obtain ⟨o, ho, hd⟩ := k3
      exact ⟨o, up4 _ _ (up3 _ _ ho), hd⟩
  . rw [ycl] at q
    obtain ⟨v, o, ho, hd⟩ := I2.cell x c (hclL x c q)
    exact ⟨v, o, up4 _ _ (up3 _ _ ho), hd⟩
  . rw [yl]; exact I3.hok.fresh (Nat.le_refl _)
  . rw [ycl] at q
    exact I2.freeC x c (hclL x c q)
  . rw [ypn] at hp
    exact absurd hp (by simp)
  . rw [yP, yw]
    exact I3.hok.kept up4
  . rw [et, yN, List.length_append, (hcap h3.objs.size).len]
 have fpY : ∀ {H' : Hp} {ps : List (Addr × Obj)}, (∀ b ∈ fp, H' b = none) -> (∀ p ∈ ps, p.1 = s2.heap.objs.size) -> ∀ b ∈ fp, FpOk Y ps H' b := fun {H' ps} hn hps b hb => by
  obtain ⟨a1, a2, a3, a4⟩ := hfpx b (List.mem_cons_of_mem _ hb)
  obtain ⟨o, ho, _⟩ := T.obj _ _ st2 b hb
  refine ⟨hn b hb, by rw [yl]; exact Nat.ne_of_lt a1, by rw [yfs]; exact a2, .inl (by rw [yex]; exact List.mem_cons_of_mem _ hb), fun x c q => by rw [ycl] at q; exact a3 x c (hclL x c q), fun p hp => ?_⟩
  rw [ypn] at hp
  rw [hps p hp]
  exact (Nat.ne_of_lt (Heap.lt_size ho)).symm
 have st4 : tn 0 h4 := T.keep _ _ _ st2 fun b hb o q => up4 _ _ (up3 _ _ q)
 have loop : codeAny (model X.prog X.w) X.A (.compLoop (.ListComp elt [⟨tg, iter, ifs, 0⟩] scope pos) 0 (.ref it) (.ref s2.heap.objs.size) (compEnvC scope cl h3.objs.size X.env))
  (compPost (model X.prog X.w) X.A X.xe (some (assign (.Name xn npos) X.env)) (fun _ s'' => ∃ σ' H', Inv X pins σ' H' s'' /\ DD.nx σ' H') (.ref s2.heap.objs.size) h3.objs.size) { s2 with heap := h4, toks := s2.toks + ([] : List (Str × Value)).length } := by
  refine jc (fun n s' => ∃ (i : Nat) (σ' : St) (H' : Hp) (ys : List V) (us : List Value) (k : Nat), Inv Y [] σ' H' s' /\ tn i s'.heap /\ (∀ b ∈ fp, H' b = none) /\ H' s2.heap.objs.size = none /\ Vals ys us /\
   s'.heap.get? s2.heap.objs.size = some { cls := .type "list", data := .seq us.toArray k } /\ W i n ys σ' H') ?_ m0
   ⟨0, _, H2, [], [], 0, I4, st4, fun b hb => (f2 b hb).1, hH2D, .nil, up4 _ _ hD, w0⟩
  rintro n s5 ⟨i, σ5, H5, ys, us, k, I5, st5, fr5, hD5, rv5, ho5, w5⟩
  obtain ⟨hsz, step⟩ := turn i n ys σ5 H5 w5
  have I5p := I5.Rc (pins' := [(s2.heap.objs.size, ({ cls := .type "list", data := .seq us.toArray k } : Obj))]) (pinD ho5 hD5)
  have onlyD : ∀ p ∈ ([(s2.heap.objs.size, ({ cls := .type "list", data := .seq us.toArray k } : Obj))] : List (Addr × Obj)), p.1 = s2.heap.objs.size := fun p hp => by rw [List.mem_singleton.mp hp]
  rcases step with ⟨stop, fin⟩ | ⟨go, N, hN, step⟩
  ·
   have dn := T.done Y yP yw yK yc i _ s5 σ5 H5 (notedBy (model X.prog X.w) X.A (compEnvC scope cl h3.objs.size X.env) fun e s' => compPost (model X.prog X.w) X.A X.xe (some (assign (.Name xn npos) X.env)) (fun _ s'' => ∃ σ' H', Inv X pins σ' H' s'' /\ DD.nx σ' H') (.ref s2.heap.objs.size) h3.objs.size (.error e) s') I5p (fpY fr5 onlyD) st5 stop
   rw [yA] at dn
   refine thn dn fun r s6 ⟨hr, I6⟩ => ?_
   subst hr
   obtain ⟨m6, hn6, _⟩ := I6.loc
   rw [yl] at hn6
   obtain ⟨h7, hh7⟩ : ∃ h7, h7 = s6.heap := ⟨_, rfl⟩
   have hs7 : Heap.SameBut h3.objs.size s6.heap h7 := by rw [hh7]; exact ⟨rfl, fun _ _ => rfl⟩
   have u6 : Un (frs X.stack) (s2.heap.objs.size :: fp) H2 H5 h3 s6.heap := by
    have := I6.base
    rw [yfs, yex, yH0, ys0] at this
    exact this
   have D6 := (I6.pin _ (List.mem_append_right _ (List.mem_singleton.mpr rfl))).1
   have C6 : H5 h3.objs.size = none := by have := I6.free; rw [yl] at this; exact this
   have k7 : ∀ b o, b ≠ h3.objs.size -> s6.heap.get? b = some o -> h7.get? b = some o := fun b o hb q => hs7.extBut b o hb q
   have neC : ∀ b o, s2.heap.get? b = some o -> b ≠ h3.objs.size := fun b o q => Nat.ne_of_lt (Heap.lt_size (up3 b o q))
   have neD : ∀ b o, s2.heap.get? b = some o -> b ≠ s2.heap.objs.size := fun b o q => Nat.ne_of_lt (Heap.lt_size q)
   have exn : ∀ b o, s2.heap.get? b = some o -> b ∉ fp -> b ∉ s2.heap.objs.size :: fp := fun b o q hb z => by
    rcases List.mem_cons.mp z with z | z
    . exact neD b o q z
    . exact hb z
   have un7 : Un (frs X.stack) fp H2 (upd H5 s2.heap.objs.size (.lst ys)) s2.heap h7 := by
    refine ⟨fun b o q nb hb hx => k7 b o (neC b o q) (u6.keep b o (up3 _ _ q) nb hb (exn b o q hx)), fun b o q nb hb hx => ?_, fun b o q nb hx => ?_, fun b o q hx => ?_, fun b xs q => ?_, fun b o xs q => ?_, fun b ps q => ?_⟩
    . obtain ⟨sl, z⟩ := u6.slot b o (up3 _ _ q) nb hb (exn b o q hx)
      exact ⟨sl, k7 b _ (neC b o q) z⟩
    . rw [La (neD b o q)]
      exact u6.free b o (up3 _ _ q) nb (exn b o q hx)
    . obtain ⟨o', z⟩ := u6.there b o (up3 _ _ q) (exn b o q hx)
      exact ⟨o', k7 b o' (neC b o q) z⟩
    . have z := u6.tups b xs q
      rw [La (oa z hD5)]; exact z
    . have z := u6.frzs b o xs q
      rw [La (oa z hD5)]; exact z
    . obtain ⟨more, z⟩ := u6.tbls b ps q
      exact ⟨more, by rw [La (oa z hD5)]; exact z⟩
   have hok7 : HOk X.prog X.w (upd H5 s2.heap.objs.size (.lst ys)) h7 := by
    have z := I6.hok
    rw [yP, yw] at z
    refine (z.other C6 k7).Qv hD5 ?_
    exact ⟨Nat.le_of_lt hsz, us, k, rv5, k7 _ _ hDC D6⟩
   obtain ⟨hh6, gg6, dd6, tt6, os6⟩ := s6
   have eos : os6 = s2.os := by have := I6.os; rw [ys0] at this; exact this
   subst eos
   have I7 : Inv X pins σ (upd H5 s2.heap.objs.size (.lst ys)) { s2 with heap := h7, gens := gg6, drawn := dd6, toks := tt6 } :=
    I2.call un7 hok7 I6.bare fun b hb => ⟨(f2 b hb).2.2.2.1, (f2 b hb).2.1, (f2 b hb).2.2.2.2.1, (f2 b hb).2.2.2.2.2⟩
   subst hh7
   obtain ⟨oC, esC, epC, hoC, rC⟩ := id hn6
   have nL : h3.objs.size ≠ X.env.locals := (Nat.ne_of_lt I3.lt).symm
   have nF : h3.objs.size ∉ X.fs := I3.nofs (Nat.le_refl _)
   have dC : ∀ v, oC.data ≠ .cell v := fun v z => by first | (obtain ⟨_, r2, _⟩ := rC; rw [r2] at z; cases z) | (obtain ⟨r2, _⟩ := rC; rw [r2] at z; cases z) | (obtain ⟨_, _, r2, _⟩ := rC; rw [r2] at z; cases z) | (obtain ⟨_, _, r2⟩ := rC; rw [r2] at z; cases z)
   have HC : upd H5 s2.heap.objs.size (.lst ys) h3.objs.size = none := by rw [La hDC.symm]; exact C6
   have I8 := I7.Rc (pins' := (h3.objs.size, oC) :: pins) fun p hp => by
    rcases List.mem_cons.mp hp with hp | hp
    . rw [hp]; exact ⟨hoC, HC, nL, nF, dC⟩
    . exact I7.pin p (List.mem_append_right _ hp)
   refine thn (hgN _ _ σ _ (.ref s2.heap.objs.size) (.ref s2.heap.objs.size) DD.nx I8 rfl (fin _ hD5)) fun _ s9 ⟨σ9, H9, I9, q9⟩ => ?_
   obtain ⟨p1, p2, _⟩ := I9.pin (h3.objs.size, oC) (List.mem_append_right _ List.mem_cons_self)
   refine ⟨m6, ⟨oC, esC, epC, p1, rC⟩, fun h' hs' => ⟨σ9, H9, ?_, q9⟩⟩
   have I10 : Inv X pins σ9 H9 s9 := I9.Rc fun p hp => I9.pin p (List.mem_append_right _ (List.mem_cons_of_mem _ hp))
   refine I10.turned (t' := s9.toks) (it := h3.objs.size) (fun b o hb q => hs'.extBut b o hb q) p2 nL (.inr (Nat.le_trans I3.sz (Nat.le_refl _))) (fun x c q z => ?_) (fun p hp z => ?_)
   . obtain ⟨v, r⟩ := I3.cell x c q
     exact absurd (Nat.lt_of_lt_of_eq r.lt z.symm) (Nat.lt_irrefl _)
   . have := Heap.lt_size (I3.pin p hp).1
     rw [z] at this
     exact absurd this (Nat.lt_irrefl _)
  ·
   have im := T.item Y yP yw yK yc i _ s5 σ5 H5 (notedBy (model X.prog X.w) X.A (compEnvC scope cl h3.objs.size X.env) fun e s' => compPost (model X.prog X.w) X.A X.xe (some (assign (.Name xn npos) X.env)) (fun _ s'' => ∃ σ' H', Inv X pins σ' H' s'' /\ DD.nx σ' H') (.ref s2.heap.objs.size) h3.objs.size (.error e) s') I5p (fpY fr5 onlyD) st5 go
   rw [yA] at im
   refine thn im fun r s6 ⟨u, hr, h6⟩ => ?_
   subst hr
   refine thn h6 fun _ s7 ⟨x, H7, I7, r7, y7, st7, fr7⟩ => ?_
   have I7' := I7.pinned (fpY fr7 onlyD) (T.obj _ _ st7)
   have tog := hg' _ s7 σ5 H7 x u _ I7' r7 (step x H7 y7)
   rw [yP, yw, yA, yx, ye] at tog
   refine wpAny_mono tog (fun _ s8 ⟨σ8, H8, I8, q8⟩ => ?_) fun _ _ z => z.elim
   have tot := ht' _ s8 σ8 H8 _ I8 q8
   rw [yP, yw, yA, yx, ye] at tot
   refine wpAny_mono tot (fun okb s9 ⟨H9, I9, q9⟩ => ?_) fun _ _ z => z.elim
   have back : ∀ {H' : Hp} {s' : Shared}, Inv Y ([(s2.heap.objs.size, ({ cls := .type "list", data := .seq us.toArray k } : Obj))] ++ qi fp s7.heap) σ8 H' s' -> tn (i + 1) s'.heap /\ (∀ b ∈ fp, H' b = none) /\ H' s2.heap.objs.size = none /\ s'.heap.get? s2.heap.objs.size = some { cls := .type "list", data := .seq us.toArray k } := fun {H' s'} I' => by
    refine ⟨T.keep _ _ _ st7 fun b hb o e => (I'.pin (b, o) (List.mem_append_right _ (List.mem_append_right _ (vc hb e)))).1, fun b hb => ?_, ?_, ?_⟩
    . obtain ⟨o, e, d⟩ := T.obj _ _ st7 b hb
      exact (I'.pin (b, o) (List.mem_append_right _ (List.mem_append_right _ (vc hb e)))).2.1
    . exact (I'.pin _ (List.mem_append_right _ (List.mem_append_left _ (List.mem_singleton.mpr rfl)))).2.1
    . exact (I'.pin _ (List.mem_append_right _ (List.mem_append_left _ (List.mem_singleton.mpr rfl)))).1
   cases okb with
   | false =>
    rw [if_neg Bool.false_ne_true] at q9 ⊢
    obtain ⟨m', hm', w9⟩ := hN _ _ _ q9
    obtain ⟨b1, b2, b3, b4⟩ := back I9
    exact ⟨m', hm', i + 1, σ8, H9, ys, us, k, I9.Rc (fun p hp => absurd hp (by simp)), b1, b2, b3, rv5, b4, w9⟩
   | true =>
    rw [if_pos rfl] at q9 ⊢
    have toe := he' _ s9 σ8 H9 _ I9 q9
    rw [yP, yw, yA, yx, ye] at toe
    refine wpAny_mono toe (fun yv s10 ⟨yy, H10, I10, r10, q10⟩ => ?_) fun _ _ z => z.elim
    obtain ⟨m', hm', w10⟩ := hN _ _ _ q10
    obtain ⟨b1, b2, b3, b4⟩ := back I10
    have hus : us.length = ys.length := rv5.length.symm
    refine append_at b4 (fun h11 hs11 ho11 => ?_) (by rw [List.size_toArray, hus]; exact Nat.le_of_lt hsz)
    have I10' : Inv Y [] σ8 H10 s10 := I10.Rc (fun p hp => absurd hp (by simp))
    have I11 : Inv Y [] σ8 H10 { s10 with heap := h11 } := I10'.turned (t' := s10.toks) (it := s2.heap.objs.size) (fun b o hb q => hs11.extBut b o hb q) b3 (by rw [yl]; exact hDC) (.inl (by rw [yex]; exact List.mem_cons_self))
     (fun x c q => by rw [ycl] at q; exact (hfpx _ List.mem_cons_self).2.2.1 x c (hclL x c q)) (fun p hp => by rw [ypn] at hp; exact absurd hp (by simp))
    refine ⟨m', hm', i + 1, σ8, H10, ys ++ [yy], us ++ [yv], k + 1, I11, T.keep _ _ _ b1 fun b hb o q => hs11.extBut b o (fun z => ?_) q, b2, b3, Vals.append rv5 (.cons r10 .nil), ?_, w10⟩
    . have z' : b = s2.heap.objs.size := z
      obtain ⟨o', ho', _⟩ := T.obj _ _ st2 b hb
      exact absurd (z' ▸ Heap.lt_size ho') (Nat.lt_irrefl _)
    . rw [ho11, List.push_toArray]
 exact codeAny_compStart_list loop (T.self _ 0 _ _ _ st4 loop)
theorem oi {X : Cx} {xn : Str} {ix : Nat} {npos spos : Pos} {elt tg iter : Expr} {ifs : List Expr} {scope : Scope} {pos : Pos} {cl : List (Str × Addr)} {wi : TI} {g : TG} {tt : TT} {te : TE} (cN tN : List Str) (js : List Nat)
 (hgN : PG X (.Name xn npos) (Bm ix))
 (hclos : closureFor scope X.env = pure cl) (hc : X.calm = true) (hx0 : X.xe = fun _ _ => False) (hi : PI X tg iter wi)
 (hcell : ∀ y ∈ scope.names, y.2 ≠ .cell) (hkind : scope.kind = .function) (hnames : ∀ y ∈ scope.names, y.2 = .local -> scope.names.lookup y.1 = some .local)
 (hcl : CellsOk X cl) (hall : (scope.names.all fun y => y.2 != .free || (cl.lookup y.1).isSome) = true) (hcap : ∀ C, ng X (compEnvC scope cl C X.env) cN js)
 (hg : ∀ C s₀ H₀ ex, PG (cxIn X scope cl C (cN ++ tN) s₀ H₀ ex) tg g) (ht : ∀ C s₀ H₀ ex, PTs (cxIn X scope cl C (cN ++ tN) s₀ H₀ ex) ifs tt) (he : ∀ C s₀ H₀ ex, PE (cxIn X scope cl C (cN ++ tN) s₀ H₀ ex) elt te)
 (hsw : swapsWith (.ListComp elt [⟨tg, iter, ifs, 0⟩] scope pos) (some (.Name xn npos)) spos.line X.env = pure true := by first | rfl | with_unfolding_all rfl)
 (hs : ∀ x, foldedSetIterable iter X.env x = pure x := by intro _; first | rfl | with_unfolding_all rfl) :
 PS X (.Assign [.Name xn npos] (.ListComp elt [⟨tg, iter, ifs, 0⟩] scope pos) spos) (tAsg (Hh js tN.length wi g tt te) (Bm ix)) :=
 nr hc hx0 hi hclos hcell hkind hnames hcl.all (Bv hcell hall) hcap hg ht he hgN hsw hs
end L2
namespace L2
open PySem PySem.Spec PyProof.Rows
end L2
namespace L2
open PySem PySem.Spec PyProof.Rows
def upTo (n : Nat) : List Int := (List.range n).map fun i : Nat => (i : Int)
def tLR (ta : TA) : TE := fun σ H Q => ta σ H fun vs H1 => ∃ j : Nat, vs = [.int (j : Int)] /\ j < 65536 /\ ∀ l, H1 l = none -> Q (.ref l) (upd H1 l (.lst ((upTo j).map V.int)))
theorem Cp : ∀ {xs : List V} {us : List Value}, xs.length = us.length -> (∀ (j : Nat) (x : V) (u : Value), xs[j]? = some x -> us[j]? = some u -> RelV x u) -> Vals xs us
 | [], [], _, _ => .nil
 | x :: xs, u :: us, h, k => .cons (k 0 x u rfl rfl) (Cp (by simpa using h) fun j x' u' h1 h2 => k (j + 1) x' u' (by simpa using h1) (by simpa using h2))
 | [], _ :: _, h, _ => by simp at h
 | _ :: _, [], h, _ => by simp at h
theorem r_LR {ta : TA} {σ : St} {H : Hp} {Q : VK} (h : ta σ H fun vs H1 => ∃ j : Nat, vs = [.int (j : Int)] /\ j < 65536 /\ ∀ l, H1 l = none -> Q (.ref l) (upd H1 l (.lst ((upTo j).map V.int)))) : tLR ta σ H Q := h
section
variable {X : Cx} {a : Expr} {ta : TA} {p1 p2 q1 q2 : Pos}
theorem Bp {acc : Array Value} {n : Nat} (h : ItemsOf (fun i v => ∃ t, v = Value.int (0 + (i : Nat) * 1) t) acc n) : Vals ((upTo n).map V.int) acc.toList := by
 obtain ⟨hs, hi⟩ := h
 refine Cp (by rw [List.length_map]; unfold upTo; rw [List.length_map, List.length_range, Array.length_toList, hs]) fun j x u h1 h2 => ?_
 rw [Array.getElem?_toList] at h2
 obtain ⟨t, rfl⟩ := hi j u h2
 rw [List.getElem?_map] at h1
 unfold upTo at h1
 rw [List.getElem?_map] at h1
 have hj : j < n := by
  have := (Array.getElem?_eq_some_iff.mp h2).1
  omega
 rw [List.getElem?_range hj] at h1
 have : x = V.int (j : Int) := (Option.some.inj h1).symm
 subst this
 exact ⟨t, by congr 1; omega⟩
theorem Ic (hc : X.calm = true) (hg1 : Gl X "list") (hm1 : X.mg "list" = none) (hg2 : Gl X "range") (hm2 : X.mg "range" = none) (ha : PA X [a] ta)
 (hs : starEach [a] X.env = [(false, eval a X.env)] := by first | rfl | with_unfolding_all rfl)
 (he : starEach [Expr.Call (.Name "range" p2) [a] [] q2] X.env = [(false, eval (Expr.Call (.Name "range" p2) [a] [] q2) X.env)] := by first | rfl | with_unfolding_all rfl) :
 PE X (.Call (.Name "list" p1) [.Call (.Name "range" p2) [a] [] q2] [] q1) (tLR ta) := by
 intro pins s σ H Q I h
 refine wpAny_Call_Name_kw (Ge I hg1 hm1 Xe ?_ (by decide) (by decide))
 refine PyProof.Rows.callWith_type1 ?_ he rfl
 rw [he]
 show wpAny _ _ (spliced [(false, eval (Expr.Call (.Name "range" p2) [a] [] q2) X.env)]) _ _ s
 refine Calls.spliced_cons ?_
 refine Call_ (Ge I hg2 hm2 boot_range (PyProof.Rows.callWith_type1 (thn (ha q2 pins s σ H _ I h) fun us s1 ⟨vs, H1, I1, r1, q1⟩ => ?_) hs rfl))
 obtain ⟨j, e, hj, q⟩ := q1
 subst e
 cases r1 with
 | cons r rr =>
  cases rr
  obtain ⟨t, rfl⟩ := r
  refine call_range_1 ?_
  have I2 : Inv X pins σ H1 { s1 with heap := s1.heap.push { cls := .type "range", data := .fields #[.int 0 s1.toks, .int (j : Int) t, .int 1 (s1.toks + 1)] }, toks := s1.toks + 1 + 1 } := I1.kept fun b o e => Heap.get?_push_of_some _ e
  refine Calls.spliced_nil ?_
  refine call_list_range (I.ok.hd hc) (IsRange.new ..) (small_one (by omega) (by omega) (by omega) (by omega)) (n := j) (by rw [rangeSize_one]; split <;> omega) (by omega) fun h' tk acc' c' kp e it => ?_
  refine ⟨.ref _, _, I2.laid (t' := tk) (o := .lst ((upTo j).map V.int)) kp (Nat.le_refl _) ?_, rfl, q _ (I2.hok.fresh (Nat.le_refl _))⟩
  refine ⟨by rw [List.length_map]; unfold upTo; rw [List.length_map, List.length_range, sizeLine_eq]; omega, acc'.toList, c', Bp it, by simpa using e⟩
end
end L2
namespace L2
open PySem PySem.Spec PyProof.Rows
section
variable {X : Cx} {K : PySem.W.Frag}
def gr (K : PySem.W.Frag) : List V -> Hp -> VK -> Prop := fun xs H Q => ∃ (p : Addr) (ns : List Int), xs = [.ref p] /\ SqL K H p (ns.map V.int) /\ ns.length < 64 /\ ∀ (l : Addr) (ms : List Int), H l = none -> ms.Perm ns -> ms.Pairwise (· <= ·) -> Q (.ref l) (upd H l (.lst (ms.map V.int)))
theorem vt : bootBuiltins "sorted" = some (.builtin "sorted") := by decide +kernel
theorem ai : ∀ {us : List Value} {ns : List Int}, IntsAre us ns -> Vals (ns.map V.int) us
 | _, _, .nil => .nil
 | _, _, .cons a t h => .cons ⟨t, rfl⟩ (ai h)
theorem sortedK (hK : X.K = K) : Wc X (.builtin "sorted") (gr K) := by
 subst hK
 intro pins s σ H xs us Q I r h
 obtain ⟨p, ns, rfl, hq, hl, q⟩ := h
 obtain ⟨u, rfl, rx⟩ := vals1 r
 cases rx
 obtain ⟨its, r', pl, hz⟩ := I.list hq
 have hi : IntsAre its ns := intsAre_of (by simpa using r')
 have e1 := hi.length
 refine sorted_ints pl.isList hi (by omega) fun out ns' a1 a2 a3 => ?_
 obtain ⟨e, he⟩ := sortedAll_at s.heap its out
 have hn : H (s.heap.objs.size + 1) = none := I.hok.fresh (Nat.le_succ _)
 refine ⟨.ref _, _, I.laid (a := s.heap.objs.size + 1) (o := .lst (ns'.map V.int)) (t' := s.toks) (fun b o hb => sortedAll_old hb) (Nat.le_succ _) ?_, rfl, q _ ns' hn a2 a3⟩
 refine ⟨by rw [List.length_map, a2.length_eq, sizeLine_eq]; omega, out.toList, e, ai a1, ?_⟩
 simpa [seqObj] using he
theorem cu {H : Hp} {Q : VK} {p : Addr} {ns : List Int} (h1 : H p = some (.lst (ns.map V.int))) (h2 : ns.length < 64) (h : ∀ (l : Addr) (ms : List Int), H l = none -> ms.Perm ns -> ms.Pairwise (· <= ·) -> Q (.ref l) (upd H l (.lst (ms.map V.int)))) : gr K [.ref p] H Q := ⟨p, ns, rfl, SqL.of h1, h2, h⟩
def gu (K : PySem.W.Frag) : R2 := fun x y H Q => kr K x y H Q \/ ∃ i j : Str, x = .str i /\ y = .str j /\ i.length + j.length <= sizeLine /\ Q (.str (i ++ j)) H
theorem Hx (h : X.K = K) : OpR X (binaryOp .Add) (gu K) := (addK h).or ui
theorem r_addS {H : Hp} {Q : VK} {i j : Str} (h1 : i.length + j.length <= sizeLine) (h : Q (.str (i ++ j)) H) : gu K (.str i) (.str j) H Q := .inr ⟨i, j, rfl, rfl, h1, h⟩
theorem Lw {H : Hp} {Q : VK} {p q : Int} (h : Q (.int (p + q)) H) : gu K (.int p) (.int q) H Q := .inl (br h)
theorem Kw {H : Hp} {Q : VK} {a b : Addr} {xs ys : List V} (h1 : H a = some (.lst xs)) (h2 : H b = some (.lst ys)) (h3 : xs.length + ys.length <= sizeLine) (h : ∀ p, H p = none -> Q (.ref p) (upd H p (.lst (xs ++ ys)))) : gu K (.ref a) (.ref b) H Q := .inl (Pe h1 h2 h3 h)
def rIxC (K : PySem.W.Frag) : R2 := fun x y H Q => rIx2 K x y H Q \/ rIxS x y H Q
theorem ixCK (h : X.K = K) : IxR X (rIxC K) := (ixK h).or ix_str
theorem r_ixCS {H : Hp} {Q : VK} {z : Str} {i : Nat} {c : Nat} (h1 : z.length <= sizeLine) (h2 : z.cps.toList[i]? = some c) (h : Q (.str ⟨#[c]⟩) H) : rIxC K (.str z) (.int (i : Int)) H Q := .inr ⟨z, i, c, rfl, rfl, h1, Pb h2, h⟩
theorem fm {H : Hp} {Q : VK} {x y : V} (h : rIx2 K x y H Q) : rIxC K x y H Q := .inl h
end
end L2
namespace L2
open PySem PySem.Spec PyProof.Rows
local macro_rules | `(tactic| walk_at "ad") => `(tactic| first | (intro q; have q' : @Eq Nat _ _ := q; omega) | omega)
theorem Gh (a b c : Value) : checkTypeCall "zip" ⟨[a, b, c], []⟩ = pure () := by kernel_rfl
theorem Ej (a b c : Value) : checkBuiltinCall "zip.__new__" ⟨[.type "zip", a, b, c], []⟩ = pure () := by kernel_rfl
theorem yf (a b c d : Value) : argsOk "object.__init__" ⟨[a, b, c, d], []⟩ := by
 unfold argsOk; rw [signature?_of (id := "object.__init__") (n := ['_', '_', 't', 'i', 'n', 'i', '_', '_']) (o := ['t', 'c', 'e', 'j', 'b', 'o']) (by kernel_rfl) F.owner_object]; kernel_rfl
abbrev Sb (h : Heap) (T : Addr) (a b c : Value) : Prop := h.get? T = some { cls := .type "tuple", data := .seq #[a, b, c] }
section
variable {prog : Program} {w : World} {A : Around} {E : Value -> Shared -> Prop} {s : Shared}
theorem Ig {T : Addr} {a b c x : Value} {k : Nat} {Q : Unit -> Shared -> Prop} (hT : Sb s.heap T a b c)
 (h : ∀ h', h'.get? T = some { cls := .type "tuple", data := .seq ((#[a, b, c] : Array Value).setIfInBounds k x) } -> Heap.SameBut T s.heap h' -> Q () { s with heap := h' }) :
 wpAny (model prog w) A (updateSeq T (·.setIfInBounds k x)) Q E s := by
 refine wpAny_updateSeq hT rfl (h _ ?_ (Heap.SameBut.update ..))
 rw [Heap.get?_update_self _ hT rfl]
 simp [Obj.mapSeq]
theorem rp {n l1 l2 l3 : Nat} {k1 k2 k3 : Nat} {xs ys zs : Array Value} {x y v a b c : Value} {Q : Value -> Shared -> Prop} (a1 : l1 < n) (a2 : l2 < n) (a3 : l3 < n)
 (hz : IsZip s.heap (n + 5) (n + 3) (n + 4) .none) (hTI : Sb s.heap (n + 3) (.ref n) (.ref (n + 1)) (.ref (n + 2))) (hTO : Sb s.heap (n + 4) a b c)
 (h1 : s.heap.IsListIter n l1 k1) (h2 : s.heap.IsListIter (n + 1) l2 k2) (h3 : s.heap.IsListIter (n + 2) l3 k3) (hl1 : s.heap.IsList l1 xs) (hl2 : s.heap.IsList l2 ys) (hl3 : s.heap.IsList l3 zs) (hx : xs[k1]? = some x) (hy : ys[k2]? = some y) (hv : zs[k3]? = some v)
 (hQ : ∀ h', IsZip h' (n + 5) (n + 3) (n + 4) (rawInt s.heap.objs.size) -> Sb h' (n + 4) x y v -> h'.IsListIter n l1 (k1 + 1) -> h'.IsListIter (n + 1) l2 (k2 + 1) -> h'.IsListIter (n + 2) l3 (k3 + 1) -> Sb h' s.heap.objs.size x y v -> h'.objs.size = s.heap.objs.size + 1 ->
   (∀ c o, c ≠ n + 5 -> c ≠ n + 4 -> c ≠ n -> c ≠ n + 1 -> c ≠ n + 2 -> s.heap.get? c = some o -> h'.get? c = some o) -> Q (.ref s.heap.objs.size) { s with heap := h' }) :
 wpAny (model prog w) A (Builtin.«zip.__next__» ⟨[.ref (n + 5)], []⟩) (fun fin s' => ∃ v, fin = .done (.ret v) /\ Q v s') E s := by
 show wpAny _ _ (field (.ref (n + 5)) 2 >>= _) _ _ _
 refine wpAny_bind (wpAny_field hz rfl (x := .bool false) rfl ?_)
 show wpAny _ _ (field (.ref (n + 5)) 3 >>= _) _ _ _
 refine wpAny_bind (wpAny_field hz rfl (x := .ref (n + 3)) rfl ?_)
 refine wpAny_bind (wpAny_seqItems hTI rfl ?_)
 show wpAny _ _ (Builtin.SmallTypes.ownedTupleIsFree (.ref (n + 5)) >>= _) _ _ _
 refine wpAny_bind ?_
 unfold Builtin.SmallTypes.ownedTupleIsFree
 refine wpAny_bind (wpAny_field hz rfl (x := .none) rfl (wpAny_pure ?_))
 simp only [if_true]
 refine wpAny_bind (wpAny_rule ?_)
 refine wpAny_bind (wpAny_field hz rfl (x := .ref (n + 4)) rfl ?_)
 refine wpAny_bind (wpAny_setField_rec hz (by simp) fun g1 hz1 s1 => ?_)
 replace hz1 : IsZip g1 (n + 5) (n + 3) (n + 4) .ellipsis := hz1
 refine wpAny_bind ?_
 simp only [List.zipIdx_cons, List.zipIdx_nil, List.forIn_cons, List.forIn_nil]
 refine wpAny_bind (wpAny_bind (wpAny_onRaise ?_))
 show wpAny _ _ (Builtin.SmallTypes.nextOf (.ref n) >>= _) _ _ _
 refine wpAny_bind (wpAny_nextOf_list_item (h1.extBut s1.extBut (by walk_at "ad")) (hl1.extBut s1.extBut (by walk_at "ad")) hx fun g2 w1 s2 => wpAny_pure ?_)
 have o2 : Sb g2 (n + 4) a b c := s2.extBut _ _ (by walk_at "ad") (s1.extBut _ _ (by walk_at "ad") hTO)
 refine wpAny_bind (wpAny_seqItems o2 rfl ?_)
 refine wpAny_bind (Ig o2 fun g3 o3 s3 => ?_)
 replace o3 : Sb g3 (n + 4) x b c := o3
 refine wpAny_bind (wpAny_letGo (wpAny_pure ?_))
 have k3' : ∀ c o, c ≠ n + 5 -> c ≠ n + 4 -> c ≠ n -> s.heap.get? c = some o -> g3.get? c = some o := fun c o c1 c2 c3 e => s3.extBut _ _ c2 (s2.extBut _ _ c3 (s1.extBut _ _ c1 e))
 refine wpAny_bind (wpAny_bind (wpAny_onRaise ?_))
 show wpAny _ _ (Builtin.SmallTypes.nextOf (.ref (n + 1)) >>= _) _ _ _
 refine wpAny_bind (wpAny_nextOf_list_item (h2.at fun o e => k3' _ o (by walk_at "ad") (by walk_at "ad") (by walk_at "ad") e) (hl2.at fun o e => k3' _ o (by walk_at "ad") (by walk_at "ad") (by walk_at "ad") e) hy fun g4 w2 s4 => wpAny_pure ?_)
 have o4 : Sb g4 (n + 4) x b c := s4.extBut _ _ (by walk_at "ad") o3
 refine wpAny_bind (wpAny_seqItems o4 rfl ?_)
 refine wpAny_bind (Ig o4 fun g5 o5 s5 => ?_)
 replace o5 : Sb g5 (n + 4) x y c := o5
 refine wpAny_bind (wpAny_letGo (wpAny_pure ?_))
 have k5' : ∀ c o, c ≠ n + 5 -> c ≠ n + 4 -> c ≠ n -> c ≠ n + 1 -> s.heap.get? c = some o -> g5.get? c = some o := fun c o c1 c2 c3 c4 e => s5.extBut _ _ c2 (s4.extBut _ _ c4 (k3' c o c1 c2 c3 e))
 refine wpAny_bind (wpAny_bind (wpAny_onRaise ?_))
 show wpAny _ _ (Builtin.SmallTypes.nextOf (.ref (n + 2)) >>= _) _ _ _
 refine wpAny_bind (wpAny_nextOf_list_item (h3.at fun o e => k5' _ o (by walk_at "ad") (by walk_at "ad") (by walk_at "ad") (by walk_at "ad") e) (hl3.at fun o e => k5' _ o (by walk_at "ad") (by walk_at "ad") (by walk_at "ad") (by walk_at "ad") e) hv fun g6 w3 s6 => wpAny_pure ?_)
 have o6 : Sb g6 (n + 4) x y c := s6.extBut _ _ (by walk_at "ad") o5
 refine wpAny_bind (wpAny_seqItems o6 rfl ?_)
 refine wpAny_bind (Ig o6 fun g7 o7 s7 => ?_)
 replace o7 : Sb g7 (n + 4) x y v := o7
 refine wpAny_bind (wpAny_letGo (wpAny_pure (wpAny_pure ?_)))
 refine wpAny_bind (wpAny_seqItems o7 rfl ?_)
 refine wpAny_bind (wpAny_newTuple ?_)
 have hsz : g7.objs.size = s.heap.objs.size := by rw [s7.1, s6.1, s5.1, s4.1, s3.1, s2.1, s1.1]
 have hz7 : IsZip g7 (n + 5) (n + 3) (n + 4) .ellipsis := s7.extBut _ _ (by walk_at "ad") (s6.extBut _ _ (by walk_at "ad") (s5.extBut _ _ (by walk_at "ad") (s4.extBut _ _ (by walk_at "ad") (s3.extBut _ _ (by walk_at "ad") (s2.extBut _ _ (by walk_at "ad") hz1)))))
 have k7 : ∀ c o, c ≠ n + 5 -> c ≠ n + 4 -> c ≠ n -> c ≠ n + 1 -> c ≠ n + 2 -> s.heap.get? c = some o -> g7.get? c = some o := fun c o c1 c2 c3 c4 c5 e => s7.extBut _ _ c2 (s6.extBut _ _ c5 (k5' c o c1 c2 c3 c4 e))
 have u1 : g7.IsListIter n l1 (k1 + 1) := w1.at fun o e => s7.extBut _ _ (by walk_at "ad") (s6.extBut _ _ (by walk_at "ad") (s5.extBut _ _ (by walk_at "ad") (s4.extBut _ _ (by walk_at "ad") (s3.extBut _ _ (by walk_at "ad") e))))
 have u2 : g7.IsListIter (n + 1) l2 (k2 + 1) := w2.at fun o e => s7.extBut _ _ (by walk_at "ad") (s6.extBut _ _ (by walk_at "ad") (s5.extBut _ _ (by walk_at "ad") e))
 have u3 : g7.IsListIter (n + 2) l3 (k3 + 1) := w3.at fun o e => s7.extBut _ _ (by walk_at "ad") e
 have hzlt : n + 5 < g7.objs.size := Heap.lt_size hz7
 show wpAny _ _ (Builtin.SmallTypes.ownedTupleHandOut (.ref (n + 5)) (.ref g7.objs.size) >>= _) _ _ _
 refine wpAny_bind ?_
 unfold Builtin.SmallTypes.ownedTupleHandOut
 have hz8 : IsZip (g7.push { cls := .type "tuple", data := .seq #[x, y, v] }) (n + 5) (n + 3) (n + 4) .ellipsis := Heap.get?_push_of_some _ hz7
 refine wpAny_bind (wpAny_setField_rec hz8 (by simp) fun g9 hz9 s9 => ?_)
 replace hz9 : IsZip g9 (n + 5) (n + 3) (n + 4) (rawInt g7.objs.size) := hz9
 refine wpAny_setField_rec hz9 (by simp) fun g10 hz10 s10 => ?_
 replace hz10 : IsZip g10 (n + 5) (n + 3) (n + 4) (rawInt g7.objs.size) := hz10
 have up : ∀ c o, c ≠ n + 5 -> g7.get? c = some o -> g10.get? c = some o := fun c o c1 e => s10.extBut _ _ c1 (s9.extBut _ _ c1 (Heap.get?_push_of_some _ e))
 have hT : Sb g10 g7.objs.size x y v := s10.extBut _ _ (Nat.ne_of_gt hzlt) (s9.extBut _ _ (Nat.ne_of_gt hzlt) (Heap.get?_push_size _ rfl))
 have hsz2 : g10.objs.size = g7.objs.size + 1 := by rw [s10.1, s9.1, Heap.size_push]
 rw [hsz] at hz10 hT hsz2
 refine wpAny_pure ⟨_, rfl, ?_⟩
 show Q (.ref g7.objs.size) _
 rw [hsz]
 exact hQ g10 hz10 (up _ _ (by walk_at "ad") o7) (u1.at fun o e => up _ o (by walk_at "ad") e) (u2.at fun o e => up _ o (by walk_at "ad") e) (u3.at fun o e => up _ o (by walk_at "ad") e) hT hsz2 fun c o c1 c2 c3 c4 c5 e => up c o c1 (k7 c o c1 c2 c3 c4 c5 e)
theorem Dt {n l1 l2 l3 : Nat} {k1 k2 k3 : Nat} {xs ys zs : Array Value} {a b c : Value} {Q : Fin -> Shared -> Prop} (hh : A.handled = none) (a1 : l1 < n) (a2 : l2 < n) (a3 : l3 < n)
 (hz : IsZip s.heap (n + 5) (n + 3) (n + 4) .none) (hTI : Sb s.heap (n + 3) (.ref n) (.ref (n + 1)) (.ref (n + 2))) (hTO : Sb s.heap (n + 4) a b c)
 (h1 : s.heap.IsListIter n l1 k1) (h2 : s.heap.IsListIter (n + 1) l2 k2) (h3 : s.heap.IsListIter (n + 2) l3 k3) (hl1 : s.heap.IsList l1 xs) (hl2 : s.heap.IsList l2 ys) (hl3 : s.heap.IsList l3 zs) (hend : xs[k1]? = none \/ ys[k2]? = none \/ zs[k3]? = none)
 (hE : ∀ h' e, (∀ c o, c ≠ n + 5 -> c ≠ n + 4 -> c ≠ n -> c ≠ n + 1 -> c ≠ n + 2 -> s.heap.get? c = some o -> h'.get? c = some o) -> (∃ o, h'.get? e = some o /\ o.cls = .type "StopIteration") -> E (.ref e) { s with heap := h' }) :
 wpAny (model prog w) A (Builtin.«zip.__next__» ⟨[.ref (n + 5)], []⟩) Q E s := by
 show wpAny _ _ (field (.ref (n + 5)) 2 >>= _) _ _ _
 refine wpAny_bind (wpAny_field hz rfl (x := .bool false) rfl ?_)
 show wpAny _ _ (field (.ref (n + 5)) 3 >>= _) _ _ _
 refine wpAny_bind (wpAny_field hz rfl (x := .ref (n + 3)) rfl ?_)
 refine wpAny_bind (wpAny_seqItems hTI rfl ?_)
 show wpAny _ _ (Builtin.SmallTypes.ownedTupleIsFree (.ref (n + 5)) >>= _) _ _ _
 refine wpAny_bind ?_
 unfold Builtin.SmallTypes.ownedTupleIsFree
 refine wpAny_bind (wpAny_field hz rfl (x := .none) rfl (wpAny_pure ?_))
 simp only [if_true]
 refine wpAny_bind (wpAny_rule ?_)
 refine wpAny_bind (wpAny_field hz rfl (x := .ref (n + 4)) rfl ?_)
 refine wpAny_bind (wpAny_setField_rec hz (by simp) fun g1 hz1 s1 => ?_)
 replace hz1 : IsZip g1 (n + 5) (n + 3) (n + 4) .ellipsis := hz1
 refine wpAny_bind ?_
 simp only [List.zipIdx_cons, List.zipIdx_nil, List.forIn_cons, List.forIn_nil]
 refine wpAny_bind (wpAny_bind (wpAny_onRaise ?_))
 show wpAny _ _ (Builtin.SmallTypes.nextOf (.ref n) >>= _) _ _ _
 cases hx : xs[k1]? with
 | none =>
  refine wpAny_bind (wpAny_nextOf_list_end hh (h1.extBut s1.extBut (by walk_at "ad")) (hl1.extBut s1.extBut (by walk_at "ad")) hx fun g2 e s2 he => ?_)
  obtain ⟨oe, hoe, hce⟩ := he
  have hz2 : IsZip g2 (n + 5) (n + 3) (n + 4) .ellipsis := s2 _ _ (by walk_at "ad") hz1
  have hez : e ≠ n + 5 := fun x => by subst x; rw [hz2] at hoe; cases hoe; simp at hce
  refine wpAny_setField_rec hz2 (by simp) fun g3 _ s3 => hE g3 e (fun c o c1 _ c3 _ _ x => s3.extBut _ _ c1 (s2 _ _ c3 (s1.extBut _ _ c1 x))) ⟨oe, s3.extBut _ _ hez hoe, hce⟩
 | some x =>
  refine wpAny_bind (wpAny_nextOf_list_item (h1.extBut s1.extBut (by walk_at "ad")) (hl1.extBut s1.extBut (by walk_at "ad")) hx fun g2 w1 s2 => wpAny_pure ?_)
  have o2 : Sb g2 (n + 4) a b c := s2.extBut _ _ (by walk_at "ad") (s1.extBut _ _ (by walk_at "ad") hTO)
  refine wpAny_bind (wpAny_seqItems o2 rfl ?_)
  refine wpAny_bind (Ig o2 fun g3 o3 s3 => ?_)
  replace o3 : Sb g3 (n + 4) x b c := o3
  refine wpAny_bind (wpAny_letGo (wpAny_pure ?_))
  have k3' : ∀ c o, c ≠ n + 5 -> c ≠ n + 4 -> c ≠ n -> s.heap.get? c = some o -> g3.get? c = some o := fun c o c1 c2 c3 e => s3.extBut _ _ c2 (s2.extBut _ _ c3 (s1.extBut _ _ c1 e))
  have hz3 : IsZip g3 (n + 5) (n + 3) (n + 4) .ellipsis := s3.extBut _ _ (by walk_at "ad") (s2.extBut _ _ (by walk_at "ad") hz1)
  refine wpAny_bind (wpAny_bind (wpAny_onRaise ?_))
  show wpAny _ _ (Builtin.SmallTypes.nextOf (.ref (n + 1)) >>= _) _ _ _
  cases hy : ys[k2]? with
  | none =>
   refine wpAny_bind (wpAny_nextOf_list_end hh (h2.at fun o e => k3' _ o (by walk_at "ad") (by walk_at "ad") (by walk_at "ad") e) (hl2.at fun o e => k3' _ o (by walk_at "ad") (by walk_at "ad") (by walk_at "ad") e) hy fun g4 e s4 he => ?_)
   obtain ⟨oe, hoe, hce⟩ := he
   have hz4 : IsZip g4 (n + 5) (n + 3) (n + 4) .ellipsis := s4 _ _ (by walk_at "ad") hz3
   have hez : e ≠ n + 5 := fun x => by subst x; rw [hz4] at hoe; cases hoe; simp at hce
   refine wpAny_setField_rec hz4 (by simp) fun g5 _ s5 => hE g5 e (fun c o c1 c2 c3 c4 _ x => s5.extBut _ _ c1 (s4 _ _ c4 (k3' c o c1 c2 c3 x))) ⟨oe, s5.extBut _ _ hez hoe, hce⟩
  | some y =>
   have hv : zs[k3]? = none := by rcases hend with h | h | h; rw [hx] at h; cases h; rw [hy] at h; cases h; exact h
   refine wpAny_bind (wpAny_nextOf_list_item (h2.at fun o e => k3' _ o (by walk_at "ad") (by walk_at "ad") (by walk_at "ad") e) (hl2.at fun o e => k3' _ o (by walk_at "ad") (by walk_at "ad") (by walk_at "ad") e) hy fun g4 w2 s4 => wpAny_pure ?_)
   have o4 : Sb g4 (n + 4) x b c := s4.extBut _ _ (by walk_at "ad") o3
   refine wpAny_bind (wpAny_seqItems o4 rfl ?_)
   refine wpAny_bind (Ig o4 fun g5 o5 s5 => ?_)
   refine wpAny_bind (wpAny_letGo (wpAny_pure ?_))
   have k5' : ∀ c o, c ≠ n + 5 -> c ≠ n + 4 -> c ≠ n -> c ≠ n + 1 -> s.heap.get? c = some o -> g5.get? c = some o := fun c o c1 c2 c3 c4 e => s5.extBut _ _ c2 (s4.extBut _ _ c4 (k3' c o c1 c2 c3 e))
   refine wpAny_bind (wpAny_bind (wpAny_onRaise ?_))
   show wpAny _ _ (Builtin.SmallTypes.nextOf (.ref (n + 2)) >>= _) _ _ _
   refine wpAny_bind (wpAny_nextOf_list_end hh (h3.at fun o e => k5' _ o (by walk_at "ad") (by walk_at "ad") (by walk_at "ad") (by walk_at "ad") e) (hl3.at fun o e => k5' _ o (by walk_at "ad") (by walk_at "ad") (by walk_at "ad") (by walk_at "ad") e) hv fun g6 e s6 he => ?_)
   obtain ⟨oe, hoe, hce⟩ := he
   have hz6 : IsZip g6 (n + 5) (n + 3) (n + 4) .ellipsis := s6 _ _ (by walk_at "ad") (s5.extBut _ _ (by walk_at "ad") (s4.extBut _ _ (by walk_at "ad") hz3))
   have hez : e ≠ n + 5 := fun x => by subst x; rw [hz6] at hoe; cases hoe; simp at hce
   refine wpAny_setField_rec hz6 (by simp) fun g7 _ s7 => hE g7 e (fun c o c1 c2 c3 c4 c5 x => s7.extBut _ _ c1 (s6 _ _ c5 (k5' c o c1 c2 c3 c4 x))) ⟨oe, s7.extBut _ _ hez hoe, hce⟩
theorem Ro {n l1 l2 l3 : Nat} {k1 k2 k3 : Nat} {xs ys zs : Array Value} {x y v a b c : Value} {Q : Option Value -> Shared -> Prop} (a1 : l1 < n) (a2 : l2 < n) (a3 : l3 < n)
 (hz : IsZip s.heap (n + 5) (n + 3) (n + 4) .none) (hTI : Sb s.heap (n + 3) (.ref n) (.ref (n + 1)) (.ref (n + 2))) (hTO : Sb s.heap (n + 4) a b c)
 (h1 : s.heap.IsListIter n l1 k1) (h2 : s.heap.IsListIter (n + 1) l2 k2) (h3 : s.heap.IsListIter (n + 2) l3 k3) (hl1 : s.heap.IsList l1 xs) (hl2 : s.heap.IsList l2 ys) (hl3 : s.heap.IsList l3 zs) (hx : xs[k1]? = some x) (hy : ys[k2]? = some y) (hv : zs[k3]? = some v)
 (hQ : ∀ h', IsZip h' (n + 5) (n + 3) (n + 4) (rawInt s.heap.objs.size) -> Sb h' (n + 4) x y v -> h'.IsListIter n l1 (k1 + 1) -> h'.IsListIter (n + 1) l2 (k2 + 1) -> h'.IsListIter (n + 2) l3 (k3 + 1) -> Sb h' s.heap.objs.size x y v -> h'.objs.size = s.heap.objs.size + 1 ->
   (∀ c o, c ≠ n + 5 -> c ≠ n + 4 -> c ≠ n -> c ≠ n + 1 -> c ≠ n + 2 -> s.heap.get? c = some o -> h'.get? c = some o) -> Q (some (.ref s.heap.objs.size)) { s with heap := h' }) :
 wpAny (model prog w) A (pyNext (.ref (n + 5))) Q E s := by
 have hT : s.TypeIs (.ref (n + 5)) "zip" := ⟨_, hz, rfl⟩
 unfold pyNext
 exact wpAny_bind (wpAny_attempt (wpAny_callSpecial?_slot (name := Str.ofString "__next__") hT F.slot_zip_next
  (wpAny_call_entry F.slot_zip_next hT F.entry_zip_next
    (rp a1 a2 a3 hz hTI hTO h1 h2 h3 hl1 hl2 hl3 hx hy hv fun h' b1 b2 b3 b4 b5 b6 b7 b8 => wpAny_pure (hQ h' b1 b2 b3 b4 b5 b6 b7 b8)) (F.args_zip_next_1 _))))
theorem Yr {n l1 l2 l3 : Nat} {k1 k2 k3 : Nat} {xs ys zs : Array Value} {a b c : Value} {Q : Option Value -> Shared -> Prop} (hh : A.handled = none) (a1 : l1 < n) (a2 : l2 < n) (a3 : l3 < n)
 (hz : IsZip s.heap (n + 5) (n + 3) (n + 4) .none) (hTI : Sb s.heap (n + 3) (.ref n) (.ref (n + 1)) (.ref (n + 2))) (hTO : Sb s.heap (n + 4) a b c)
 (h1 : s.heap.IsListIter n l1 k1) (h2 : s.heap.IsListIter (n + 1) l2 k2) (h3 : s.heap.IsListIter (n + 2) l3 k3) (hl1 : s.heap.IsList l1 xs) (hl2 : s.heap.IsList l2 ys) (hl3 : s.heap.IsList l3 zs) (hend : xs[k1]? = none \/ ys[k2]? = none \/ zs[k3]? = none)
 (hQ : ∀ h', (∀ c o, c ≠ n + 5 -> c ≠ n + 4 -> c ≠ n -> c ≠ n + 1 -> c ≠ n + 2 -> s.heap.get? c = some o -> h'.get? c = some o) -> Q none { s with heap := h' }) : wpAny (model prog w) A (pyNext (.ref (n + 5))) Q E s := by
 have hT : s.TypeIs (.ref (n + 5)) "zip" := ⟨_, hz, rfl⟩
 unfold pyNext
 refine wpAny_bind (wpAny_attempt (wpAny_callSpecial?_slot (name := Str.ofString "__next__") hT F.slot_zip_next
  (wpAny_call_entry F.slot_zip_next hT F.entry_zip_next (Dt hh a1 a2 a3 hz hTI hTO h1 h2 h3 hl1 hl2 hl3 hend fun h' e hk he => ?_) (F.args_zip_next_1 _))))
 obtain ⟨o, ho, hc⟩ := he
 refine wpAny_bind (wpAny_isInstance (T := "StopIteration") (b := true) ⟨o, ho, hc⟩ isSubtype_stop ?_)
 exact wpAny_pure (hQ _ hk)
end
abbrev z3a (h : Heap) (l1 : Addr) : Heap := h.push { cls := .type "list_iterator", data := .fields #[.ref l1, .int 0 0] }
abbrev z3b (h : Heap) (l1 l2 : Addr) : Heap := (z3a h l1).push { cls := .type "list_iterator", data := .fields #[.ref l2, .int 0 0] }
abbrev z3c (h : Heap) (l1 l2 l3 : Addr) : Heap := (z3b h l1 l2).push { cls := .type "list_iterator", data := .fields #[.ref l3, .int 0 0] }
abbrev z3d (h : Heap) (l1 l2 l3 : Addr) : Heap := (z3c h l1 l2 l3).push { cls := .type "tuple", data := .seq #[.ref h.objs.size, .ref (z3a h l1).objs.size, .ref (z3b h l1 l2).objs.size] }
abbrev z3e (h : Heap) (l1 l2 l3 : Addr) : Heap := (z3d h l1 l2 l3).push { cls := .type "tuple", data := .seq #[.none, .none, .none] }
abbrev z3f (h : Heap) (l1 l2 l3 : Addr) : Heap := (z3e h l1 l2 l3).push { cls := .type "zip", data := .fields #[.none, .bool false, .bool false, .ref (z3c h l1 l2 l3).objs.size, .ref (z3d h l1 l2 l3).objs.size] }
set_option maxHeartbeats 1000000 in
theorem To (l1 l2 l3 : Addr) (xs ys zs : Array Value) :
 Meets (Builtin.«zip.__new__» ⟨[.type "zip", .ref l1, .ref l2, .ref l3], []⟩) (fun _ R s => s.heap.IsList l1 xs /\ s.heap.IsList l2 ys /\ s.heap.IsList l3 zs /\
  R (.ok (.ret (.ref (z3e s.heap l1 l2 l3).objs.size))) { s with heap := z3f s.heap l1 l2 l3 }) :=
 .of_wp fun prog w A R s h => by
  obtain ⟨hp, g, d, tk, os⟩ := s; obtain ⟨hl1, hl2, hl3, h⟩ := h
  have hsub := sub_zip
  have hL1 : Heap.IsList (Shared.heap ⟨hp, g, d, tk, os⟩) l1 xs := hl1
  have hL2 : Heap.IsList (Shared.heap ⟨hp.push { cls := .type "list_iterator", data := .fields #[.ref l1, .int 0 0] }, g, d, tk, os⟩) l2 ys := Heap.IsList.push hl2 _
  have hL3 : Heap.IsList (Shared.heap ⟨(hp.push { cls := .type "list_iterator", data := .fields #[.ref l1, .int 0 0] }).push { cls := .type "list_iterator", data := .fields #[.ref l2, .int 0 0] }, g, d, tk, os⟩) l3 zs := Heap.IsList.push (Heap.IsList.push hl3 _) _
  wp_walk using wpAny_pyIter_list hL1, wpAny_pyIter_list hL2, wpAny_pyIter_list hL3
  exact ⟨_, rfl, h⟩
section
variable {prog : Program} {w : World} {A : Around} {E : Value -> Shared -> Prop} {s : Shared}
theorem cp {l1 l2 l3 : Addr} {xs ys zs : Array Value} {Q : Value -> Shared -> Prop} (hl1 : s.heap.IsList l1 xs) (hl2 : s.heap.IsList l2 ys) (hl3 : s.heap.IsList l3 zs)
 (h : ∀ h', IsZip h' (s.heap.objs.size + 5) (s.heap.objs.size + 3) (s.heap.objs.size + 4) .none -> Sb h' (s.heap.objs.size + 3) (.ref s.heap.objs.size) (.ref (s.heap.objs.size + 1)) (.ref (s.heap.objs.size + 2)) ->
   Sb h' (s.heap.objs.size + 4) .none .none .none -> h'.IsListIter s.heap.objs.size l1 0 -> h'.IsListIter (s.heap.objs.size + 1) l2 0 -> h'.IsListIter (s.heap.objs.size + 2) l3 0 ->
   (∀ c o, s.heap.get? c = some o -> h'.get? c = some o) -> Q (.ref (s.heap.objs.size + 5)) { s with heap := h' }) :
 wpAny (model prog w) A (call (.type "zip") [.ref l1, .ref l2, .ref l3]) Q E s := by
 refine callType_new F.called_zip (by decide) (Gh _ _ _) (Ej _ _ _) (fun obj => yf obj _ _ _) F.entry_zip_new
  (To l1 l2 l3 xs ys zs) ⟨hl1, hl2, hl3, ?_⟩
 have z1 : (z3a s.heap l1).objs.size = s.heap.objs.size + 1 := Heap.size_push ..
 have z2 : (z3b s.heap l1 l2).objs.size = s.heap.objs.size + 2 := by rw [Heap.size_push, z1]
 have z3 : (z3c s.heap l1 l2 l3).objs.size = s.heap.objs.size + 3 := by rw [Heap.size_push, z2]
 have z4 : (z3d s.heap l1 l2 l3).objs.size = s.heap.objs.size + 4 := by rw [Heap.size_push, z3]
 have z5 : (z3e s.heap l1 l2 l3).objs.size = s.heap.objs.size + 5 := by rw [Heap.size_push, z4]
 have g6 : (z3f s.heap l1 l2 l3).get? (z3e s.heap l1 l2 l3).objs.size = some _ := Heap.get?_push_size _ rfl
 have g5 : (z3f s.heap l1 l2 l3).get? (z3d s.heap l1 l2 l3).objs.size = some _ := Heap.get?_push_of_some _ (Heap.get?_push_size _ rfl)
 have g4 : (z3f s.heap l1 l2 l3).get? (z3c s.heap l1 l2 l3).objs.size = some _ := Heap.get?_push_of_some _ (Heap.get?_push_of_some _ (Heap.get?_push_size _ rfl))
 have g3 : (z3f s.heap l1 l2 l3).get? (z3b s.heap l1 l2).objs.size = some _ := Heap.get?_push_of_some _ (Heap.get?_push_of_some _ (Heap.get?_push_of_some _ (Heap.get?_push_size _ rfl)))
 have g2 : (z3f s.heap l1 l2 l3).get? (z3a s.heap l1).objs.size = some _ := Heap.get?_push_of_some _ (Heap.get?_push_of_some _ (Heap.get?_push_of_some _ (Heap.get?_push_of_some _ (Heap.get?_push_size _ rfl))))
 have g1 : (z3f s.heap l1 l2 l3).get? s.heap.objs.size = some _ := Heap.get?_push_of_some _ (Heap.get?_push_of_some _ (Heap.get?_push_of_some _ (Heap.get?_push_of_some _ (Heap.get?_push_of_some _ (Heap.get?_push_size _ rfl)))))
 show _ /\ _
 rw [z3, z4, z5] at g6
 rw [z1, z2, z3] at g4
 rw [z4] at g5
 rw [z2] at g3
 rw [z1] at g2
 rw [z5]
 exact ⟨⟨_, g6, rfl⟩, h _ g6 g4 g5 ⟨_, g1, rfl, rfl⟩ ⟨_, g2, rfl, rfl⟩ ⟨_, g3, rfl, rfl⟩ fun c o x =>
  Heap.get?_push_of_some _ (Heap.get?_push_of_some _ (Heap.get?_push_of_some _ (Heap.get?_push_of_some _ (Heap.get?_push_of_some _ (Heap.get?_push_of_some _ x)))))⟩
end
end L2
namespace L2
open PySem PySem.Spec PyProof.Rows PySem.SeqAt
section
variable {X : Cx} {K : PySem.W.Frag}
def sv : V -> List V -> Hp -> VK -> Prop := fun x vs H Q => ∃ (l : Addr) (bs : List Bool) (k : Bool), x = .ref l /\ vs = [.bl k] /\ H l = some (.lst (bs.map V.bl)) /\ Q (.int ((bs.countP (· == k) : Nat) : Int)) H
theorem Qm : ∀ {bs : List Bool} {us : List Value}, Vals (bs.map V.bl) us -> us = bs.map Value.bool
 | [], _, .nil => rfl
 | b :: bs, _, .cons r t => by
  have r' : _ = Value.bool b := r
  rw [r', Qm t]
  rfl
theorem yg : MtM X "list.count" sv := by
 intro pins s σ H x vs v us Q I rx rv h
 obtain ⟨l, bs, k, rfl, rfl, hH, q⟩ := h
 cases rx
 obtain ⟨u1, rfl, r1⟩ := vals1 rv
 obtain rfl : u1 = Value.bool k := r1
 obtain ⟨z, its, n, r, hl, e⟩ := I.lstM hH
 obtain rfl : its = bs.map Value.bool := Qm r
 refine call_meets PySem.F.slot_list_count ⟨_, e, rfl⟩ PySem.F.entry_list_count (PySem.F.args_list_count_2 _ _) (list_countAt l (bs.map Value.bool).toArray n _ _ (.bool k) (isBoolOf k)) ⟨e, fun y hy => ?_, ?_⟩
 . have hy' : y ∈ bs.map Value.bool := by simpa using hy
   obtain ⟨b, _, rfl⟩ := List.mem_map.mp hy'
   exact EqAt.bool_bool b k
 . refine ⟨.int _, H, I.tok _, ⟨_, rfl⟩, ?_⟩
   rw [show (bs.map Value.bool).toArray.toList = bs.map Value.bool from rfl, List.countP_map]
   exact q
theorem mj {H : Hp} {Q : VK} {l : Addr} {bs : List Bool} {k : Bool} (h1 : H l = some (.lst (bs.map V.bl))) (h : Q (.int ((bs.countP (· == k) : Nat) : Int)) H) : sv (.ref l) [.bl k] H Q := ⟨l, bs, k, rfl, rfl, h1, h⟩
end
def Itz3 (a b c : Addr) : It :=
 ⟨fun i H => ∃ xs ys zs x y z, H a = some (.lst xs) /\ H b = some (.lst ys) /\ H c = some (.lst zs) /\ xs[i]? = some x /\ ys[i]? = some y /\ zs[i]? = some z,
  fun i H v H' => ∃ T xs ys zs x y z, v = .ref T /\ H T = none /\ H a = some (.lst xs) /\ H b = some (.lst ys) /\ H c = some (.lst zs) /\ xs[i]? = some x /\ ys[i]? = some y /\ zs[i]? = some z /\ H' = upd H T (.tup [x, y, z]),
  fun i H => ∃ xs ys zs, H a = some (.lst xs) /\ H b = some (.lst ys) /\ H c = some (.lst zs) /\ (xs.length <= i \/ ys.length <= i \/ zs.length <= i)⟩
theorem Ep {P : Program} {w : World} {K : PySem.W.Frag} {elts : List Expr} {k : Nat} {pos : Pos} {n a b c : Nat} (a1 : a < n) (a2 : b < n) (a3 : c < n) :
 Turn P w K (.Tuple elts k pos) (Itz3 a b c) [n + 5, n + 3, n + 4, n, n + 1, n + 2] (n + 5) (fun i h => IsZip h (n + 5) (n + 3) (n + 4) .none /\ Sb h (n + 3) (.ref n) (.ref (n + 1)) (.ref (n + 2)) /\ (∃ x y z, Sb h (n + 4) x y z) /\ h.IsListIter n a i /\ h.IsListIter (n + 1) b i /\ h.IsListIter (n + 2) c i) where
 mem := by simp
 obj := fun i h st d hd => by
  obtain ⟨hz, hTI, ⟨x, y, z, hTO⟩, ⟨o1, h1, c1, d1⟩, ⟨o2, h2, c2, d2⟩, ⟨o3, h3, c3, d3⟩⟩ := st
  simp only [List.mem_cons, List.not_mem_nil, or_false] at hd
  rcases hd with rfl | rfl | rfl | rfl | rfl | rfl
  . exact ⟨_, hz, fun v q => by cases q⟩
  . exact ⟨_, hTI, fun v q => by cases q⟩
  . exact ⟨_, hTO, fun v q => by cases q⟩
  . exact ⟨o1, h1, fun v q => by rw [d1] at q; cases q⟩
  . exact ⟨o2, h2, fun v q => by rw [d2] at q; cases q⟩
  . exact ⟨o3, h3, fun v q => by rw [d3] at q; cases q⟩
 keep := fun i h h' st k => by
  obtain ⟨hz, hTI, ⟨x, y, z, hTO⟩, h1, h2, h3⟩ := st
  exact ⟨k _ (by simp) _ hz, k _ (by simp) _ hTI, ⟨x, y, z, k _ (by simp) _ hTO⟩, h1.at fun o q => k _ (by simp) o q, h2.at fun o q => k _ (by simp) o q, h3.at fun o q => k _ (by simp) o q⟩
 item := by
  intro X hP hw hK hc i pins s σ H E I hf st hg
  subst hP hw hK
  obtain ⟨xs, ys, zs, x, y, z, hq1, hq2, hq3, hx, hy, hz'⟩ := hg
  obtain ⟨its1, rv1, p1, _⟩ := I.list (SqL.of (K := X.K) hq1)
  obtain ⟨its2, rv2, p2, _⟩ := I.list (SqL.of (K := X.K) hq2)
  obtain ⟨its3, rv3, p3, _⟩ := I.list (SqL.of (K := X.K) hq3)
  obtain ⟨u, hu, ru⟩ := rv1.get hx
  obtain ⟨v, hv, rv⟩ := rv2.get hy
  obtain ⟨t, ht, rt⟩ := rv3.get hz'
  obtain ⟨hz, hTI, ⟨x0, y0, z0, hTO⟩, h1, h2, h3⟩ := st
  refine Ro a1 a2 a3 hz hTI hTO h1 h2 h3 p1.isList p2.isList p3.isList (by rw [List.getElem?_toArray]; exact hu) (by rw [List.getElem?_toArray]; exact hv) (by rw [List.getElem?_toArray]; exact ht) fun h' z1 to1 w1 w2 w3 hT hs hk => ?_
  refine ⟨_, rfl, wpAny_letOwnedTupleGo_zip z1 fun h2' z2 sb => ?_⟩
  have lz : n + 5 < s.heap.objs.size := Heap.lt_size hz
  have kk : ∀ c o, c ≠ n + 5 -> c ≠ n + 4 -> c ≠ n -> c ≠ n + 1 -> c ≠ n + 2 -> s.heap.get? c = some o -> h2'.get? c = some o := fun c o c1 c2 c3 c4 c5 e => sb.extBut _ _ c1 (hk c o c1 c2 c3 c4 c5 e)
  have hTn : H s.heap.objs.size = none := I.hok.fresh (Nat.le_refl _)
  have nn : ∀ d : Nat, d <= n + 5 -> (s.heap.objs.size : Addr) ≠ d := fun d hd q => by have q' : @Eq Nat _ _ := q; omega
  have ad : ∀ d e : Nat, d ≠ e -> @Ne Addr d e := fun d e q => q
  refine ⟨.ref s.heap.objs.size, upd H s.heap.objs.size (.tup [x, y, z]), ?_, rfl, ⟨_, xs, ys, zs, x, y, z, rfl, hTn, hq1, hq2, hq3, hx, hy, hz', rfl⟩, ⟨z2, ?_, ⟨_, _, _, sb.extBut _ _ (ad _ _ (by omega)) to1⟩, w1.at fun o q => sb.extBut _ _ (ad _ _ (by omega)) q, w2.at fun o q => sb.extBut _ _ (ad _ _ (by omega)) q, w3.at fun o q => sb.extBut _ _ (ad _ _ (by omega)) q⟩, fun d hd => ?_⟩
  . refine I.Jg (t' := s.toks) (ch := [n + 5, n + 4, n, n + 1, n + 2]) (fun d o hd q => kk d o (fun z => hd (by simp [z])) (fun z => hd (by simp [z])) (fun z => hd (by simp [z])) (fun z => hd (by simp [z])) (fun z => hd (by simp [z])) q) (fun d hd => hf d (by simp at hd ⊢; rcases hd with rfl | rfl | rfl | rfl | rfl <;> simp)) (Nat.le_refl _) ?_
    refine ⟨by simp only [List.length_cons, List.length_nil]; rw [sizeLine_eq]; decide, [u, v, t], .cons ru (.cons rv (.cons rt .nil)), ?_⟩
    exact ⟨_, sb.extBut _ _ (nn _ (Nat.le_refl _)) hT, rfl, _, rfl⟩
  . exact kk _ _ (ad _ _ (by omega)) (ad _ _ (by omega)) (ad _ _ (by omega)) (ad _ _ (by omega)) (ad _ _ (by omega)) hTI
  . rw [La (fun q => by
     subst q
     simp only [List.mem_cons, List.not_mem_nil, or_false] at hd
     rcases hd with q | q | q | q | q | q
     . exact nn _ (by omega) q
     . exact nn _ (by omega) q
     . exact nn _ (by omega) q
     . exact nn _ (by omega) q
     . exact nn _ (by omega) q
     . exact nn _ (by omega) q)]
    exact (hf d hd).1
 done := by
  intro X hP hw hK hc i pins s σ H E I hf st hg
  subst hP hw hK
  obtain ⟨xs, ys, zs, hq1, hq2, hq3, hx⟩ := hg
  obtain ⟨its1, rv1, p1, _⟩ := I.list (SqL.of (K := X.K) hq1)
  obtain ⟨its2, rv2, p2, _⟩ := I.list (SqL.of (K := X.K) hq2)
  obtain ⟨its3, rv3, p3, _⟩ := I.list (SqL.of (K := X.K) hq3)
  obtain ⟨hz, hTI, ⟨x, y, z, hTO⟩, h1, h2, h3⟩ := st
  have l1 := rv1.length
  have l2 := rv2.length
  have l3 := rv3.length
  refine Yr (I.ok.hd hc) a1 a2 a3 hz hTI hTO h1 h2 h3 p1.isList p2.isList p3.isList ?_ fun h' hk => ⟨rfl, ?_⟩
  . rcases hx with hx | hx | hx
    . exact .inl (by rw [List.getElem?_toArray]; exact List.getElem?_eq_none (by omega))
    . exact .inr (.inl (by rw [List.getElem?_toArray]; exact List.getElem?_eq_none (by omega)))
    . exact .inr (.inr (by rw [List.getElem?_toArray]; exact List.getElem?_eq_none (by omega)))
  . exact I.Gi (t' := s.toks) (ch := [n + 5, n + 3, n + 4, n, n + 1, n + 2]) (fun d o hd q => hk d o (fun z => hd (by simp [z])) (fun z => hd (by simp [z])) (fun z => hd (by simp [z])) (fun z => hd (by simp [z])) (fun z => hd (by simp [z])) q) hf
 self := fun A i s Q E st h => wpAny_pyIter_zip st.1 h
def iZip3 (tA : TA) : TI := fun σ H R => tA σ H fun vs H1 => ∃ a b c xs ys zs, vs = [.ref a, .ref b, .ref c] /\ H1 a = some (.lst xs) /\ H1 b = some (.lst ys) /\ H1 c = some (.lst zs) /\ R (Itz3 a b c) H1
theorem Er {X : Cx} {elts : List Expr} {k : Nat} {tp : Pos} {a b c : Expr} {ta : TA} {p pos : Pos} (hg : Gl X "zip") (hm : X.mg "zip" = none) (ha : PA X [a, b, c] ta) (hs : starEach [a, b, c] X.env = [(false, eval a X.env), (false, eval b X.env), (false, eval c X.env)] := by first | rfl | with_unfolding_all rfl) (hs2 : starEach [b, c] X.env = [(false, eval b X.env), (false, eval c X.env)] := by first | rfl | with_unfolding_all rfl) :
 PI X (.Tuple elts k tp) (.Call (.Name "zip" p) [a, b, c] [] pos) (iZip3 ta) := by
 intro pins s σ H R I h
 refine Call_ (Ge I hg hm Kv (PyProof.Rows.callWith_type1 (thn (ha pos pins s σ H _ I h) fun us s1 ⟨vs, H1, I1, r1, q1⟩ => ?_) (by rw [hs, hs2]) (by rw [hs2]; rfl)))
 obtain ⟨l1, l2, l3, xs, ys, zs, e, hl1, hl2, hl3, q⟩ := q1
 subst e
 cases r1 with
 | cons r rr =>
  cases rr with
  | cons r' rr =>
   cases rr with
   | cons r'' rr =>
    cases rr
    cases r
    cases r'
    cases r''
    obtain ⟨its1, _, p1, _⟩ := I1.list (SqL.of (K := X.K) hl1)
    obtain ⟨its2, _, p2, _⟩ := I1.list (SqL.of (K := X.K) hl2)
    obtain ⟨its3, _, p3, _⟩ := I1.list (SqL.of (K := X.K) hl3)
    have a1 : l1 < s1.heap.objs.size := I1.hok.lt hl1
    have a2 : l2 < s1.heap.objs.size := I1.hok.lt hl2
    have a3 : l3 < s1.heap.objs.size := I1.hok.lt hl3
    refine cp p1.isList p2.isList p3.isList fun h' hz hTI hTO h1 h2 h3 hk => wpAny_pyIter_zip hz ?_
    have I2 : Inv X pins σ H1 { s1 with heap := h' } := I1.kept (t' := s1.toks) hk
    refine ⟨s1.heap.objs.size + 5, [s1.heap.objs.size + 5, s1.heap.objs.size + 3, s1.heap.objs.size + 4, s1.heap.objs.size, s1.heap.objs.size + 1, s1.heap.objs.size + 2], _, _, H1, rfl, I2, Ep a1 a2 a3, ⟨hz, hTI, ⟨_, _, _, hTO⟩, h1, h2, h3⟩, fun b hb => ?_, q⟩
    have hle : s1.heap.objs.size <= b := by
     simp only [List.mem_cons, List.not_mem_nil, or_false] at hb
     rcases hb with hb | hb | hb | hb | hb | hb <;> rw [hb]
     . exact Nat.le_add_right _ _
     . exact Nat.le_add_right _ _
     . exact Nat.le_add_right _ _
     . exact Nat.le_refl _
     . exact Nat.le_add_right _ _
     . exact Nat.le_add_right _ _
    exact I1.fpOk hle (I1.hok.fresh hle)
def ForZ3 (vs : List V) (g : TG) (tb : TS) (D : Ends) (σ : St) (H : Hp) : Prop := ∃ a b c xs ys zs, vs = [.ref a, .ref b, .ref c] /\ H a = some (.lst xs) /\ H b = some (.lst ys) /\ H c = some (.lst zs) /\ ForJ (Itz3 a b c) g tb D σ H
section
variable {tA : TA} {g : TG} {tb : TS} {D : Ends} {σ : St} {H : Hp} {n b c : St -> Hp -> Prop} {r : VK}
theorem Ew (h : tA σ H fun vs H1 => ForZ3 vs g tb D σ H1) : tFor (iZip3 tA) g tb D σ H := h
theorem forZ3 {a1 a2 a3 : Addr} {xs ys zs : List V} (N : Nat) (l1 : xs.length = N) (l2 : ys.length = N) (l3 : zs.length = N) (Pv : Nat -> St -> Hp -> Prop) (h0 : Pv 0 σ H) (hl : ∀ i σ H, i <= N -> Pv i σ H -> H a1 = some (.lst xs) /\ H a2 = some (.lst ys) /\ H a3 = some (.lst zs))
 (hs : ∀ (i : Nat) x y z σ H T, xs[i]? = some x -> ys[i]? = some y -> zs[i]? = some z -> Pv i σ H -> H T = none -> g (.ref T) σ (upd H T (.tup [x, y, z])) fun σ2 H2 => tb ⟨Pv (i + 1), r, n, Pv (i + 1)⟩ σ2 H2) (hd : ∀ σ H, Pv N σ H -> n σ H) : ForZ3 [.ref a1, .ref a2, .ref a3] g tb ⟨n, r, b, c⟩ σ H := by
 obtain ⟨q1, q2, q3⟩ := hl 0 σ H (Nat.zero_le _) h0
 refine ⟨a1, a2, a3, xs, ys, zs, rfl, q1, q2, q3, fun i m σ' H' => m = N - i /\ i <= N /\ Pv i σ' H', ⟨N, by simp, Nat.zero_le _, h0⟩, ?_⟩
 rintro i m σ' H' ⟨rfl, hi, p⟩
 obtain ⟨q1, q2, q3⟩ := hl i σ' H' hi p
 by_cases hlt : i < N
 . have e1 : i < xs.length := by omega
   have e2 : i < ys.length := by omega
   have e3 : i < zs.length := by omega
   refine .inr ⟨⟨xs, ys, zs, xs[i], ys[i], zs[i], q1, q2, q3, by simp [e1], by simp [e2], by simp [e3]⟩, Pv (i + 1), fun σ' H' p' => ⟨N - (i + 1), by omega, rfl, hlt, p'⟩, fun v H2 y => ?_⟩
   obtain ⟨T, xs', ys', zs', x, y, z, rfl, hT, e1, e2, e3, hx, hy, hz, rfl⟩ := y
   rw [q1] at e1
   rw [q2] at e2
   rw [q3] at e3
   cases e1
   cases e2
   cases e3
   exact hs i x y z σ' H' T hx hy hz p hT
 . have e : i = N := by omega
   refine .inl ⟨⟨xs, ys, zs, q1, q2, q3, by omega⟩, hd σ' H' (e ▸ p)⟩
end
end L2
namespace BR
open MB
inductive Wd where
 | council | bench | stay
 deriving DecidableEq
inductive Rn where
 | lot (n : Nat) | vote (n q : Nat) (w : Wd)
def Rn.n : Rn -> Nat
 | .lot n => n
 | .vote n _ _ => n
def Fit (c s : Nat) : Rn -> Prop
 | .lot n => 1 <= n /\ n <= 60 /\ n <= s
 | .vote n q w => 1 <= n /\ n <= 60 /\ n <= c /\ s < 2 * q /\ q <= s /\ (w = .bench -> n <= s) /\ (w = .stay -> n = s)
def FitR (c : Nat) : Nat -> List Rn -> Prop
 | _, [] => True
 | s, r :: rs => Fit c s r /\ FitR c r.n rs
def Qa : Nat -> List Rn -> Nat
 | s, [] => s
 | _, r :: rs => Qa r.n rs
theorem Fit.pos {c s : Nat} : ∀ {r : Rn}, Fit c s r -> 1 <= r.n /\ r.n <= 60
 | .lot _, h => ⟨h.1, h.2.1⟩
 | .vote _ _ _, h => ⟨h.1, h.2.1⟩
theorem Fit.le {c s : Nat} (hs : s <= c) : ∀ {r : Rn}, Fit c s r -> r.n <= c
 | .lot _, h => Nat.le_trans h.2.2 hs
 | .vote _ _ _, h => h.2.2.1
theorem qb : ∀ (a : List Rn) (s : Nat) (b : List Rn), Qa s (a ++ b) = Qa (Qa s a) b
 | [], _, _ => rfl
 | r :: a, _, b => qb a r.n b
theorem Wa (a : List Rn) (s : Nat) (r : Rn) : Qa s (a ++ [r]) = r.n := qb a s [r]
theorem FitR.app {c : Nat} : ∀ {a : List Rn} {s : Nat} {b : List Rn}, FitR c s (a ++ b) ↔ FitR c s a /\ FitR c (Qa s a) b
 | [], s, b => ⟨fun h => ⟨trivial, h⟩, fun h => h.2⟩
 | r :: a, s, b => by
  show (Fit c s r /\ FitR c r.n (a ++ b)) ↔ (Fit c s r /\ FitR c r.n a) /\ FitR c (Qa r.n a) b
  rw [FitR.app (a := a)]
  exact ⟨fun ⟨x, y, z⟩ => ⟨⟨x, y⟩, z⟩, fun ⟨⟨x, y⟩, z⟩ => ⟨x, y, z⟩⟩
theorem FitR.snoc {c s : Nat} {a : List Rn} {r : Rn} (h : FitR c s a) (h2 : Fit c (Qa s a) r) : FitR c s (a ++ [r]) := FitR.app.mpr ⟨h, h2, trivial⟩
theorem FitR.take {c s : Nat} {a : List Rn} (h : FitR c s a) (k : Nat) : FitR c s (a.take k) := by
 rw [<- List.take_append_drop k a] at h
 exact (FitR.app.mp h).1
theorem FitR.at {c s : Nat} {a : List Rn} {i : Nat} {r : Rn} (h : FitR c s a) (e : a[i]? = some r) : Fit c (Qa s (a.take i)) r := by
 have hlt := (List.getElem?_eq_some_iff.mp e).1
 have e2 : a = a.take i ++ (r :: a.drop (i + 1)) := by
  have := (List.getElem?_eq_some_iff.mp e).2
  rw [<- this, <- List.drop_eq_getElem_cons hlt, List.take_append_drop]
 rw [e2] at h
 have := (FitR.app.mp h).2.1
 exact this
theorem zb {c : Nat} : ∀ {a : List Rn} {s : Nat}, FitR c s a -> 1 <= s -> s <= c -> 1 <= Qa s a /\ Qa s a <= c
 | [], s, _, h1, h2 => ⟨h1, h2⟩
 | r :: a, s, h, h1, h2 => zb (a := a) h.2 h.1.pos.1 (h.1.le h2)
theorem Ja {α : Type} {l : List α} {i : Nat} {x : α} (h : l[i]? = some x) : l.take (i + 1) = l.take i ++ [x] := by
 rw [List.take_add_one, h]; rfl
def szs (rs : List Rn) : List Nat := rs.map Rn.n
theorem se : ∀ {rs : List Rn} {s i : Nat}, i <= rs.length -> (s :: szs rs)[i]? = some (Qa s (rs.take i))
 | _, s, 0, _ => rfl
 | [], s, i + 1, h => by simp at h
 | r :: rs, s, i + 1, h => by
  show (r.n :: szs rs)[i]? = some (Qa r.n (rs.take i))
  exact se (by simpa using h)
def dr (c s : Nat) : Rn -> Nat
 | .lot n => ch s n
 | .vote n _ .bench => ch s n
 | .vote n _ .council => ch c n
 | .vote _ _ .stay => 1
def drs (c : Nat) : Nat -> List Rn -> List Nat
 | _, [] => []
 | s, r :: rs => dr c s r :: drs c r.n rs
theorem Oj (c : Nat) : ∀ (a : List Rn) (s : Nat) (r : Rn), drs c s (a ++ [r]) = drs c s a ++ [dr c (Qa s a) r]
 | [], _, _ => rfl
 | x :: a, s, r => by
  show dr c s x :: drs c x.n (a ++ [r]) = (dr c s x :: drs c x.n a) ++ [dr c (Qa x.n a) r]
  rw [Oj c a x.n r]; rfl
theorem wb (c : Nat) : ∀ (a : List Rn) (s : Nat), (drs c s a).length = a.length
 | [], _ => rfl
 | x :: a, s => by
  show (drs c x.n a).length + 1 = a.length + 1
  rw [wb c a]
def Ba : List Nat -> Nat
 | [] => 1
 | x :: l => x * Ba l
theorem Lf : ∀ (l : List Nat) (x : Nat), Ba (l ++ [x]) = Ba l * x
 | [], x => by simp [Ba]
 | y :: l, x => by
  show y * Ba (l ++ [x]) = y * Ba l * x
  rw [Lf l x, Nat.mul_assoc]
theorem Md {c s : Nat} (hc : s <= c) : ∀ {r : Rn}, Fit c s r -> 0 < dr c s r
 | .lot n, h => ko h.2.2
 | .vote n q .bench, h => ko (h.2.2.2.2.2.1 rfl)
 | .vote n q .council, h => ko h.2.2.1
 | .vote n q .stay, h => by show 0 < 1; decide
theorem dr_lt {c s : Nat} (h1 : c < 512) (h2 : s < 512) : ∀ (r : Rn), dr c s r < 2 ^ 512
 | .lot n => Nat.lt_of_le_of_lt (Xa s n) (Nat.pow_lt_pow_right (by decide) h2)
 | .vote n q .bench => Nat.lt_of_le_of_lt (Xa s n) (Nat.pow_lt_pow_right (by decide) h2)
 | .vote n q .council => Nat.lt_of_le_of_lt (Xa c n) (Nat.pow_lt_pow_right (by decide) h1)
 | .vote n q .stay => Nat.one_lt_two_pow (by decide)
theorem Vb {b : Nat} : ∀ (l : List Nat), (∀ x ∈ l, x < 2 ^ b) -> Ba l < 2 ^ (b * l.length + 1)
 | [], _ => by show 1 < 2 ^ 1; decide
 | x :: l, h => by
  have h1 := Vb l fun y hy => h y (List.mem_cons_of_mem _ hy)
  have h2 := h x List.mem_cons_self
  show x * Ba l < _
  rw [List.length_cons, Nat.mul_add, Nat.mul_one, show b * l.length + b + 1 = b + (b * l.length + 1) by omega, Nat.pow_add]
  exact Nat.mul_lt_mul'' h2 h1
theorem Yd : ∀ (l : List Nat), (∀ x ∈ l, 0 < x) -> 0 < Ba l
 | [], _ => by decide
 | x :: l, h => Nat.mul_pos (h x List.mem_cons_self) (Yd l fun y hy => h y (List.mem_cons_of_mem _ hy))
theorem Dm {c : Nat} (P : Nat -> Prop) : ∀ {a : List Rn} {s : Nat}, FitR c s a -> s <= c -> (∀ s r, s <= c -> Fit c s r -> P (dr c s r)) -> ∀ x ∈ drs c s a, P x
 | [], _, _, _, _, x, hx => by cases hx
 | r :: a, s, h, hs, f, x, hx => by
  rcases List.mem_cons.mp hx with rfl | hx
  . exact f s r hs h.1
  . exact Dm P (a := a) h.2 (h.1.le hs) f x hx
theorem Rf {c s : Nat} {a : List Rn} (h : FitR c s a) (hs : s <= c) : ∀ x ∈ drs c s a, 0 < x := Dm (fun x => 0 < x) h hs fun _ _ h1 h2 => Md h1 h2
theorem qd {c s : Nat} {a : List Rn} (h : FitR c s a) (hs : s <= c) (hc : c < 512) : ∀ x ∈ drs c s a, x < 2 ^ 512 := Dm (fun x => x < 2 ^ 512) h hs fun s r h1 _ => dr_lt hc (by omega) r
def allD (c : Nat) (rs : List Rn) : Nat := Ba (drs c c rs)
theorem Gx {c : Nat} {rs : List Rn} (h : FitR c c rs) (hc : c < 512) : allD c rs < 2 ^ (512 * rs.length + 1) := by
 have := Vb (b := 512) (drs c c rs) (qd h (Nat.le_refl _) hc)
 rw [wb] at this
 exact this
end BR
namespace L2
open PySem
theorem Fr1.free {d p : Addr} {H H' : Hp} (a : Fr1 d H H') (e : H' p = none) (h : p ≠ d) : H p = none := by
 cases q : H p with
 | none => rfl
 | some o => rw [a p o q h] at e; cases e
theorem Fr1.same {d : Addr} {H H1 H2 : Hp} (a : Fr1 d H H1) (b : Same H1 H2) : Fr1 d H H2 := fun c o h n => b c o (a c o h n)
theorem Same.tr {H H1 H2 : Hp} (a : Same H H1) (b : Same H1 H2) : Same H H2 := fun c o h => b c o (a c o h)
end L2
namespace BL
open PySem PySem.Spec PyProof.Rows L2 BR
structure TsAt {α : Type} (ob : α -> HO) (H : Hp) (f : Addr) (ps : List Addr) (qs : List α) : Prop where
 ls : H f = some (.lst (ps.map V.ref))
 it : ∀ i : Nat, ∀ p, ps[i]? = some p -> ∃ q, qs[i]? = some q /\ H p = some (ob q)
 ln : ps.length = qs.length
section
variable {α : Type} {ob : α -> HO} {H H' : Hp} {f g p : Addr} {ps : List Addr} {qs : List α}
theorem TsAt.get (F : TsAt ob H f ps qs) {i : Nat} {v : V} (h : (ps.map V.ref)[i]? = some v) : ∃ p q, v = .ref p /\ ps[i]? = some p /\ qs[i]? = some q /\ H p = some (ob q) := by
 rw [List.getElem?_map] at h
 cases e : ps[i]? with
 | none => rw [e] at h; cases h
 | some p =>
  rw [e] at h
  obtain ⟨q, hq, hp⟩ := F.it i p e
  exact ⟨p, q, (Option.some.inj h).symm, rfl, hq, hp⟩
theorem TsAt.ix (F : TsAt ob H f ps qs) {i : Nat} (h : i < qs.length) : ∃ p q, atI (ps.map V.ref) (i : Int) = some (.ref p) /\ qs[i]? = some q /\ H p = some (ob q) := by
 have hi : i < ps.length := by rw [F.ln]; exact h
 obtain ⟨p, q, e, _, h2, h3⟩ := F.get (i := i) (v := .ref ps[i]) (by rw [List.getElem?_map]; simp [hi])
 exact ⟨p, q, by rw [Pb (v := .ref ps[i]) (by rw [List.getElem?_map]; simp [hi]), e], h2, h3⟩
theorem TsAt.same (F : TsAt ob H f ps qs) (s : Same H H') : TsAt ob H' f ps qs := ⟨s _ _ F.ls, fun i p h => by obtain ⟨q, a, b⟩ := F.it i p h; exact ⟨q, a, s _ _ b⟩, F.ln⟩
theorem TsAt.fr1 (F : TsAt ob H f ps qs) {d l : Addr} (hob : ∀ q, ∃ xs, ob q = .tup xs) (D : DrL H d l) (hf : f ≠ d) (s : Fr1 d H H') : TsAt ob H' f ps qs :=
 ⟨s.get F.ls hf, fun i p h => by
  obtain ⟨q, a, b⟩ := F.it i p h
  obtain ⟨⟨xs, hd⟩, _⟩ := D.some
  obtain ⟨ys, e⟩ := hob q
  exact ⟨q, a, s.get b (by rw [e] at b; exact Fj b hd Ji)⟩, F.ln⟩
theorem TsAt.push (F : TsAt ob H f ps qs) {q : α} (hob : ∀ q, ∃ xs, ob q = .tup xs) (hp : H p = some (ob q)) : TsAt ob (upd H f (.lst (ps.map V.ref ++ [.ref p]))) f (ps ++ [p]) (qs ++ [q]) := by
 have nf : ∀ (r : Addr) (x : α), H r = some (ob x) -> r ≠ f := fun r x e => by
  obtain ⟨ys, z⟩ := hob x
  rw [z] at e
  exact Fj e F.ls Ji
 refine ⟨by rw [ja]; simp, fun i p' h => ?_, by rw [List.length_append, List.length_append, F.ln]; rfl⟩
 by_cases hi : i < ps.length
 . rw [List.getElem?_append_left hi] at h
   obtain ⟨q', a, b⟩ := F.it i p' h
   exact ⟨q', by rw [List.getElem?_append_left (by rw [<- F.ln]; exact hi)]; exact a, by rw [La (nf _ _ b)]; exact b⟩
 . rw [List.getElem?_append_right (by omega)] at h
   have e : i - ps.length = 0 := by
    cases z : i - ps.length with
    | zero => rfl
    | succ k => rw [z] at h; simp at h
   rw [e] at h
   simp at h
   subst h
   exact ⟨q, by rw [List.getElem?_append_right (by rw [<- F.ln]; omega), <- F.ln, e]; rfl, by rw [La (nf _ _ hp)]; exact hp⟩
theorem TsAt.cat {ps' : List Addr} {qs' : List α} (F : TsAt ob H f ps qs) (G : TsAt ob H g ps' qs') (h : H p = none) : TsAt ob (upd H p (.lst (ps.map V.ref ++ ps'.map V.ref))) p (ps ++ ps') (qs ++ qs') := by
 refine ⟨by rw [ja, List.map_append], fun i p' h' => ?_, by rw [List.length_append, List.length_append, F.ln, G.ln]⟩
 by_cases hi : i < ps.length
 . rw [List.getElem?_append_left hi] at h'
   obtain ⟨q, a, b⟩ := F.it i p' h'
   exact ⟨q, by rw [List.getElem?_append_left (by rw [<- F.ln]; exact hi)]; exact a, by rw [La (oa b h)]; exact b⟩
 . rw [List.getElem?_append_right (by omega)] at h'
   obtain ⟨q, a, b⟩ := G.it _ p' h'
   exact ⟨q, by rw [List.getElem?_append_right (by rw [<- F.ln]; omega), <- F.ln]; exact a, by rw [La (oa b h)]; exact b⟩
end
def wdS : Wd -> Str
 | .council => "council"
 | .bench => "bench"
 | .stay => "stay"
def rnO : Rn -> HO
 | .lot n => .tup [.str "lot", .int n]
 | .vote n q w => .tup [.str "vote", .int n, .int q, .str (wdS w)]
theorem Yl : ∀ q : Rn, ∃ xs, rnO q = .tup xs
 | .lot _ => ⟨_, rfl⟩
 | .vote _ _ _ => ⟨_, rfl⟩
theorem rn_n : ∀ r : Rn, ∃ xs, rnO r = .tup xs /\ atI xs 1 = some (.int (r.n : Nat))
 | .lot _ => ⟨_, rfl, rfl⟩
 | .vote _ _ _ => ⟨_, rfl, rfl⟩
theorem Ik {K : PySem.W.Frag} {H : Hp} {x : V} (h : Ob x = true) : IsD K H (.v x) x := by unfold IsD; exact ⟨h, rfl⟩
theorem bc {K : PySem.W.Frag} {H : Hp} {d : D} {ds : List D} {x : V} {xs : List V} (h : IsD K H d x) (h2 : IsDs K H ds xs) : IsDs K H (d :: ds) (x :: xs) := by unfold IsDs; exact ⟨_, _, rfl, h, h2⟩
theorem Ag {K : PySem.W.Frag} {H : Hp} : IsDs K H [] [] := by unfold IsDs; rfl
abbrev RwAt (H : Hp) (a : Addr) (ps : List Addr) (rs : List Rn) : Prop := TsAt rnO H a ps rs
def ji : Sp := fun vs H Q _ => ∃ (c s n q : Nat) (w : Wd), vs = [.int c, .int s, .int n, .int q, .str (wdS w)] /\ Fit c s (.vote n q w) /\ Q (.bl true) H
def jv : Sp := fun vs H Q _ => ∃ (c s : Nat) (p : Addr) (r : Rn), vs = [.int c, .int s, .ref p] /\ H p = some (rnO r) /\ Fit c s r /\ Q (.bl true) H
theorem Mt {c s : Nat} {p : Addr} {r : Rn} {H : Hp} {Q : VK} {E : XK} (h1 : H p = some (rnO r)) (h2 : Fit c s r) (q : Q (.bl true) H) : jv [.int c, .int s, .ref p] H Q E := ⟨c, s, p, r, rfl, h1, h2, q⟩
theorem nk {c s n q : Nat} {w : Wd} {H : Hp} {Q : VK} {E : XK} (h2 : Fit c s (.vote n q w)) (k : Q (.bl true) H) : ji [.int c, .int s, .int n, .int q, .str (wdS w)] H Q E := ⟨c, s, n, q, w, rfl, h2, k⟩
structure CR (H : Hp) (a : Addr) (ps : List Addr) (c : Nat) (rs : List Rn) : Prop where
 rw : RwAt H a ps rs
 c1 : 1 <= c
 c2 : c <= 500
 ft : FitR c c rs
 ln : rs.length <= 100
theorem CR.same {H H' : Hp} {a : Addr} {ps : List Addr} {c : Nat} {rs : List Rn} (R : CR H a ps c rs) (s : Same H H') : CR H' a ps c rs := ⟨R.rw.same s, R.c1, R.c2, R.ft, R.ln⟩
def Tp : Sp := fun vs H Q _ => ∃ (c : Nat) (a : Addr) (ps : List Addr) (rs : List Rn), vs = [.int c, .ref a] /\ CR H a ps c rs /\ ∀ (p : Addr) (H' : Hp), H p = none -> Same H H' -> H' p = some (lstN (szs rs)) -> Q (.ref p) H'
theorem Rp {c : Nat} {a : Addr} {ps : List Addr} {rs : List Rn} {H : Hp} {Q : VK} {E : XK} (R : CR H a ps c rs) (q : ∀ (p : Addr) (H' : Hp), H p = none -> Same H H' -> H' p = some (lstN (szs rs)) -> Q (.ref p) H') : Tp [.int c, .ref a] H Q E := ⟨c, a, ps, rs, rfl, R, q⟩
def Bl : Sp := fun vs H Q _ => ∃ (c : Nat) (a : Addr) (ps : List Addr) (rs : List Rn), vs = [.int c, .ref a] /\ CR H a ps c rs /\ ∀ (p : Addr) (H' : Hp), H p = none -> Same H H' -> H' p = some (lstN (c :: szs rs)) -> Q (.ref p) H'
theorem ff {c : Nat} {a : Addr} {ps : List Addr} {rs : List Rn} {H : Hp} {Q : VK} {E : XK} (R : CR H a ps c rs) (q : ∀ (p : Addr) (H' : Hp), H p = none -> Same H H' -> H' p = some (lstN (c :: szs rs)) -> Q (.ref p) H') : Bl [.int c, .ref a] H Q E := ⟨c, a, ps, rs, rfl, R, q⟩
def Zf : Sp := fun vs H Q _ => ∃ (c s : Nat) (p : Addr) (r : Rn), vs = [.int c, .int s, .ref p] /\ H p = some (rnO r) /\ c < 512 /\ s < 512 /\ Q (.int (dr c s r : Nat)) H
theorem Lc {c s : Nat} {p : Addr} {r : Rn} {H : Hp} {Q : VK} {E : XK} (h1 : H p = some (rnO r)) (h2 : c < 512) (h3 : s < 512) (q : Q (.int (dr c s r : Nat)) H) : Zf [.int c, .int s, .ref p] H Q E := ⟨c, s, p, r, rfl, h1, h2, h3, q⟩
def Af : Sp := fun vs H Q _ => ∃ (c : Nat) (a : Addr) (ps : List Addr) (rs : List Rn), vs = [.int c, .ref a] /\ CR H a ps c rs /\ ∀ (p : Addr) (H' : Hp), H p = none -> Same H H' -> H' p = some (lstN (drs c c rs)) -> Q (.ref p) H'
theorem Jb {c : Nat} {a : Addr} {ps : List Addr} {rs : List Rn} {H : Hp} {Q : VK} {E : XK} (R : CR H a ps c rs) (q : ∀ (p : Addr) (H' : Hp), H p = none -> Same H H' -> H' p = some (lstN (drs c c rs)) -> Q (.ref p) H') : Af [.int c, .ref a] H Q E := ⟨c, a, ps, rs, rfl, R, q⟩
def Al : Sp := fun vs H Q _ => ∃ (c : Nat) (a : Addr) (ps : List Addr) (rs : List Rn), vs = [.int c, .ref a] /\ CR H a ps c rs /\ ∀ (H' : Hp), Same H H' -> Q (.int (allD c rs : Nat)) H'
theorem Lg {c : Nat} {a : Addr} {ps : List Addr} {rs : List Rn} {H : Hp} {Q : VK} {E : XK} (R : CR H a ps c rs) (q : ∀ (H' : Hp), Same H H' -> Q (.int (allD c rs : Nat)) H') : Al [.int c, .ref a] H Q E := ⟨c, a, ps, rs, rfl, R, q⟩
def Xu : Sp := fun vs H Q _ => ∃ (d l : Addr) (c s m : Nat), vs = [.ref d, .int c, .int s, .int m] /\ DrL H d l /\ 1 <= s /\ s <= c /\ c <= 500 /\ 1 <= m /\ m <= 60 /\ ∀ (p : Addr) (H' : Hp) (r : Rn), Fit c s r -> DrL H' d l -> Fr1 d H H' -> H' p = some (rnO r) -> Q (.ref p) H'
theorem Ht {d l : Addr} {c s m : Nat} {H : Hp} {Q : VK} {E : XK} (D : DrL H d l) (h1 : 1 <= s) (h2 : s <= c) (h3 : c <= 500) (h4 : 1 <= m) (h5 : m <= 60) (q : ∀ (p : Addr) (H' : Hp) (r : Rn), Fit c s r -> DrL H' d l -> Fr1 d H H' -> H' p = some (rnO r) -> Q (.ref p) H') : Xu [.ref d, .int c, .int s, .int m] H Q E := ⟨d, l, c, s, m, rfl, D, h1, h2, h3, h4, h5, q⟩
def dv : Sp := fun vs H Q _ => ∃ (d l : Addr) (c s : Nat), vs = [.ref d, .int s] /\ DrL H d l /\ 1 <= s /\ s <= c /\ c <= 500 /\ ∀ (p : Addr) (H' : Hp) (ps : List Addr) (rs : List Rn), FitR c s rs -> Qa s rs = 1 -> rs.length <= 1 -> DrL H' d l -> Fr1 d H H' -> H p = none -> RwAt H' p ps rs -> Q (.ref p) H'
theorem Kt {d l : Addr} {s : Nat} {H : Hp} {Q : VK} {E : XK} (c : Nat) (D : DrL H d l) (h1 : 1 <= s) (h2 : s <= c) (h3 : c <= 500) (q : ∀ (p : Addr) (H' : Hp) (ps : List Addr) (rs : List Rn), FitR c s rs -> Qa s rs = 1 -> rs.length <= 1 -> DrL H' d l -> Fr1 d H H' -> H p = none -> RwAt H' p ps rs -> Q (.ref p) H') : dv [.ref d, .int s] H Q E := ⟨d, l, c, s, rfl, D, h1, h2, h3, q⟩
def ei : Sp := fun vs H Q _ => ∃ (d l : Addr) (c k m : Nat), vs = [.ref d, .int c, .int k, .int m] /\ DrL H d l /\ 1 <= c /\ c <= 500 /\ k <= 50 /\ 1 <= m /\ m <= 60 /\ ∀ (a : Addr) (H' : Hp) (ps : List Addr) (rs : List Rn), CR H' a ps c rs -> rs.length <= k + 1 -> Qa c rs = 1 -> DrL H' d l -> Fr1 d H H' -> H a = none -> Q (.ref a) H'
theorem fk {d l : Addr} {c k m : Nat} {H : Hp} {Q : VK} {E : XK} (D : DrL H d l) (h1 : 1 <= c) (h3 : c <= 500) (h4 : k <= 50) (h5 : 1 <= m) (h6 : m <= 60) (q : ∀ (a : Addr) (H' : Hp) (ps : List Addr) (rs : List Rn), CR H' a ps c rs -> rs.length <= k + 1 -> Qa c rs = 1 -> DrL H' d l -> Fr1 d H H' -> H a = none -> Q (.ref a) H') : ei [.ref d, .int c, .int k, .int m] H Q E := ⟨d, l, c, k, m, rfl, D, h1, h3, h4, h5, h6, q⟩
end BL
namespace BR
open MB
def mr (n : Nat) (f : Nat -> Nat) : List Nat := (List.range (n + 1)).map f
theorem yb (n : Nat) (f : Nat -> Nat) : (mr n f).length = n + 1 := by unfold mr; simp
theorem Gb {n i : Nat} (f : Nat -> Nat) (h : i <= n) : (mr n f)[i]? = some (f i) := by
 unfold mr
 rw [List.getElem?_map, List.getElem?_range (by omega)]; rfl
theorem ae (n : Nat) (f : Nat -> Nat) : mr (n + 1) f = mr n f ++ [f (n + 1)] := by
 unfold mr
 rw [List.range_succ, List.map_append]; rfl
theorem As (n : Nat) (f : Nat -> Nat) : mr (n + 1) f = f 0 :: mr n (fun k => f (k + 1)) := by
 unfold mr
 rw [List.range_succ_eq_map, List.map_cons, List.map_map]; rfl
theorem zg {n : Nat} {f g : Nat -> Nat} (h : ∀ k, k <= n -> f k = g k) : mr n f = mr n g := by
 unfold mr
 refine List.map_congr_left fun k hk => h k ?_
 have := List.mem_range.mp hk
 omega
theorem nh {n i : Nat} (f : Nat -> Nat) (h : n < i) : (mr n f)[i]? = none := List.getElem?_eq_none (by rw [yb]; omega)
theorem mr_rev (n : Nat) (f : Nat -> Nat) : (mr n f).reverse = mr n fun j => f (n - j) := by
 apply List.ext_getElem?
 intro i
 by_cases h : i <= n
 . rw [List.getElem?_reverse (by rw [yb]; omega), yb, Gb _ (by omega), Gb _ h]
   congr 2
 . rw [nh _ (by omega), List.getElem?_eq_none (by rw [List.length_reverse, yb]; omega)]
theorem sum_add (f g : Nat -> Nat) : ∀ n : Nat, (mr n fun k => f k + g k).sum = (mr n f).sum + (mr n g).sum
 | 0 => by simp [mr]
 | n + 1 => by
  rw [ae, ae, ae, List.sum_append, List.sum_append, List.sum_append, sum_add f g n]
  simp only [List.sum_cons, List.sum_nil]
  omega
theorem Ki {f : Nat -> Nat} : ∀ {n : Nat}, (∀ k, k <= n -> f k = 0) -> (mr n f).sum = 0
 | 0, h => by simp [mr, h 0 (Nat.le_refl _)]
 | n + 1, h => by
  rw [ae, List.sum_append, Ki fun k hk => h k (by omega)]
  simp [h (n + 1) (Nat.le_refl _)]
def one (n k v : Nat) : List Nat := mr n fun j => if j = k then v else 0
theorem zf {k v : Nat} : ∀ {n : Nat}, k <= n -> (one n k v).sum = v
 | 0, h => by
  have : k = 0 := by omega
  subst this
  simp [one, mr]
 | n + 1, h => by
  unfold one
  rw [ae, List.sum_append]
  by_cases e : k = n + 1
  . rw [Ki fun j hj => by rw [if_neg (by omega)]]
    simp [e]
  . have := zf (k := k) (v := v) (n := n) (by omega)
    unfold one at this
    rw [this]
    simp only [List.sum_cons, List.sum_nil]
    rw [if_neg (by omega)]; omega
theorem Jr {n k v : Nat} (h : k <= n) : (List.replicate (n + 1) 0).set k v = one n k v := by
 apply List.ext_getElem?
 intro i
 by_cases hi : i <= n
 . unfold one
   rw [Gb _ hi, List.getElem?_set, List.length_replicate, List.getElem?_replicate]
   by_cases e : k = i
   . rw [if_pos e, if_pos (by omega), if_pos e.symm]
   . rw [if_neg e, if_pos (by omega), if_neg (fun z => e z.symm)]
 . unfold one
   rw [nh _ (by omega), List.getElem?_eq_none (by rw [List.length_set, List.length_replicate]; omega)]
def lotN (b on n : Nat) : List Nat := mr n fun k => ch on k * ch (b - on) (n - k)
theorem Ap : ∀ (a m n : Nat), (mr n fun k => ch a k * ch m (n - k)).sum = ch (a + m) n
 | 0, m, 0 => by simp [mr, Ua]
 | 0, m, n + 1 => by
  rw [As, List.sum_cons, Ki fun k _ => by rw [Rj, Nat.zero_mul]]
  rw [Ua, Nat.one_mul, Nat.zero_add]; rfl
 | a + 1, m, 0 => by simp [mr, Ua]
 | a + 1, m, n + 1 => by
  have h1 := Ap a m n
  have h2 := Ap a m (n + 1)
  rw [As, List.sum_cons] at h2 ⊢
  rw [show a + 1 + m = (a + m) + 1 by omega, Vc, <- h1, <- h2]
  have e1 : (mr n fun k => ch (a + 1) (k + 1) * ch m (n + 1 - (k + 1))) = mr n fun k => ch a k * ch m (n - k) + ch a (k + 1) * ch m (n + 1 - (k + 1)) := zg fun k hk => by
   rw [Vc, Nat.add_mul, show n + 1 - (k + 1) = n - k by omega]
  rw [e1, sum_add, Ua, Ua]
  omega
theorem Ij {b on n : Nat} (h : on <= b) : (lotN b on n).sum = ch b n := by
 unfold lotN
 rw [Ap, show on + (b - on) = b by omega]
def left (c f b on n q : Nat) : Nat := if q <= on then min f n else if q <= b - on then n - min (c - f) n else on
def bh (c f b on : Nat) : Rn -> List Nat
 | .lot n => lotN b on n
 | .vote n q w => if q <= on then one n (min f n) (dr c b (.vote n q w)) else if q <= b - on then one n (n - min (c - f) n) (dr c b (.vote n q w)) else
  match w with
  | .council => lotN c f n
  | .bench => lotN b on n
  | .stay => one n on 1
theorem Uj (c f b on n q : Nat) (w : Wd) : bh c f b on (.vote n q w) = if q <= on then one n (min f n) (dr c b (.vote n q w)) else if q <= b - on then one n (n - min (c - f) n) (dr c b (.vote n q w)) else
 match w with
 | .council => lotN c f n
 | .bench => lotN b on n
 | .stay => one n on 1 := rfl
theorem uo (c f b on : Nat) : ∀ r : Rn, (bh c f b on r).length = r.n + 1
 | .lot n => yb _ _
 | .vote n q w => by
  rw [Uj]
  split
  . exact yb _ _
  . split
    . exact yb _ _
    . cases w <;> exact yb _ _
theorem xt {c f b on : Nat} (hf : f <= c) (ho : on <= b) : ∀ {r : Rn}, Fit c b r -> (bh c f b on r).sum = dr c b r
 | .lot n, _ => Ij ho
 | .vote n q w, h => by
  rw [Uj]
  split
  . exact zf (by omega)
  . split
    . exact zf (by omega)
    . cases w with
      | council => exact Ij hf
      | bench => exact Ij ho
      | stay => exact zf (by have := h.2.2.2.2.2.2 rfl; omega)
theorem Bx (n i : Nat) : ((ch n i : Int) * ((n : Int) - (i : Int))) / ((i : Int) + 1) = (ch n (i + 1) : Int) := by
 by_cases h : i <= n
 . exact Jv n i h
 . rw [Od (show n < i by omega), Od (show n < i + 1 by omega)]
   simp
theorem bh_le {c f b on : Nat} (hf : f <= c) (ho : on <= b) (hc : c < 512) (hb : b < 512) {r : Rn} (h : Fit c b r) : ∀ x ∈ bh c f b on r, x < 2 ^ 512 := by
 intro x hx
 have h1 : x <= (bh c f b on r).sum := by
  generalize bh c f b on r = l at hx ⊢
  induction l with
  | nil => cases hx
  | cons y l ih =>
   rw [List.sum_cons]
   rcases List.mem_cons.mp hx with rfl | hx
   . omega
   . have := ih hx; omega
 rw [xt hf ho h] at h1
 exact Nat.lt_of_le_of_lt h1 (dr_lt hc hb r)
end BR
namespace BL
open PySem PySem.Spec PyProof.Rows L2 BR
theorem ym {n k : Nat} (h : k < n) : ixN n (k : Int) = some k := by
 unfold ixN
 rw [if_pos (by omega), if_pos (by omega)]; rfl
theorem ip (l : List Nat) (k x : Nat) : ((zs l).map V.int).set k (.int (x : Int)) = (zs (l.set k x)).map V.int := by
 unfold zs
 rw [List.map_set, List.map_set]
theorem qp (n : Nat) : (List.replicate n (0 : Int)).map V.int = (zs (List.replicate n 0)).map V.int := by
 unfold zs
 rw [List.map_replicate, List.map_replicate, List.map_replicate]; rfl
theorem zs_rev (l : List Nat) : ((zs l).map V.int).reverse = (zs l.reverse).map V.int := by
 unfold zs
 rw [List.map_reverse, List.map_reverse]
theorem Pu : ∀ l : List Nat, (zs l).sum = ((l.sum : Nat) : Int)
 | [] => rfl
 | x :: l => by
  show (x : Int) + (zs l).sum = _
  rw [Pu l, List.sum_cons, Int.natCast_add]
theorem Za {l : List Nat} {i : Nat} {v : V} (h : ((zs l).map V.int)[i]? = some v) : ∃ x : Nat, l[i]? = some x /\ v = .int (x : Int) := by
 unfold zs at h
 rw [List.getElem?_map, List.getElem?_map] at h
 cases w : l[i]? with
 | none => rw [w] at h; cases h
 | some x => rw [w] at h; exact ⟨x, rfl, (Option.some.inj h).symm⟩
def NewL (H : Hp) (Q : VK) (l : List Nat) : Prop := ∀ (p : Addr) (H' : Hp), H p = none -> Same H H' -> H' p = some (lstN l) -> Q (.ref p) H'
def Vu : Sp := fun vs H Q _ => ∃ m k : Nat, vs = [.int m, .int k] /\ m < 512 /\ k <= 500 /\ NewL H Q (mr k (MB.ch m))
theorem Vm {m k : Nat} {H : Hp} {Q : VK} {E : XK} (h1 : m < 512) (h2 : k <= 500) (q : NewL H Q (mr k (MB.ch m))) : Vu [.int m, .int k] H Q E := ⟨m, k, rfl, h1, h2, q⟩
def spLot : Sp := fun vs H Q _ => ∃ b on k : Nat, vs = [.int b, .int on, .int k] /\ b < 512 /\ on <= b /\ k <= 500 /\ NewL H Q (lotN b on k)
theorem Mi {b on k : Nat} {H : Hp} {Q : VK} {E : XK} (h1 : b < 512) (h3 : on <= b) (h2 : k <= 500) (q : NewL H Q (lotN b on k)) : spLot [.int b, .int on, .int k] H Q E := ⟨b, on, k, rfl, h1, h3, h2, q⟩
def jf (b on q : Nat) : Str := if q <= on then "friends" else if q <= b - on then "foes" else "hung"
def Yu : Sp := fun vs H Q _ => ∃ b on q : Nat, vs = [.int b, .int on, .int q] /\ on <= b /\ Q (.str (jf b on q)) H
theorem Wm {b on q : Nat} {H : Hp} {Q : VK} {E : XK} (h : on <= b) (k : Q (.str (jf b on q)) H) : Yu [.int b, .int on, .int q] H Q E := ⟨b, on, q, rfl, h, k⟩
def Xm : Sp := fun vs H Q _ => ∃ (c f n : Nat) (w : Bool), vs = [.int c, .int f, .int n, .str (if w then "friends" else "foes")] /\ f <= c /\ Q (.int ((if w then min f n else n - min (c - f) n : Nat) : Int)) H
theorem fi {c f n : Nat} {w : Bool} {H : Hp} {Q : VK} {E : XK} (h : f <= c) (k : Q (.int ((if w then min f n else n - min (c - f) n : Nat) : Int)) H) : Xm [.int c, .int f, .int n, .str (if w then "friends" else "foes")] H Q E := ⟨c, f, n, w, rfl, h, k⟩
def cv : Sp := fun vs H Q _ => ∃ n k v : Nat, vs = [.int n, .int k, .int v] /\ k <= n /\ n <= 500 /\ NewL H Q (one n k v)
theorem Ni {n k v : Nat} {H : Hp} {Q : VK} {E : XK} (h1 : k <= n) (h2 : n <= 500) (q : NewL H Q (one n k v)) : cv [.int n, .int k, .int v] H Q E := ⟨n, k, v, rfl, h1, h2, q⟩
def vn : Sp := fun vs H Q _ => ∃ (c f b on : Nat) (p : Addr) (r : Rn), vs = [.int c, .int f, .int b, .int on, .ref p] /\ H p = some (rnO r) /\ f <= c /\ on <= b /\ c < 512 /\ b < 512 /\ Fit c b r /\ NewL H Q (bh c f b on r)
theorem ki {c f b on : Nat} {p : Addr} {r : Rn} {H : Hp} {Q : VK} {E : XK} (hp : H p = some (rnO r)) (h1 : f <= c) (h2 : on <= b) (h3 : c < 512) (h4 : b < 512) (h5 : Fit c b r) (q : NewL H Q (bh c f b on r)) : vn [.int c, .int f, .int b, .int on, .ref p] H Q E := ⟨c, f, b, on, p, r, rfl, hp, h1, h2, h3, h4, h5, q⟩
end BL
namespace BR
open MB
def sm : Nat -> (Nat -> Nat) -> Nat
 | 0, _ => 0
 | k + 1, g => sm k g + g k
theorem Oa {f g : Nat -> Nat} : ∀ {k : Nat}, (∀ i, i < k -> f i = g i) -> sm k f = sm k g
 | 0, _ => rfl
 | k + 1, h => by
  show sm k f + f k = sm k g + g k
  rw [Oa fun i hi => h i (by omega), h k (by omega)]
theorem Zr (f : Nat -> Nat) : ∀ n : Nat, (mr n f).sum = sm (n + 1) f
 | 0 => by simp [mr, sm]
 | n + 1 => by
  rw [ae, List.sum_append, Zr f n]
  simp [sm]
theorem Fq (f g : Nat -> Nat) : ∀ k : Nat, (sm k fun i => f i + g i) = sm k f + sm k g
 | 0 => rfl
 | k + 1 => by
  show (sm k fun i => f i + g i) + (f k + g k) = (sm k f + f k) + (sm k g + g k)
  rw [Fq f g k]; omega
theorem Qg (a : Nat) (f : Nat -> Nat) : ∀ k : Nat, (sm k fun i => a * f i) = a * sm k f
 | 0 => by simp [sm]
 | k + 1 => by
  show (sm k fun i => a * f i) + a * f k = a * (sm k f + f k)
  rw [Qg a f k, Nat.mul_add]
theorem Pg : ∀ k : Nat, (sm k fun _ => 0) = 0
 | 0 => rfl
 | k + 1 => by show (sm k fun _ => 0) + 0 = 0; rw [Pg k]
theorem Dl (g : Nat -> Nat -> Nat) (m : Nat) : ∀ k : Nat, (sm k fun i => sm m fun j => g i j) = sm m fun j => sm k fun i => g i j
 | 0 => by
  show 0 = sm m fun j => 0
  rw [Pg]
 | k + 1 => by
  show (sm k fun i => sm m fun j => g i j) + (sm m fun j => g k j) = sm m fun j => (sm k fun i => g i j) + g k j
  rw [Dl g m k, Fq]
theorem uf : ∀ (l : List Nat), l.sum = sm l.length fun i => l.getD i 0 := by
 intro l
 have key : ∀ k, k <= l.length -> (l.take k).sum = sm k fun i => l.getD i 0 := by
  intro k
  induction k with
  | zero => intro _; simp [sm]
  | succ k ih =>
   intro h
   have hk : l[k]? = some l[k] := by simp
   rw [Ja hk, List.sum_append, ih (by omega)]
   show _ = _ + l.getD k 0
   rw [List.getD_eq_getElem?_getD, hk]; simp
 have := key l.length (Nat.le_refl _)
 rw [List.take_length] at this
 exact this
theorem mr_set {n j v : Nat} {g : Nat -> Nat} (h : j <= n) : (mr n g).set j v = mr n fun t => if t = j then v else g t := by
 apply List.ext_getElem?
 intro i
 by_cases hi : i <= n
 . rw [Gb _ hi, List.getElem?_set, yb, Gb _ hi]
   by_cases e : j = i
   . rw [if_pos e, if_pos (by omega), if_pos e.symm]
   . rw [if_neg e, if_neg (fun z => e z.symm)]
 . rw [nh _ (by omega), List.getElem?_eq_none (by rw [List.length_set, yb]; omega)]
theorem getD_some {l : List Nat} {i x : Nat} (h : l[i]? = some x) : l.getD i 0 = x := by rw [List.getD_eq_getElem?_getD, h]; rfl
theorem vi : ∀ {l : List Nat} {x : Nat}, x ∈ l -> x <= l.sum
 | y :: l, x, h => by
  rw [List.sum_cons]
  rcases List.mem_cons.mp h with rfl | h
  . omega
  . have := vi h; omega
def rT (c f b : Nat) (h : List Nat) (r : Rn) (i t : Nat) : Nat := sm i fun on => h.getD on 0 * (bh c f b on r).getD t 0
def ron (c f b : Nat) (h : List Nat) (r : Rn) : List Nat := mr r.n fun t => rT c f b h r (b + 1) t
theorem Xl (c f b : Nat) (h : List Nat) (r : Rn) : (ron c f b h r).length = r.n + 1 := yb _ _
theorem gw {c f b : Nat} {h : List Nat} {r : Rn} (hf : f <= c) (hl : h.length = b + 1) (ft : Fit c b r) : (ron c f b h r).sum = h.sum * dr c b r := by
 unfold ron
 rw [Zr]
 unfold rT
 rw [<- Dl (fun on t => h.getD on 0 * (bh c f b on r).getD t 0) (r.n + 1) (b + 1)]
 have e : ∀ on, on < b + 1 -> (sm (r.n + 1) fun t => h.getD on 0 * (bh c f b on r).getD t 0) = dr c b r * h.getD on 0 := fun on ho => by
  rw [Qg, <- uo c f b on r, <- uf, xt hf (by omega) ft, Nat.mul_comm]
 rw [Oa e, Qg, <- hl, <- uf, Nat.mul_comm]
def rds (c f : Nat) : Nat -> List Nat -> List Rn -> List (List Nat)
 | _, _, [] => []
 | b, h, r :: rs => ron c f b h r :: rds c f r.n (ron c f b h r) rs
def rdl (c f : Nat) : Nat -> List Nat -> List Rn -> List Nat
 | _, h, [] => h
 | b, h, r :: rs => rdl c f r.n (ron c f b h r) rs
theorem jj (c f : Nat) : ∀ (a : List Rn) (b : Nat) (h : List Nat) (r : Rn), rds c f b h (a ++ [r]) = rds c f b h a ++ [ron c f (Qa b a) (rdl c f b h a) r]
 | [], _, _, _ => rfl
 | x :: a, b, h, r => by
  show ron c f b h x :: rds c f x.n (ron c f b h x) (a ++ [r]) = (ron c f b h x :: rds c f x.n (ron c f b h x) a) ++ _
  rw [jj c f a x.n _ r]; rfl
theorem kj (c f : Nat) : ∀ (a : List Rn) (b : Nat) (h : List Nat) (r : Rn), rdl c f b h (a ++ [r]) = ron c f (Qa b a) (rdl c f b h a) r
 | [], _, _, _ => rfl
 | x :: a, b, h, r => by
  show rdl c f x.n (ron c f b h x) (a ++ [r]) = _
  rw [kj c f a x.n _ r]; rfl
theorem Zl (c f : Nat) : ∀ (a : List Rn) (b : Nat) (h : List Nat), (rds c f b h a).length = a.length
 | [], _, _ => rfl
 | x :: a, b, h => by
  show (rds c f x.n _ a).length + 1 = a.length + 1
  rw [Zl c f a]
theorem Yq (c f : Nat) : ∀ (a : List Rn) {b : Nat} {h : List Nat}, h.length = b + 1 -> (rdl c f b h a).length = Qa b a + 1
 | [], b, h, e => e
 | x :: a, b, h, e => Yq c f a (Xl _ _ _ _ _)
theorem Xq {c f : Nat} (hf : f <= c) : ∀ (a : List Rn) {b : Nat} {h : List Nat}, h.length = b + 1 -> FitR c b a -> (rdl c f b h a).sum = h.sum * Ba (drs c b a)
 | [], b, h, e, _ => by show h.sum = h.sum * 1; omega
 | x :: a, b, h, e, ft => by
  show (rdl c f x.n (ron c f b h x) a).sum = h.sum * (dr c b x * Ba (drs c x.n a))
  rw [Xq hf a (Xl _ _ _ _ _) ft.2, gw hf e ft.1, Nat.mul_assoc]
def road (c f : Nat) (rs : List Rn) : List (List Nat) := rds c f c (one c f 1) rs
theorem fh (n k v : Nat) : (one n k v).length = n + 1 := yb _ _
def frM (c f : Nat) (rs : List Rn) : Nat := (rdl c f c (one c f 1) rs).getD 1 0
end BR
namespace L2
open PySem
end L2
namespace BR
end BR
namespace BL
open PySem PySem.Spec PyProof.Rows L2 BR
theorem Og {α : Type} : ∀ {l : List α}, l ≠ [] -> ∃ l' y, l = l' ++ [y]
 | [], h => absurd rfl h
 | [x], _ => ⟨[], x, rfl⟩
 | x :: y :: l, _ => by
  obtain ⟨l', z, e⟩ := Og (l := y :: l) (fun h => by cases h)
  exact ⟨x :: l', z, by rw [e]; rfl⟩
theorem yt {l : List Nat} {k x : Nat} (h : l[k]? = some x) (hl : l.length = k + 1) : atI ((zs l).map V.int) (-1) = some (.int (x : Int)) := by
 have : l ≠ [] := by rintro rfl; simp at hl
 obtain ⟨l', y, rfl⟩ : ∃ l' y, l = l' ++ [y] := Og this
 have e : l'.length = k := by rw [List.length_append] at hl; simpa using hl
 subst e
 rw [List.getElem?_append_right (Nat.le_refl _), Nat.sub_self] at h
 have : y = x := by simpa using h
 subst this
 rw [<- lst_snoc]
 exact Fd _ _
def Np : Sp := fun vs H Q _ => ∃ (c : Nat) (a : Addr) (ps : List Addr) (rs : List Rn), vs = [.int c, .ref a] /\ CR H a ps c rs /\ ∀ H', Same H H' -> Q (.bl (decide (Qa c rs = 1))) H'
theorem Mp {c : Nat} {a : Addr} {ps : List Addr} {rs : List Rn} {H : Hp} {Q : VK} {E : XK} (R : CR H a ps c rs) (q : ∀ H', Same H H' -> Q (.bl (decide (Qa c rs = 1))) H') : Np [.int c, .ref a] H Q E := ⟨c, a, ps, rs, rfl, R, q⟩
def iq : Sp := fun vs H Q _ => ∃ (c : Nat) (a : Addr) (ps : List Addr) (rs : List Rn), vs = [.int c, .ref a] /\ CR H a ps c rs /\ Qa c rs = 1 /\ ∀ H', Same H H' -> Q .non H'
theorem gq {c : Nat} {a : Addr} {ps : List Addr} {rs : List Rn} {H : Hp} {Q : VK} {E : XK} (R : CR H a ps c rs) (h : Qa c rs = 1) (q : ∀ H', Same H H' -> Q .non H') : iq [.int c, .ref a] H Q E := ⟨c, a, ps, rs, rfl, R, h, q⟩
def jq : Sp := fun vs H Q _ => ∃ (c f : Nat) (a : Addr) (ps : List Addr) (rs : List Rn), vs = [.int c, .int f, .ref a] /\ CR H a ps c rs /\ Qa c rs = 1 /\ f <= c /\ ∀ H', Same H H' -> Q .non H'
theorem ik {c f : Nat} {a : Addr} {ps : List Addr} {rs : List Rn} {H : Hp} {Q : VK} {E : XK} (R : CR H a ps c rs) (h : Qa c rs = 1) (hf : f <= c) (q : ∀ H', Same H H' -> Q .non H') : jq [.int c, .int f, .ref a] H Q E := ⟨c, f, a, ps, rs, rfl, R, h, hf, q⟩
def gk : Sp := fun vs H Q _ => ∃ (c f b : Nat) (ha p : Addr) (h : List Nat) (r : Rn), vs = [.int c, .int f, .ref ha, .ref p] /\ H ha = some (lstN h) /\ H p = some (rnO r) /\ h.length = b + 1 /\ f <= c /\ c < 512 /\ b < 512 /\ Fit c b r /\ h.sum < 2 ^ 60000 /\ NewL H Q (ron c f b h r)
theorem xl {c f b : Nat} {ha p : Addr} {h : List Nat} {r : Rn} {H : Hp} {Q : VK} {E : XK} (h1 : H ha = some (lstN h)) (h2 : H p = some (rnO r)) (h3 : h.length = b + 1) (h4 : f <= c) (h5 : c < 512) (h6 : b < 512) (h7 : Fit c b r) (h8 : h.sum < 2 ^ 60000) (q : NewL H Q (ron c f b h r)) : gk [.int c, .int f, .ref ha, .ref p] H Q E := ⟨c, f, b, ha, p, h, r, rfl, h1, h2, h3, h4, h5, h6, h7, h8, q⟩
def Ou (H : Hp) (Q : VK) (ls : List (List Nat)) : Prop := ∀ (a : Addr) (H' : Hp) (ps : List Addr), H a = none -> Same H H' -> TsAt lstN H' a ps ls -> (∀ p ∈ ps, H p = none /\ p ≠ a) -> Q (.ref a) H'
structure CF (H : Hp) (a : Addr) (ps : List Addr) (c f : Nat) (rs : List Rn) : Prop where
 cr : CR H a ps c rs
 wh : Qa c rs = 1
 fr : f <= c
def Xp : Sp := fun vs H Q _ => ∃ (c f : Nat) (a : Addr) (ps : List Addr) (rs : List Rn), vs = [.int c, .int f, .ref a] /\ CF H a ps c f rs /\ Ou H Q (road c f rs)
theorem Vp {c f : Nat} {a : Addr} {ps : List Addr} {rs : List Rn} {H : Hp} {Q : VK} {E : XK} (R : CF H a ps c f rs) (q : Ou H Q (road c f rs)) : Xp [.int c, .int f, .ref a] H Q E := ⟨c, f, a, ps, rs, rfl, R, q⟩
def spFrM : Sp := fun vs H Q _ => ∃ (c f : Nat) (a : Addr) (ps : List Addr) (rs : List Rn), vs = [.int c, .int f, .ref a] /\ CF H a ps c f rs /\ ∀ H', Same H H' -> Q (.int (frM c f rs : Nat)) H'
theorem Vv {c f : Nat} {a : Addr} {ps : List Addr} {rs : List Rn} {H : Hp} {Q : VK} {E : XK} (R : CF H a ps c f rs) (q : ∀ H', Same H H' -> Q (.int (frM c f rs : Nat)) H') : spFrM [.int c, .int f, .ref a] H Q E := ⟨c, f, a, ps, rs, rfl, R, q⟩
theorem Xt {c f : Nat} {rs : List Rn} (hf : f <= c) (ft : FitR c c rs) : (rdl c f c (one c f 1) rs).sum = allD c rs := by
 rw [Xq hf rs (fh _ _ _) ft, zf hf, Nat.one_mul]; rfl
theorem iw {c f : Nat} {rs : List Rn} (hf : f <= c) (ft : FitR c c rs) (hc : c < 512) (hl : rs.length <= 100) : (rdl c f c (one c f 1) rs).sum < 2 ^ 60000 := by
 rw [Xt hf ft]
 exact Nat.lt_of_lt_of_le (Gx ft hc) (Nat.pow_le_pow_right (by decide) (by omega))
theorem TsAt.pushL {H : Hp} {f p : Addr} {ps : List Addr} {qs : List (List Nat)} {q : List Nat} (F : TsAt lstN H f ps qs) (h1 : ∀ r ∈ ps, r ≠ f) (h2 : p ≠ f) (hp : H p = some (lstN q)) : TsAt lstN (upd H f (.lst (ps.map V.ref ++ [.ref p]))) f (ps ++ [p]) (qs ++ [q]) := by
 refine ⟨by rw [ja]; simp, fun i p' h => ?_, by rw [List.length_append, List.length_append, F.ln]; rfl⟩
 by_cases hi : i < ps.length
 . rw [List.getElem?_append_left hi] at h
   obtain ⟨q', a, b⟩ := F.it i p' h
   exact ⟨q', by rw [List.getElem?_append_left (by rw [<- F.ln]; exact hi)]; exact a, by rw [La (h1 _ (List.mem_of_getElem? h))]; exact b⟩
 . rw [List.getElem?_append_right (by omega)] at h
   have e : i - ps.length = 0 := by
    cases z : i - ps.length with
    | zero => rfl
    | succ k => rw [z] at h; simp at h
   rw [e] at h
   simp at h
   subst h
   exact ⟨q, by rw [List.getElem?_append_right (by rw [<- F.ln]; omega), <- F.ln, e]; rfl, by rw [La h2]; exact hp⟩
end BL
namespace BR
open MB
theorem Xn {n k v t : Nat} : (one n k v).getD t 0 = if t <= n then (if t = k then v else 0) else 0 := by
 rw [List.getD_eq_getElem?_getD]
 by_cases h : t <= n
 . unfold one
   rw [Gb _ h, if_pos h]; rfl
 . unfold one
   rw [nh _ (by omega), if_neg h]; rfl
end BR
namespace BL
open PySem PySem.Spec PyProof.Rows L2 BR
end BL
namespace BR
open MB
def dot (n : Nat) (l w : List Nat) : Nat := sm (n + 1) fun i => l.getD i 0 * w.getD i 0
def wah (c f b : Nat) (r : Rn) (w : List Nat) : List Nat := mr b fun on => dot r.n (bh c f b on r) w
def wB (c f : Nat) : Nat -> List Rn -> List Nat
 | _, [] => [0, 1]
 | b, r :: rs => wah c f b r (wB c f r.n rs)
def wths (c f : Nat) : List Rn -> List (List Nat)
 | [] => []
 | r :: rs => wB c f r.n rs :: wths c f rs
theorem Yh {c f : Nat} : ∀ {rs : List Rn} {b : Nat}, Qa b rs = 1 -> (wB c f b rs).length = b + 1
 | [], b, h => by
  have : b = 1 := h
  subst this; rfl
 | r :: rs, b, h => yb _ _
theorem cf (c f : Nat) : ∀ rs : List Rn, (wths c f rs).length = rs.length
 | [] => rfl
 | r :: rs => by show (wths c f rs).length + 1 = rs.length + 1; rw [cf c f rs]
theorem ze {c f : Nat} : ∀ {rs : List Rn} {b i : Nat}, i < rs.length -> (wths c f rs)[i]? = some (wB c f (Qa b (rs.take (i + 1))) (rs.drop (i + 1)))
 | [], _, _, h => by simp at h
 | r :: rs, b, 0, _ => rfl
 | r :: rs, b, i + 1, h => by
  show (wths c f rs)[i]? = some (wB c f (Qa r.n (rs.take (i + 1))) (rs.drop (i + 1)))
  exact ze (by simpa using h)
theorem dot_bd {n M : Nat} {l w : List Nat} (hl : l.length = n + 1) (hw : ∀ x ∈ w, x <= M) : dot n l w <= l.sum * M := by
 have e : ∀ k, (sm k fun i => l.getD i 0 * w.getD i 0) <= (sm k fun i => l.getD i 0) * M := by
  intro k
  induction k with
  | zero => simp [sm]
  | succ k ih =>
   show (sm k fun i => l.getD i 0 * w.getD i 0) + l.getD k 0 * w.getD k 0 <= ((sm k fun i => l.getD i 0) + l.getD k 0) * M
   rw [Nat.add_mul]
   have h1 : w.getD k 0 <= M := by
    rw [List.getD_eq_getElem?_getD]
    cases q : w[k]? with
    | none => exact Nat.zero_le _
    | some x => exact hw x (List.mem_of_getElem? q)
   exact Nat.add_le_add ih (Nat.mul_le_mul_left _ h1)
 have := e (n + 1)
 rw [<- hl, <- uf] at this
 unfold dot
 rw [<- hl]
 exact this
theorem mem_mr {n x : Nat} {g : Nat -> Nat} (h : x ∈ mr n g) : ∃ k, k <= n /\ x = g k := by
 unfold mr at h
 obtain ⟨k, hk, e⟩ := List.mem_map.mp h
 exact ⟨k, by have := List.mem_range.mp hk; omega, e.symm⟩
theorem xo {c f : Nat} (hf : f <= c) : ∀ {rs : List Rn} {b : Nat}, FitR c b rs -> ∀ x ∈ wB c f b rs, x <= Ba (drs c b rs)
 | [], _, _, x, h => by
  have : x = 0 \/ x = 1 := by simpa [wB] using h
  show x <= 1
  omega
 | r :: rs, b, ft, x, h => by
  obtain ⟨k, hk, rfl⟩ := mem_mr h
  have := dot_bd (n := r.n) (uo c f b k r) (xo hf ft.2)
  rw [xt hf hk ft.1] at this
  exact this
theorem dual {c f b : Nat} {h w : List Nat} {r : Rn} : dot r.n (ron c f b h r) w = dot b h (wah c f b r w) := by
 unfold dot
 have e1 : (sm (r.n + 1) fun t => (ron c f b h r).getD t 0 * w.getD t 0) = sm (r.n + 1) fun t => sm (b + 1) fun on => h.getD on 0 * ((bh c f b on r).getD t 0 * w.getD t 0) := Oa fun t ht => by
  have : (ron c f b h r).getD t 0 = rT c f b h r (b + 1) t := by
   unfold ron
   rw [List.getD_eq_getElem?_getD, Gb _ (by omega)]; rfl
  rw [this, Nat.mul_comm]
  unfold rT
  rw [<- Qg]
  exact Oa fun on _ => by rw [Nat.mul_comm, Nat.mul_assoc]
 rw [e1, Dl]
 refine Oa fun on ho => ?_
 rw [Qg]
 have : (wah c f b r w).getD on 0 = dot r.n (bh c f b on r) w := by
  unfold wah
  rw [List.getD_eq_getElem?_getD, Gb _ (by omega)]; rfl
 rw [this]
 rfl
theorem meet {c f : Nat} : ∀ (rs : List Rn) {b : Nat} {h : List Nat}, h.length = b + 1 -> Qa b rs = 1 -> (rdl c f b h rs).getD 1 0 = dot b h (wB c f b rs)
 | [], b, h, hl, hw => by
  have : b = 1 := hw
  subst this
  show h.getD 1 0 = sm 2 fun i => h.getD i 0 * [0, 1].getD i 0
  simp [sm]
 | r :: rs, b, h, hl, hw => by
  show (rdl c f r.n (ron c f b h r) rs).getD 1 0 = dot b h (wah c f b r (wB c f r.n rs))
  rw [meet rs (Xl _ _ _ _ _) hw, dual]
end BR
namespace BL
open PySem PySem.Spec PyProof.Rows L2 BR
def spWah : Sp := fun vs H Q _ => ∃ (c f b : Nat) (p la : Addr) (r : Rn) (w : List Nat), vs = [.int c, .int f, .int b, .ref p, .ref la] /\ H p = some (rnO r) /\ H la = some (lstN w) /\ w.length = r.n + 1 /\ f <= c /\ c < 512 /\ b < 512 /\ Fit c b r /\ (∀ x ∈ w, x < 2 ^ 60000) /\ NewL H Q (wah c f b r w)
theorem Sv {c f b : Nat} {p la : Addr} {r : Rn} {w : List Nat} {H : Hp} {Q : VK} {E : XK} (h1 : H p = some (rnO r)) (h2 : H la = some (lstN w)) (h3 : w.length = r.n + 1) (h4 : f <= c) (h5 : c < 512) (h6 : b < 512) (h7 : Fit c b r) (h8 : ∀ x ∈ w, x < 2 ^ 60000) (q : NewL H Q (wah c f b r w)) : spWah [.int c, .int f, .int b, .ref p, .ref la] H Q E := ⟨c, f, b, p, la, r, w, rfl, h1, h2, h3, h4, h5, h6, h7, h8, q⟩
def Uu : Sp := fun vs H Q _ => ∃ (c f : Nat) (a : Addr) (ps : List Addr) (rs : List Rn), vs = [.int c, .int f, .ref a] /\ CF H a ps c f rs /\ Ou H Q (wths c f rs)
theorem Rm {c f : Nat} {a : Addr} {ps : List Addr} {rs : List Rn} {H : Hp} {Q : VK} {E : XK} (R : CF H a ps c f rs) (q : Ou H Q (wths c f rs)) : Uu [.int c, .int f, .ref a] H Q E := ⟨c, f, a, ps, rs, rfl, R, q⟩
theorem TsAt.rev {α : Type} {ob : α -> HO} {H : Hp} {f g : Addr} {ps : List Addr} {qs : List α} (F : TsAt ob H f ps qs) (h : H g = none) : TsAt ob (upd H g (.lst (ps.reverse.map V.ref))) g ps.reverse qs.reverse := by
 refine ⟨ja, fun i p h' => ?_, by rw [List.length_reverse, List.length_reverse, F.ln]⟩
 have hi : i < ps.length := by
  have := (List.getElem?_eq_some_iff.mp h').1
  rw [List.length_reverse] at this; exact this
 rw [List.getElem?_reverse hi] at h'
 obtain ⟨q, a, b⟩ := F.it _ p h'
 exact ⟨q, by rw [List.getElem?_reverse (by rw [<- F.ln]; exact hi), <- F.ln]; exact a, by rw [La (oa b h)]; exact b⟩
theorem vf {α : Type} {l : List α} {k : Nat} {x : α} (h : l[k]? = some x) : (l.drop k).reverse = (l.drop (k + 1)).reverse ++ [x] := by
 have hlt := (List.getElem?_eq_some_iff.mp h).1
 rw [List.drop_eq_getElem_cons hlt, List.reverse_cons]
 congr 2
 exact (List.getElem?_eq_some_iff.mp h).2
end BL
namespace L2
open PySem PySem.Spec PyProof.Rows
def Jn : V -> List V -> Hp -> VK -> Prop := fun x vs H Q => ∃ l xs y, x = .ref l /\ vs = [.int 0, y] /\ H l = some (.lst xs) /\ xs.length < sizeLine /\ Q .non (upd H l (.lst (y :: xs)))
theorem So {X : Cx} : MtM X "list.insert" Jn := by
 intro pins s σ H x vs v us Q I rx rv h
 obtain ⟨l, xs, y, rfl, rfl, hH, hz, q⟩ := h
 cases rx
 cases rv with
 | cons r1 rr =>
  cases rr with
  | cons r2 rr =>
   cases rr
   obtain ⟨t, rfl⟩ := r1
   obtain ⟨z, its, n, r, hl, e⟩ := I.lstM hH
   refine call_meets F.slot_list_insert ⟨_, e, rfl⟩ F.entry_list_insert (F.args_list_insert_3 _ _ _) (AutoSeq1.list_insert_list_int_val_1 l its.toArray n 0 t _ (by decide) (by rw [List.size_toArray]; omega)) ⟨e, ?_⟩
   refine ⟨.non, _, I.lset (its' := _ :: its) hH e (by simp) (.cons r2 r) ?_, rfl, q⟩
   rw [List.length_cons]
   omega
theorem ar {p : Addr} {xs : List V} {y : V} {H : Hp} {Q : VK} (h1 : H p = some (.lst xs)) (h2 : xs.length < sizeLine) (h : Q .non (upd H p (.lst (y :: xs)))) : Jn (.ref p) [.int 0, y] H Q := ⟨p, xs, y, rfl, rfl, h1, h2, h⟩
end L2
namespace BL
open PySem PySem.Spec PyProof.Rows L2 BR
end BL
namespace BR
open MB
theorem Oi {f g : Nat -> Nat} : ∀ {k : Nat}, (∀ i, i < k -> f i <= g i) -> sm k f <= sm k g
 | 0, _ => Nat.le_refl _
 | k + 1, h => Nat.add_le_add (Oi fun i hi => h i (by omega)) (h k (by omega))
theorem dot_le {n C : Nat} {p w : List Nat} (hl : p.length = n + 1) (h : ∀ k, k <= n -> p.getD k 0 ≠ 0 -> w.getD k 0 <= C) : dot n p w <= p.sum * C := by
 rw [uf, hl, Nat.mul_comm, <- Qg]
 refine Oi fun k hk => ?_
 by_cases z : p.getD k 0 = 0
 . rw [z]; simp
 . rw [Nat.mul_comm]
   exact Nat.mul_le_mul_right _ (h k (by omega) z)
theorem dot_ge {n C : Nat} {p w : List Nat} (hl : p.length = n + 1) (h : ∀ k, k <= n -> p.getD k 0 ≠ 0 -> C <= w.getD k 0) : p.sum * C <= dot n p w := by
 rw [uf, hl, Nat.mul_comm, <- Qg]
 refine Oi fun k hk => ?_
 by_cases z : p.getD k 0 = 0
 . rw [z]; simp
 . rw [Nat.mul_comm C]
   exact Nat.mul_le_mul_left _ (h k (by omega) z)
theorem xx {n k v : Nat} {w : List Nat} (h : k <= n) : dot n (one n k v) w = v * w.getD k 0 := by
 have e1 : dot n (one n k v) w <= (one n k v).sum * w.getD k 0 := dot_le (fh _ _ _) fun j hj hz => by
  rw [Xn, if_pos hj] at hz
  by_cases e : j = k
  . rw [e]; exact Nat.le_refl _
  . rw [if_neg e] at hz; exact absurd rfl hz
 have e2 : (one n k v).sum * w.getD k 0 <= dot n (one n k v) w := dot_ge (fh _ _ _) fun j hj hz => by
  rw [Xn, if_pos hj] at hz
  by_cases e : j = k
  . rw [e]; exact Nat.le_refl _
  . rw [if_neg e] at hz; exact absurd rfl hz
 rw [zf h] at e1 e2
 omega
theorem yn (g : Nat -> Nat) : ∀ k : Nat, sm (k + 1) g = g 0 + sm k fun i => g (i + 1)
 | 0 => by show 0 + g 0 = g 0 + 0; omega
 | k + 1 => by
  show sm (k + 1) g + g (k + 1) = g 0 + ((sm k fun i => g (i + 1)) + g (k + 1))
  rw [yn g k]; omega
theorem frM_wB {c f : Nat} {rs : List Rn} (hf : f <= c) (hw : Qa c rs = 1) : frM c f rs = (wB c f c rs).getD f 0 := by
 unfold frM
 rw [meet rs (fh _ _ _) hw, xx hf, Nat.one_mul]
end BR
namespace L2
open PySem
end L2
namespace BL
open PySem PySem.Spec PyProof.Rows L2 BR
end BL
namespace BL
open PySem PySem.Spec PyProof.Rows L2 BR
theorem CR.fr1 {H H' : Hp} {a d l : Addr} {ps : List Addr} {c : Nat} {rs : List Rn} (R : CR H a ps c rs) (D : DrL H d l) (ha : a ≠ d) (s : Fr1 d H H') : CR H' a ps c rs := ⟨R.rw.fr1 (fun q => by cases q <;> exact ⟨_, rfl⟩) D ha s, R.c1, R.c2, R.ft, R.ln⟩
end BL
namespace BL
open PySem PySem.Spec PyProof.Rows L2 BR
def stand (c f : Nat) (rs : List Rn) : Str := if frM c f rs = allD c rs then "sure" else if frM c f rs = 0 then "shut" else "open"
end BL
namespace BR
open MB
def sfx : List Nat -> List Nat
 | [] => []
 | _ :: l => Ba l :: sfx l
theorem Fl : ∀ l : List Nat, (sfx l).length = l.length
 | [] => rfl
 | _ :: l => by show (sfx l).length + 1 = l.length + 1; rw [Fl l]
theorem Hl : ∀ {l : List Nat} {i : Nat}, i < l.length -> (sfx l)[i]? = some (Ba (l.drop (i + 1)))
 | [], _, h => by simp at h
 | _ :: l, 0, _ => rfl
 | _ :: l, i + 1, h => by
  show (sfx l)[i]? = some (Ba (l.drop (i + 1)))
  exact Hl (by simpa using h)
theorem qr {l : List Nat} {i x : Nat} (h : l[i]? = some x) : Ba (l.drop i) = x * Ba (l.drop (i + 1)) := by
 have hi : i < l.length := (List.getElem?_eq_some_iff.mp h).1
 rw [List.drop_eq_getElem_cons hi]
 rw [List.getElem?_eq_getElem hi] at h
 rw [Option.some.inj h]
 rfl
def SetT (l w : List Nat) (m i : Nat) : Prop := ∀ j, j < i -> l.getD j 0 = 0 \/ w.getD j 0 = 0 \/ w.getD j 0 = m
def stRd (c f : Nat) (rs : List Rn) (i : Nat) : List Nat := if i = 0 then [1] else rdl c f c (one c f 1) (rs.take i)
def stWt (c f : Nat) (rs : List Rn) (i : Nat) : List Nat := if i = 0 then [frM c f rs] else wB c f (Qa c (rs.take i)) (rs.drop i)
def stLt (c : Nat) (rs : List Rn) (i : Nat) : Nat := Ba ((drs c c rs).drop i)
def St (c f : Nat) (rs : List Rn) (i : Nat) : Prop := SetT (stRd c f rs i) (stWt c f rs i) (stLt c rs i) (stRd c f rs i).length
end BR
namespace BL
open PySem PySem.Spec PyProof.Rows L2 BR
def spDrB : Sp := fun vs H Q _ => ∃ (c : Nat) (a : Addr) (ps : List Addr) (rs : List Rn), vs = [.int c, .ref a] /\ CR H a ps c rs /\ ∀ (p : Addr) (H' : Hp), H p = none -> Same H H' -> H' p = some (lstN (sfx (drs c c rs))) -> Q (.ref p) H'
theorem Wv {c : Nat} {a : Addr} {ps : List Addr} {rs : List Rn} {H : Hp} {Q : VK} {E : XK} (R : CR H a ps c rs) (q : ∀ (p : Addr) (H' : Hp), H p = none -> Same H H' -> H' p = some (lstN (sfx (drs c c rs))) -> Q (.ref p) H') : spDrB [.int c, .ref a] H Q E := ⟨c, a, ps, rs, rfl, R, q⟩
end BL
namespace BR
open MB
def bt (x i : Nat) : Nat := x / 2 ^ i % 2
def chosen (b x : Nat) : List Nat := (List.range b).filter fun i => decide (bt x i = 1)
def cn (n : Nat) (P : Nat -> Prop) [DecidablePred P] : Nat := sm n fun i => if P i then 1 else 0
theorem gf (g : Nat -> Nat) (a : Nat) : ∀ b : Nat, sm (a + b) g = sm a g + sm b fun i => g (a + i)
 | 0 => rfl
 | b + 1 => by
  show sm (a + b) g + g (a + b) = sm a g + ((sm b fun i => g (a + i)) + g (a + b))
  rw [gf g a b, Nat.add_assoc]
theorem Cg {n : Nat} {P R : Nat -> Prop} [DecidablePred P] [DecidablePred R] (h : ∀ i, i < n -> (P i ↔ R i)) : cn n P = cn n R := by
 unfold cn
 refine Oa fun i hi => ?_
 by_cases z : P i
 . rw [if_pos z, if_pos ((h i hi).1 z)]
 . rw [if_neg z, if_neg (fun y => z ((h i hi).2 y))]
theorem zx {n : Nat} {P : Nat -> Prop} [DecidablePred P] (h : ∀ i, i < n -> ¬ P i) : cn n P = 0 := by
 unfold cn
 rw [Oa (g := fun _ => 0) fun i hi => if_neg (h i hi), Pg]
end BR
namespace BL
open PySem PySem.Spec PyProof.Rows L2 BR
end BL
namespace BR
open MB
def pkL : List Nat -> Nat -> Nat -> List Nat
 | [], _, _ => []
 | _ :: _, 0, _ => []
 | a :: l, n + 1, x => if x < ch l.length n then a :: pkL l n x else pkL l (n + 1) (x - ch l.length n)
theorem Mb (a : Nat) (l : List Nat) (n x : Nat) : pkL (a :: l) (n + 1) x = if x < ch l.length n then a :: pkL l n x else pkL l (n + 1) (x - ch l.length n) := rfl
theorem Ae (l : List Nat) (x : Nat) : pkL l 0 x = [] := by cases l <;> rfl
theorem tj (g : Nat -> Nat) : ∀ (l : List Nat) (n x : Nat), pkL (l.map g) n x = (pkL l n x).map g
 | [], _, _ => rfl
 | _ :: _, 0, _ => rfl
 | a :: l, n + 1, x => by
  show (if x < ch (l.map g).length n then g a :: pkL (l.map g) n x else pkL (l.map g) (n + 1) (x - ch (l.map g).length n)) = (if x < ch l.length n then a :: pkL l n x else pkL l (n + 1) (x - ch l.length n)).map g
  rw [List.length_map, tj g l n x, tj g l (n + 1) (x - ch l.length n)]
  split <;> rfl
theorem fc : ∀ (l : List Nat) (n x : Nat), n <= l.length -> x < ch l.length n -> (pkL l n x).length = n
 | [], n, _, h, _ => by
  have : n = 0 := by simpa using h
  subst this; rfl
 | _ :: _, 0, _, _, _ => rfl
 | a :: l, n + 1, x, h, hx => by
  have hx' : x < ch l.length n + ch l.length (n + 1) := hx
  have h' : n <= l.length := by simpa using h
  unfold pkL
  split
  . next z => rw [List.length_cons, fc l n x h' z]
  . next z =>
    have hn : n + 1 <= l.length := by
     rcases Nat.lt_or_ge n l.length with y | y
     . exact y
     . exfalso
       have : ch l.length (n + 1) = 0 := Od (by omega)
       omega
    exact fc l (n + 1) _ hn (by omega)
theorem Dc : ∀ (l : List Nat) (n x : Nat), (pkL l n x).Sublist l
 | [], _, _ => List.Sublist.refl _
 | _ :: _, 0, _ => List.nil_sublist _
 | a :: l, n + 1, x => by
  unfold pkL
  split
  . exact (Dc l n x).cons₂ a
  . exact (Dc l (n + 1) _).cons a
def fr (F : Nat -> Bool) (l : List Nat) : Nat := l.countP F
def lotC (on off n k : Nat) : Nat := if k <= n then ch on k * ch off (n - k) else 0
theorem cn_cat (a b : Nat) (P : Nat -> Prop) [DecidablePred P] : cn (a + b) P = cn a P + cn b fun y => P (a + y) := gf _ _ _
theorem Fm (F : Nat -> Bool) : ∀ (l : List Nat) (n k : Nat), cn (ch l.length n) (fun x => fr F (pkL l n x) = k) = lotC (fr F l) (l.length - fr F l) n k
 | [], 0, k => by
  show cn 1 _ = lotC 0 0 0 k
  unfold lotC
  cases k with
  | zero => rfl
  | succ k => rfl
 | [], n + 1, k => by
  show cn 0 _ = lotC 0 0 (n + 1) k
  unfold lotC
  split
  . cases k with
    | zero => rfl
    | succ k => show 0 = ch 0 (k + 1) * _; rw [Rj, Nat.zero_mul]
  . rfl
 | a :: l, 0, k => by
  have e : cn (ch (a :: l).length 0) (fun x => fr F (pkL (a :: l) 0 x) = k) = cn 1 (fun x => 0 = k) := by rw [Ua]; rfl
  rw [e]
  unfold lotC
  cases k with
  | zero => rw [if_pos (Nat.le_refl _), Ua, Nat.sub_zero, Ua]; rfl
  | succ k => rfl
 | a :: l, n + 1, k => by
  have i1 := Fm F l n
  have i2 := Fm F l (n + 1) k
  have fl : fr F l <= l.length := List.countP_le_length
  have e1 : cn (ch l.length n) (fun x => fr F (pkL (a :: l) (n + 1) x) = k) = cn (ch l.length n) (fun x => (if F a then 1 else 0) + fr F (pkL l n x) = k) := Cg fun x hx => by
   have : pkL (a :: l) (n + 1) x = a :: pkL l n x := by rw [Mb, if_pos hx]
   rw [this]
   unfold fr
   rw [List.countP_cons, Nat.add_comm]
  have e2 : cn (ch l.length (n + 1)) (fun y => fr F (pkL (a :: l) (n + 1) (ch l.length n + y)) = k) = cn (ch l.length (n + 1)) (fun y => fr F (pkL l (n + 1) y) = k) := Cg fun y hy => by
   have : pkL (a :: l) (n + 1) (ch l.length n + y) = pkL l (n + 1) y := by
    rw [Mb, if_neg (by omega), Nat.add_sub_cancel_left]
   rw [this]
  show cn (ch l.length n + ch l.length (n + 1)) _ = _
  rw [cn_cat, e1, e2, i2]
  by_cases hF : F a = true
  . have f1 : fr F (a :: l) = fr F l + 1 := by unfold fr; rw [List.countP_cons, if_pos hF]
    rw [f1, show (a :: l).length - (fr F l + 1) = l.length - fr F l by simp]
    cases k with
    | zero =>
     rw [zx (fun x hx y => by rw [if_pos hF] at y; omega), Nat.zero_add]
     unfold lotC
     rw [if_pos (Nat.zero_le _), if_pos (Nat.zero_le _), Ua, Ua]
    | succ k =>
     have e3 : cn (ch l.length n) (fun x => (if F a then 1 else 0) + fr F (pkL l n x) = k + 1) = cn (ch l.length n) (fun x => fr F (pkL l n x) = k) := Cg fun x hx => by rw [if_pos hF]; omega
     rw [e3, i1]
     unfold lotC
     by_cases z : k <= n
     . rw [if_pos z, if_pos (by omega), if_pos (by omega), show n + 1 - (k + 1) = n - k by omega, Vc, Nat.add_mul]
     . rw [if_neg z, if_neg (by omega), if_neg (by omega)]
  . have f1 : fr F (a :: l) = fr F l := by unfold fr; rw [List.countP_cons, if_neg hF, Nat.add_zero]
    have e3 : cn (ch l.length n) (fun x => (if F a then 1 else 0) + fr F (pkL l n x) = k) = cn (ch l.length n) (fun x => fr F (pkL l n x) = k) := Cg fun x hx => by rw [if_neg hF, Nat.zero_add]
    rw [f1, e3, i1, show (a :: l).length - fr F l = l.length - fr F l + 1 by rw [List.length_cons]; omega]
    unfold lotC
    by_cases z : k <= n
    . rw [if_pos z, if_pos (by omega), if_pos (by omega), show n + 1 - k = (n - k) + 1 by omega, Vc, Nat.mul_add]
    . rw [if_neg z, Nat.zero_add]
      by_cases z2 : k <= n + 1
      . rw [if_pos z2, if_pos z2, show n + 1 - k = 0 by omega, Ua, Ua]
      . rw [if_neg z2, if_neg z2]
theorem sm_pt (n t v : Nat) (h : t < n) : (sm n fun k => (if t = k then 1 else 0) * v) = v := by
 have : ∀ n, (sm n fun k => (if t = k then 1 else 0) * v) = if t < n then v else 0 := by
  intro n
  induction n with
  | zero => rfl
  | succ n ih =>
   show (sm n fun k => (if t = k then 1 else 0) * v) + (if t = n then 1 else 0) * v = _
   rw [ih]
   by_cases y : t < n
   . rw [if_pos y, if_neg (by omega), if_pos (by omega)]; omega
   . rw [if_neg y]
     by_cases y2 : t = n
     . rw [if_pos y2, if_pos (by omega)]; omega
     . rw [if_neg y2, if_neg (by omega)]; omega
 rw [this, if_pos h]
theorem sm_by (g w : Nat -> Nat) (m : Nat) : ∀ N, (∀ x, x < N -> g x < m) -> (sm N fun x => w (g x)) = sm m fun k => cn N (fun x => g x = k) * w k
 | 0, _ => by
  show 0 = sm m fun k => 0 * w k
  rw [Oa (g := fun _ => 0) fun i hi => Nat.zero_mul _, Pg]
 | N + 1, h => by
  show (sm N fun x => w (g x)) + w (g N) = _
  rw [sm_by g w m N fun x hx => h x (by omega)]
  have e : ∀ k, k < m -> cn (N + 1) (fun x => g x = k) * w k = cn N (fun x => g x = k) * w k + (if g N = k then 1 else 0) * w (g N) := fun k hk => by
   show (cn N (fun x => g x = k) + (if g N = k then 1 else 0)) * w k = _
   rw [Nat.add_mul]
   by_cases y : g N = k
   . rw [y]
   . rw [if_neg y]
     omega
  rw [Oa e, Fq, sm_pt m (g N) (w (g N)) (h N (by omega))]
theorem We (F : Nat -> Bool) (l : List Nat) : fr F l <= l.length := List.countP_le_length
theorem An {F : Nat -> Bool} {l : List Nat} {n : Nat} (hn : n <= l.length) (w : Nat -> Nat) : (sm (ch l.length n) fun x => w (fr F (pkL l n x))) = sm (n + 1) fun k => (lotN l.length (fr F l) n).getD k 0 * w k := by
 rw [sm_by (fun x => fr F (pkL l n x)) w (n + 1) _ fun x hx => by
  have := We F (pkL l n x)
  rw [fc l n x hn hx] at this
  omega]
 refine Oa fun k hk => ?_
 rw [Fm F l n k]
 unfold lotC
 have e : (lotN l.length (fr F l) n).getD k 0 = ch (fr F l) k * ch (l.length - fr F l) (n - k) := getD_some (Gb (n := n) (i := k) _ (by omega))
 rw [if_pos (by omega), e]
def seat (c : Nat) (F : Nat -> Bool) (n : Nat) (t : Bool) : List Nat :=
 (List.range c).filter fun a => decide (a ∈ (((List.range c).filter fun a => F a == t) ++ ((List.range c).filter fun a => !(F a == t))).take n)
theorem kf (c : Nat) (F : Nat -> Bool) (n : Nat) (t : Bool) : (seat c F n t).Perm ((((List.range c).filter fun a => F a == t) ++ ((List.range c).filter fun a => !(F a == t))).take n) := by
 have nd : (((List.range c).filter fun a => F a == t) ++ ((List.range c).filter fun a => !(F a == t))).Nodup := by
  rw [List.nodup_append]
  refine ⟨List.nodup_range.sublist List.filter_sublist, List.nodup_range.sublist List.filter_sublist, fun a ha b hb e => ?_⟩
  subst e
  have h1 := (List.mem_filter.mp ha).2
  have h2 := (List.mem_filter.mp hb).2
  rw [h1] at h2
  cases h2
 refine (List.perm_ext_iff_of_nodup (List.nodup_range.sublist List.filter_sublist) (nd.sublist (List.take_sublist _ _))).2 fun a => ?_
 show a ∈ List.filter _ _ ↔ _
 rw [List.mem_filter]
 constructor
 . intro h; exact of_decide_eq_true h.2
 . intro h
   refine ⟨?_, decide_eq_true h⟩
   have := (List.take_sublist _ _).subset h
   rcases List.mem_append.mp this with y | y
   . exact (List.mem_filter.mp y).1
   . exact (List.mem_filter.mp y).1
theorem Pf (p : Nat -> Bool) : ∀ l : List Nat, (l.filter p).length + (l.filter fun a => !p a).length = l.length
 | [] => rfl
 | a :: l => by
  have := Pf p l
  cases h : p a with
  | true => rw [List.filter_cons_of_pos h, List.filter_cons_of_neg (by simp [h]), List.length_cons, List.length_cons]; omega
  | false => rw [List.filter_cons_of_neg (by simp [h]), List.filter_cons_of_pos (by simp [h]), List.length_cons, List.length_cons]; omega
theorem uh (c : Nat) (F : Nat -> Bool) : ((List.range c).filter fun a => F a == true).length = fr F (List.range c) /\ ((List.range c).filter fun a => F a == false).length = c - fr F (List.range c) := by
 have h1 : ((List.range c).filter fun a => F a == true).length = fr F (List.range c) := by
  unfold fr
  rw [List.countP_eq_length_filter]
  congr 1
  refine List.filter_congr fun a _ => ?_
  cases F a <;> rfl
 refine ⟨h1, ?_⟩
 have h2 := Pf F (List.range c)
 rw [List.length_range] at h2
 have h3 : ((List.range c).filter F).length = fr F (List.range c) := by unfold fr; rw [List.countP_eq_length_filter]
 have h4 : ((List.range c).filter fun a => F a == false) = (List.range c).filter fun a => !F a := List.filter_congr fun a _ => by cases F a <;> rfl
 rw [h4]
 omega
theorem Bn {c n : Nat} (F : Nat -> Bool) (t : Bool) (hn : n <= c) : (seat c F n t).length = n := by
 rw [(kf c F n t).length_eq, List.length_take, List.length_append]
 have h2 := Pf (fun a => F a == t) (List.range c)
 rw [List.length_range] at h2
 omega
theorem Ls {F : Nat -> Bool} {l : List Nat} (h : ∀ a ∈ l, F a = true) : fr F l = l.length := List.countP_eq_length.2 h
theorem Ks {F : Nat -> Bool} {l : List Nat} (h : ∀ a ∈ l, F a = false) : fr F l = 0 := List.countP_eq_zero.2 fun a ha => by rw [h a ha]; decide
theorem Cv (F : Nat -> Bool) (l m : List Nat) : fr F (l ++ m) = fr F l + fr F m := List.countP_append
theorem Gq {c n : Nat} (F : Nat -> Bool) (hn : n <= c) : fr F (seat c F n true) = min (fr F (List.range c)) n := by
 have e : fr F (seat c F n true) = _ := (kf c F n true).countP_eq F
 rw [e]
 show fr F _ = _
 rw [List.take_append, Cv, Ls, Ks]
 . rw [List.length_take, (uh c F).1]; omega
 . intro a ha
   have := (List.mem_filter.mp ((List.take_sublist _ _).subset ha)).2
   cases q : F a with
   | false => rfl
   | true => rw [q] at this; cases this
 . intro a ha
   have := (List.mem_filter.mp ((List.take_sublist _ _).subset ha)).2
   simpa using this
theorem Hq {c n : Nat} (F : Nat -> Bool) (hn : n <= c) : fr F (seat c F n false) = n - min (c - fr F (List.range c)) n := by
 have e : fr F (seat c F n false) = _ := (kf c F n false).countP_eq F
 rw [e]
 show fr F _ = _
 have hl := We F (List.range c)
 rw [List.length_range] at hl
 have e2 : ((List.range c).filter fun a => !(F a == false)) = (List.range c).filter fun a => F a == true := List.filter_congr fun a _ => by cases F a <;> rfl
 rw [e2, List.take_append, Cv, Ks, Ls]
 . rw [List.length_take, (uh c F).1, (uh c F).2]; omega
 . intro a ha
   have := (List.mem_filter.mp ((List.take_sublist _ _).subset ha)).2
   simpa using this
 . intro a ha
   have := (List.mem_filter.mp ((List.take_sublist _ _).subset ha)).2
   simpa using this
def hang (c : Nat) (l : List Nat) (n x : Nat) : Wd -> List Nat
 | .council => pkL (List.range c) n x
 | .bench => pkL l n x
 | .stay => l
def pl (c : Nat) (F : Nat -> Bool) (l : List Nat) : Rn -> Nat -> List Nat
 | .lot n, x => pkL l n x
 | .vote n q w, x => if q <= fr F l then seat c F n true else if q <= l.length - fr F l then seat c F n false else hang c l n x w
theorem rg (n v : Nat) : (sm n fun _ => v) = n * v := by
 induction n with
 | zero => show 0 = 0 * v; omega
 | succ n ih => show (sm n fun _ => v) + v = _; rw [ih, Nat.add_mul]; omega
theorem Qj {n k v : Nat} (hk : k <= n) (w : Nat -> Nat) : (sm (n + 1) fun t => (one n k v).getD t 0 * w t) = v * w k := by
 have e : ∀ t, t < n + 1 -> (one n k v).getD t 0 * w t = (if k = t then 1 else 0) * (v * w k) := fun t ht => by
  have : (one n k v).getD t 0 = if t = k then v else 0 := getD_some (Gb _ (by omega))
  rw [this]
  by_cases z : t = k
  . subst z; rw [if_pos rfl, if_pos rfl, Nat.one_mul]
  . rw [if_neg z, if_neg (fun y => z y.symm), Nat.zero_mul, Nat.zero_mul]
 rw [Oa e, sm_pt _ _ _ (by omega)]
theorem ic {c : Nat} {F : Nat -> Bool} {l : List Nat} {x : Nat} : ∀ {r : Rn}, Fit c l.length r -> x < dr c l.length r -> (pl c F l r x).length = r.n
 | .lot n, h, hx => fc l n x h.2.2 hx
 | .vote n q w, h, hx => by
  obtain ⟨h1, h2, h3, h4, h5, h6, h7⟩ := h
  show (if q <= fr F l then seat c F n true else if q <= l.length - fr F l then seat c F n false else hang c l n x w).length = n
  split
  . exact Bn F true h3
  . split
    . exact Bn F false h3
    . cases w with
      | council =>
       have := fc (List.range c) n x (by rw [List.length_range]; exact h3) (by rw [List.length_range]; exact hx)
       exact this
      | bench => exact fc l n x (h6 rfl) hx
      | stay => exact (h7 rfl).symm
theorem Nt {c : Nat} {F : Nat -> Bool} {l : List Nat} (w : Nat -> Nat) : ∀ {r : Rn}, Fit c l.length r -> (sm (dr c l.length r) fun x => w (fr F (pl c F l r x))) = sm (r.n + 1) fun k => (bh c (fr F (List.range c)) l.length (fr F l) r).getD k 0 * w k
 | .lot n, h => An h.2.2 w
 | .vote n q wd, h => by
  obtain ⟨h1, h2, h3, h4, h5, h6, h7⟩ := h
  have lr : (List.range c).length = c := List.length_range
  rw [Uj]
  show (sm (dr c l.length (.vote n q wd)) fun x => w (fr F (if q <= fr F l then seat c F n true else if q <= l.length - fr F l then seat c F n false else hang c l n x wd))) = sm (n + 1) _
  by_cases z1 : q <= fr F l
  . rw [if_pos z1, Qj (by omega) w]
    have : ∀ x, x < dr c l.length (.vote n q wd) -> w (fr F (if q <= fr F l then seat c F n true else if q <= l.length - fr F l then seat c F n false else hang c l n x wd)) = w (min (fr F (List.range c)) n) := fun x _ => by rw [if_pos z1, Gq F h3]
    rw [Oa this, rg]
  . rw [if_neg z1]
    by_cases z2 : q <= l.length - fr F l
    . rw [if_pos z2, Qj (by omega) w]
      have : ∀ x, x < dr c l.length (.vote n q wd) -> w (fr F (if q <= fr F l then seat c F n true else if q <= l.length - fr F l then seat c F n false else hang c l n x wd)) = w (n - min (c - fr F (List.range c)) n) := fun x _ => by rw [if_neg z1, if_pos z2, Hq F h3]
      rw [Oa this, rg]
    . rw [if_neg z2]
      have e : ∀ x, x < dr c l.length (.vote n q wd) -> w (fr F (if q <= fr F l then seat c F n true else if q <= l.length - fr F l then seat c F n false else hang c l n x wd)) = w (fr F (hang c l n x wd)) := fun x _ => by rw [if_neg z1, if_neg z2]
      rw [Oa e]
      cases wd with
      | council =>
       have := An (F := F) (l := List.range c) (n := n) (by rw [lr]; exact h3) w
       rw [lr] at this
       exact this
      | bench => exact An (h6 rfl) w
      | stay =>
       have hn : n = l.length := h7 rfl
       have := We F l
       show 0 + w (fr F l) = _
       rw [Qj (by omega) w]
       omega
def plA (c : Nat) (F : Nat -> Bool) : List Nat -> List Rn -> Nat -> List (List Nat)
 | _, [], _ => []
 | l, r :: rs, N => pl c F l r (N / Ba (drs c r.n rs) % dr c l.length r) :: plA c F (pl c F l r (N / Ba (drs c r.n rs) % dr c l.length r)) rs N
def Ec (l : List Nat) (ls : List (List Nat)) : List Nat := ls.getLastD l
theorem pd (l m : List Nat) (ls : List (List Nat)) : Ec l (m :: ls) = Ec m ls := by
 unfold Ec
 cases ls with
 | nil => rfl
 | cons a b => rfl
theorem eh {c : Nat} {F : Nat -> Bool} : ∀ (rs : List Rn) (l : List Nat) (N k b : Nat), l.length = b -> FitR c b rs -> b <= c -> plA c F l rs (N + k * Ba (drs c b rs)) = plA c F l rs N
 | [], _, _, _, _, _, _, _ => rfl
 | r :: rs, l, N, k, b, hl, ft, hb => by
  subst hl
  have P0 : 0 < Ba (drs c r.n rs) := Yd _ (Rf ft.2 (ft.1.le hb))
  have m0 := Md hb ft.1
  have e1 : N + k * Ba (drs c l.length (r :: rs)) = N + (k * dr c l.length r) * Ba (drs c r.n rs) := by
   show N + k * (dr c l.length r * Ba (drs c r.n rs)) = _
   rw [Nat.mul_assoc]
  have e2 : (N + k * Ba (drs c l.length (r :: rs))) / Ba (drs c r.n rs) % dr c l.length r = N / Ba (drs c r.n rs) % dr c l.length r := by
   rw [e1, Nat.add_mul_div_right _ _ P0, Nat.add_mul_mod_self_right]
  show pl c F l r ((N + k * Ba (drs c l.length (r :: rs))) / Ba (drs c r.n rs) % dr c l.length r) :: plA c F (pl c F l r ((N + k * Ba (drs c l.length (r :: rs))) / Ba (drs c r.n rs) % dr c l.length r)) rs (N + k * Ba (drs c l.length (r :: rs))) = _
  rw [e2, e1, eh rs _ N (k * dr c l.length r) r.n (ic ft.1 (Nat.mod_lt _ m0)) ft.2 (ft.1.le hb)]
  rfl
theorem ug (g : Nat -> Nat) (P : Nat) : ∀ m, sm (m * P) g = sm m fun x => sm P fun y => g (x * P + y)
 | 0 => by rw [Nat.zero_mul]; rfl
 | m + 1 => by
  show _ = (sm m fun x => sm P fun y => g (x * P + y)) + sm P fun y => g (m * P + y)
  rw [Nat.add_mul, Nat.one_mul, gf, ug g P m]
theorem Ah {c : Nat} {F : Nat -> Bool} : ∀ (rs : List Rn) (l : List Nat) (b : Nat), l.length = b -> FitR c b rs -> b <= c -> Qa b rs = 1 ->
 (sm (Ba (drs c b rs)) fun N => fr F (Ec l (plA c F l rs N))) = (wB c (fr F (List.range c)) b rs).getD (fr F l) 0
 | [], l, b, hl, _, _, hw => by
  have hb : b = 1 := hw
  subst hb
  show 0 + fr F l = _
  have := We F l
  have : fr F l = 0 \/ fr F l = 1 := by omega
  rcases this with h | h <;> rw [h] <;> rfl
 | r :: rs, l, b, hl, ft, hb, hw => by
  subst hl
  have P0 : 0 < Ba (drs c r.n rs) := Yd _ (Rf ft.2 (ft.1.le hb))
  have hw' : Qa r.n rs = 1 := hw
  show (sm (dr c l.length r * Ba (drs c r.n rs)) _) = (wah c (fr F (List.range c)) l.length r (wB c (fr F (List.range c)) r.n rs)).getD (fr F l) 0
  rw [ug]
  have e : ∀ x, x < dr c l.length r -> (sm (Ba (drs c r.n rs)) fun y => fr F (Ec l (plA c F l (r :: rs) (x * Ba (drs c r.n rs) + y)))) = (fun k => (wB c (fr F (List.range c)) r.n rs).getD k 0) (fr F (pl c F l r x)) := fun x hx => by
   show _ = (wB c (fr F (List.range c)) r.n rs).getD (fr F (pl c F l r x)) 0
   rw [<- Ah rs (pl c F l r x) r.n (ic ft.1 hx) ft.2 (ft.1.le hb) hw']
   refine Oa fun y hy => ?_
   have e1 : (x * Ba (drs c r.n rs) + y) / Ba (drs c r.n rs) % dr c l.length r = x := by
    rw [Nat.add_comm, Nat.add_mul_div_right _ _ P0, Nat.div_eq_of_lt hy, Nat.zero_add, Nat.mod_eq_of_lt hx]
   show fr F (Ec l (pl c F l r ((x * Ba (drs c r.n rs) + y) / Ba (drs c r.n rs) % dr c l.length r) :: plA c F (pl c F l r ((x * Ba (drs c r.n rs) + y) / Ba (drs c r.n rs) % dr c l.length r)) rs (x * Ba (drs c r.n rs) + y))) = _
   rw [pd, e1, Nat.add_comm, eh rs _ y x r.n (ic ft.1 hx) ft.2 (ft.1.le hb)]
  rw [Oa e, Nt (fun k => (wB c (fr F (List.range c)) r.n rs).getD k 0) ft.1]
  have ww : (wah c (fr F (List.range c)) l.length r (wB c (fr F (List.range c)) r.n rs)).getD (fr F l) 0 = dot r.n (bh c (fr F (List.range c)) l.length (fr F l) r) (wB c (fr F (List.range c)) r.n rs) := getD_some (Gb _ (We F l))
  rw [ww]
  rfl
end BR
namespace BR
open MB
def Uc : List Nat -> Nat -> List Nat
 | [], _ => []
 | m :: l, n => n / Ba l % m :: Uc l n
theorem me : ∀ (l : List Nat) (n : Nat), (Uc l n).length = l.length
 | [], _ => rfl
 | m :: l, n => by show (Uc l n).length + 1 = _; rw [me l n]; rfl
theorem qh : ∀ {l : List Nat} {n k m : Nat}, l[k]? = some m -> (Uc l n)[k]? = some (n / Ba (l.drop (k + 1)) % m)
 | [], _, _, _, h => by simp at h
 | x :: l, n, 0, m, h => by
  have : x = m := by simpa using h
  subst this
  rfl
 | x :: l, n, k + 1, m, h => by
  show (Uc l n)[k]? = _
  exact qh (by simpa using h)
theorem eo {c : Nat} : ∀ (rs : List Rn) (s k : Nat), (drs c s rs).drop k = drs c (Qa s (rs.take k)) (rs.drop k)
 | rs, s, 0 => rfl
 | [], s, k + 1 => rfl
 | r :: rs, s, k + 1 => eo rs r.n k
theorem Pj {c : Nat} : ∀ {rs : List Rn} {s i m : Nat} {r : Rn}, rs[i]? = some r -> (drs c s rs)[i]? = some m -> m = dr c (Qa s (rs.take i)) r
 | [], _, _, _, _, h, _ => by simp at h
 | r' :: rs, s, 0, m, r, h, h2 => by
  have e1 : r' = r := by simpa using h
  have e2 : dr c s r' = m := Option.some.inj h2
  subst e1
  exact e2.symm
 | r' :: rs, s, i + 1, m, r, h, h2 => Pj (s := r'.n) (show rs[i]? = some r by simpa using h) (show (drs c r'.n rs)[i]? = some m from h2)
theorem Nk {l : List Nat} {j m : Nat} (n : Nat) (h : l[j]? = some m) : n / Ba (l.drop j) = n / Ba (l.drop (j + 1)) / m := by
 have hi : j < l.length := (List.getElem?_eq_some_iff.mp h).1
 rw [List.drop_eq_getElem_cons hi]
 rw [List.getElem?_eq_getElem hi] at h
 rw [Option.some.inj h]
 show n / (m * Ba (l.drop (j + 1))) = _
 rw [Nat.mul_comm, Nat.div_div_eq_div_mul]
theorem Nf {c : Nat} {F : Nat -> Bool} : ∀ (rs : List Rn) (l : List Nat) (N : Nat), (plA c F l rs N).length = rs.length
 | [], _, _ => rfl
 | r :: rs, l, N => by show (plA c F _ rs N).length + 1 = rs.length + 1; rw [Nf rs]
def plB (c : Nat) (F : Nat -> Bool) (l : List Nat) (rs : List Rn) (N i : Nat) : List Nat := Ec l ((plA c F l rs N).take i)
theorem vg {c : Nat} {F : Nat -> Bool} : ∀ {rs : List Rn} {l : List Nat} {N i b : Nat} {r : Rn}, l.length = b -> FitR c b rs -> b <= c -> rs[i]? = some r ->
 (plA c F l rs N)[i]? = some (pl c F (plB c F l rs N i) r (N / Ba ((drs c b rs).drop (i + 1)) % dr c (Qa b (rs.take i)) r)) /\ (plB c F l rs N i).length = Qa b (rs.take i)
 | [], _, _, _, _, _, _, _, _, h => by simp at h
 | r' :: rs, l, N, 0, b, r, hl, ft, hb, h => by
  have : r' = r := by simpa using h
  subst this
  subst hl
  exact ⟨rfl, rfl⟩
 | r' :: rs, l, N, i + 1, b, r, hl, ft, hb, h => by
  subst hl
  have m0 := Md hb ft.1
  have ih := vg (F := F) (N := N) (i := i) (ic (F := F) ft.1 (Nat.mod_lt (N / Ba (drs c r'.n rs)) m0)) ft.2 (ft.1.le hb) (show rs[i]? = some r by simpa using h)
  have e : plB c F l (r' :: rs) N (i + 1) = plB c F (pl c F l r' (N / Ba (drs c r'.n rs) % dr c l.length r')) rs N i := pd _ _ _
  rw [e]
  exact ih
theorem Ln {c : Nat} {F : Nat -> Bool} {l : List Nat} {rs : List Rn} {N i : Nat} {m : List Nat} (h : (plA c F l rs N)[i]? = some m) : plB c F l rs N (i + 1) = m := by
 unfold plB Ec
 rw [Ja h]
 simp
section
variable {c n q x : Nat} {F : Nat -> Bool} {l : List Nat} {w : Wd}
theorem pl_t (h : q <= fr F l) : pl c F l (.vote n q w) x = seat c F n true := if_pos h
theorem pl_f (h : ¬ q <= fr F l) (h2 : q <= l.length - fr F l) : pl c F l (.vote n q w) x = seat c F n false := (if_neg h).trans (if_pos h2)
theorem pl_c (h : ¬ q <= fr F l) (h2 : ¬ q <= l.length - fr F l) : pl c F l (.vote n q .council) x = pkL (List.range c) n x := (if_neg h).trans (if_neg h2)
theorem pl_b (h : ¬ q <= fr F l) (h2 : ¬ q <= l.length - fr F l) : pl c F l (.vote n q .bench) x = pkL l n x := (if_neg h).trans (if_neg h2)
theorem pl_s (h : ¬ q <= fr F l) (h2 : ¬ q <= l.length - fr F l) : pl c F l (.vote n q .stay) x = l := (if_neg h).trans (if_neg h2)
end
theorem Gj {c a : Nat} {F : Nat -> Bool} {t : Bool} (ha : a < c) : a ∈ ((List.range c).filter fun a => F a == t) ↔ (F a == t) = true := by
 rw [List.mem_filter]
 exact ⟨fun h => h.2, fun h => ⟨List.mem_range.mpr ha, h⟩⟩
theorem sj {c : Nat} {F : Nat -> Bool} : ∀ (rs : List Rn) (l : List Nat) (N b : Nat), l.length = b -> FitR c b rs -> b <= c -> (Ec l (plA c F l rs N)).length = Qa b rs
 | [], l, _, b, hl, _, _ => hl
 | r :: rs, l, N, b, hl, ft, hb => by
  subst hl
  have m0 := Md hb ft.1
  show (Ec l (pl c F l r (N / Ba (drs c r.n rs) % dr c l.length r) :: plA c F (pl c F l r (N / Ba (drs c r.n rs) % dr c l.length r)) rs N)).length = Qa r.n rs
  rw [pd]
  exact sj rs _ N r.n (ic ft.1 (Nat.mod_lt _ m0)) ft.2 (ft.1.le hb)
theorem Be (l : List Nat) (n x : Nat) : (pkL (List.range l.length) n x).map (fun i => l.getD i 0) = pkL l n x := by
 rw [<- tj]
 congr 1
 apply List.ext_getElem?
 intro i
 rw [List.getElem?_map]
 by_cases h : i < l.length
 . rw [List.getElem?_range h, List.getElem?_eq_getElem h]
   show some (l.getD i 0) = _
   rw [List.getD_eq_getElem?_getD, List.getElem?_eq_getElem h]
   rfl
 . rw [List.getElem?_eq_none (by rw [List.length_range]; omega), List.getElem?_eq_none (by omega)]
   rfl
end BR
namespace BL
open PySem PySem.Spec PyProof.Rows L2 BR
def spPk : Sp := fun vs H Q _ => ∃ m n x : Nat, vs = [.int m, .int n, .int x] /\ m < 512 /\ n <= m /\ x < MB.ch m n /\ NewL H Q (pkL (List.range m) n x)
theorem aq {m n x : Nat} {H : Hp} {Q : VK} {E : XK} (h1 : m < 512) (h2 : n <= m) (h3 : x < MB.ch m n) (q : NewL H Q (pkL (List.range m) n x)) : spPk [.int m, .int n, .int x] H Q E := ⟨m, n, x, rfl, h1, h2, h3, q⟩
def tq : Sp := fun vs H Q _ => ∃ (c : Nat) (a : Addr) (ps : List Addr) (rs : List Rn) (N : Nat), vs = [.int c, .ref a, .int N] /\ CR H a ps c rs /\ NewL H Q (Uc (drs c c rs) N)
theorem sq {c : Nat} {a : Addr} {ps : List Addr} {rs : List Rn} {N : Nat} {H : Hp} {Q : VK} {E : XK} (R : CR H a ps c rs) (q : NewL H Q (Uc (drs c c rs) N)) : tq [.int c, .ref a, .int N] H Q E := ⟨c, a, ps, rs, N, rfl, R, q⟩
theorem TsAt.last {H : Hp} {f a : Addr} {x : List Nat} {qs : List Addr} {ls : List (List Nat)} (F : TsAt lstN H f (a :: qs) (x :: ls)) : ∃ p, atI ((a :: qs).map V.ref) (-1) = some (.ref p) /\ H p = some (lstN (Ec x ls)) := by
 have ln := F.ln
 have ln' : qs.length = ls.length := by simpa using ln
 rcases List.eq_nil_or_concat ls with z | ⟨ls', y, z⟩
 . subst z
   have : qs = [] := List.eq_nil_of_length_eq_zero (by simpa using ln')
   subst this
   obtain ⟨q, h1, h2⟩ := F.it 0 a rfl
   have e : x = q := Option.some.inj h1
   subst e
   exact ⟨a, rfl, h2⟩
 . rw [List.concat_eq_append] at z
   subst z
   rcases List.eq_nil_or_concat qs with z | ⟨qs', p, z⟩
   . subst z
     simp at ln'
   . rw [List.concat_eq_append] at z
     subst z
     have l2 : qs'.length = ls'.length := by simpa using ln'
     refine ⟨p, ?_, ?_⟩
     . show atI (V.ref a :: (qs' ++ [p]).map V.ref) (-1) = _
       rw [List.map_append, <- List.cons_append]
       exact Fd _ _
     . obtain ⟨q, h1, h2⟩ := F.it (qs'.length + 1) p (by simp)
       have e : q = y := by
        have : (x :: (ls' ++ [y]))[qs'.length + 1]? = some y := by simp [l2]
        rw [this] at h1
        exact (Option.some.inj h1).symm
       subst e
       rw [h2]
       unfold Ec
       simp
theorem TsAt.cons' {α : Type} {ob : α -> HO} {H : Hp} {f g p : Addr} {ps : List Addr} {qs : List α} {q : α} (F : TsAt ob H f ps qs) (hg : H g = some (.lst ([.ref p] ++ ps.map V.ref))) (hp : H p = some (ob q)) : TsAt ob H g (p :: ps) (q :: qs) := by
 refine ⟨hg, fun i r h => ?_, by simp [F.ln]⟩
 match i, h with
 | 0, h =>
  have e : p = r := Option.some.inj h
  subst e
  exact ⟨q, rfl, hp⟩
 | i + 1, h => exact F.it i r h
theorem Dp (n : Nat) : L2.upTo n = zs (List.range n) := rfl
end BL
namespace BL
open PySem PySem.Spec PyProof.Rows L2 BR
structure Nam (g : Nat -> V) (c : Nat) : Prop where
 flat : ∀ i, Ob (g i) = true
 eq : ∀ i j, i < c -> j < c -> eqV (g i) (g j) = decide (i = j)
def lstG (g : Nat -> V) (l : List Nat) : HO := .lst (l.map g)
theorem Mj {g : Nat -> V} {c : Nat} (N : Nam g c) (l : List Nat) : (l.map g).all Ob = true := by
 rw [List.all_map]; exact List.all_eq_true.2 fun a _ => N.flat a
theorem qx {g : Nat -> V} {c : Nat} (N : Nam g c) {x : Nat} (hx : x < c) : ∀ {l : List Nat}, (∀ a ∈ l, a < c) -> inV (g x) (l.map g) = decide (x ∈ l)
 | [], _ => by simp [inV]
 | a :: l, h => by
  have e : inV (g x) ((a :: l).map g) = (eqV (g a) (g x) || inV (g x) (l.map g)) := rfl
  rw [e, qx N hx fun b hb => h b (List.mem_cons_of_mem _ hb), N.eq a x (h a (List.mem_cons_self ..)) hx]
  by_cases z : x = a
  . subst z; simp
  . rw [decide_eq_false (fun y => z y.symm), Bool.false_or, decide_eq_decide]
    simp [z]
theorem r_inG {g : Nat -> V} {c : Nat} {K : PySem.W.Frag} {H : Hp} {Q : VK} {p : Addr} {l : List Nat} {x : Nat} (N : Nam g c) (hx : x < c) (hl : ∀ a ∈ l, a < c) (h : H p = some (.lst (l.map g))) (q : Q (.bl (decide (x ∈ l))) H) : rIn K false (g x) (.ref p) H Q := by
 refine ⟨p, _, rfl, .inl (SqL.of h), N.flat x, Mj N l, ?_⟩
 rw [if_neg (by decide), qx N hx hl]; exact q
theorem mv {g : Nat -> V} {c : Nat} {K : PySem.W.Frag} {H : Hp} {Q : VK} {p : Addr} {l : List Nat} {x : Nat} (N : Nam g c) (hx : x < c) (hl : ∀ a ∈ l, a < c) (h : H p = some (.lst (l.map g))) (q : Q (.bl (!decide (x ∈ l))) H) : rIn K true (g x) (.ref p) H Q := by
 refine ⟨p, _, rfl, .inl (SqL.of h), N.flat x, Mj N l, ?_⟩
 rw [if_pos rfl, qx N hx hl]; exact q
theorem Jo {K : PySem.W.Frag} {H : Hp} {Q : VK} {p : Addr} {x : V} {fv : List V} (hx : Ob x = true) (hf : fv.all Ob = true) (h : H p = some (.lst fv)) (q : Q (.bl (inV x fv)) H) : rIn K false x (.ref p) H Q := by
 refine ⟨p, _, rfl, .inl (SqL.of h), hx, hf, ?_⟩
 rw [if_neg (by decide)]; exact q
theorem getG {g : Nat -> V} {l : List Nat} {i : Nat} {v : V} (h : (l.map g)[i]? = some v) : ∃ a, l[i]? = some a /\ v = g a := by
 rw [List.getElem?_map] at h
 cases w : l[i]? with
 | none => rw [w] at h; cases h
 | some a => rw [w] at h; exact ⟨a, rfl, (Option.some.inj h).symm⟩
theorem Ih (g : Nat -> V) (l : List Nat) (x : Nat) : l.map g ++ [g x] = (l ++ [x]).map g := by rw [List.map_append]; rfl
theorem atG {g : Nat -> V} {l : List Nat} {i x : Nat} (h : l[i]? = some x) : atI (l.map g) (i : Int) = some (g x) := Pb (by rw [List.getElem?_map, h]; rfl)
def Um : Sp := fun vs H Q _ => ∃ (g : Nat -> V) (fo fr' sa p : Addr) (c : Nat) (fv : List V) (l : List Nat) (n q x : Nat) (w : Wd), vs = [.ref fo, .ref fr', .ref sa, .ref p, .int x] /\ Nam g c /\ H fo = some (lstG g (List.range c)) /\ H fr' = some (.lst fv) /\ fv.all Ob = true /\ H sa = some (lstG g l) /\ (∀ a ∈ l, a < c) /\ H p = some (rnO (.vote n q w)) /\
 c < 512 /\ l.length <= c /\ Fit c l.length (.vote n q w) /\ x < dr c l.length (.vote n q w) /\ ∀ (z : Addr) (H' : Hp), Same H H' -> H' z = some (lstG g (pl c (fun a => inV (g a) fv) l (.vote n q w) x)) -> Q (.ref z) H'
theorem Ao {g : Nat -> V} {fo fr' sa p : Addr} {c : Nat} {fv : List V} {l : List Nat} {n q x : Nat} {w : Wd} {H : Hp} {Q : VK} {E : XK} (NM : Nam g c) (h1 : H fo = some (lstG g (List.range c))) (h2 : H fr' = some (.lst fv)) (hfl : fv.all Ob = true) (h3 : H sa = some (lstG g l)) (hsl : ∀ a ∈ l, a < c) (h4 : H p = some (rnO (.vote n q w)))
 (h5 : c < 512) (h6 : l.length <= c) (h7 : Fit c l.length (.vote n q w)) (h8 : x < dr c l.length (.vote n q w)) (k : ∀ (z : Addr) (H' : Hp), Same H H' -> H' z = some (lstG g (pl c (fun a => inV (g a) fv) l (.vote n q w) x)) -> Q (.ref z) H') : Um [.ref fo, .ref fr', .ref sa, .ref p, .int x] H Q E := ⟨g, fo, fr', sa, p, c, fv, l, n, q, x, w, rfl, NM, h1, h2, hfl, h3, hsl, h4, h5, h6, h7, h8, k⟩
def vq : Sp := fun vs H Q _ => ∃ (g : Nat -> V) (fo fr' a : Addr) (c : Nat) (fv : List V) (ps : List Addr) (rs : List Rn) (N : Nat), vs = [.ref fo, .ref fr', .ref a, .int N] /\ Nam g c /\ H fo = some (lstG g (List.range c)) /\ H fr' = some (.lst fv) /\ fv.all Ob = true /\ CR H a ps c rs /\
 ∀ (p : Addr) (H' : Hp) (qs : List Addr), Same H H' -> TsAt (lstG g) H' p qs (plA c (fun a => inV (g a) fv) (List.range c) rs N) -> Q (.ref p) H'
theorem uq {g : Nat -> V} {fo fr' a : Addr} {c : Nat} {fv : List V} {ps : List Addr} {rs : List Rn} {N : Nat} {H : Hp} {Q : VK} {E : XK} (NM : Nam g c) (h1 : H fo = some (lstG g (List.range c))) (h2 : H fr' = some (.lst fv)) (hfl : fv.all Ob = true) (R : CR H a ps c rs) (q : ∀ (p : Addr) (H' : Hp) (qs : List Addr), Same H H' -> TsAt (lstG g) H' p qs (plA c (fun a => inV (g a) fv) (List.range c) rs N) -> Q (.ref p) H') : vq [.ref fo, .ref fr', .ref a, .int N] H Q E := ⟨g, fo, fr', a, c, fv, ps, rs, N, rfl, NM, h1, h2, hfl, R, q⟩
theorem yr {c : Nat} {F : Nat -> Bool} {l : List Nat} {x : Nat} (hl : ∀ a ∈ l, a < c) : ∀ {r : Rn}, ∀ a ∈ pl c F l r x, a < c
 | .lot n, a, h => hl a ((Dc l n x).subset h)
 | .vote n q w, a, h => by
  have h' : a ∈ (if q <= fr F l then seat c F n true else if q <= l.length - fr F l then seat c F n false else hang c l n x w) := h
  have hs : ∀ t, a ∈ seat c F n t -> a < c := fun t y => List.mem_range.mp ((List.filter_sublist (p := _) (l := List.range c)).subset y)
  split at h'
  . exact hs _ h'
  . split at h'
    . exact hs _ h'
    . cases w with
      | council => exact List.mem_range.mp ((Dc (List.range c) n x).subset h')
      | bench => exact hl a ((Dc l n x).subset h')
      | stay => exact hl a h'
theorem uv {c : Nat} {F : Nat -> Bool} : ∀ (rs : List Rn) (l : List Nat) (N : Nat), (∀ a ∈ l, a < c) -> ∀ m ∈ plA c F l rs N, ∀ a ∈ m, a < c
 | [], _, _, _, m, hm, _, _ => by simp [plA] at hm
 | r :: rs, l, N, hl, m, hm, a, ha => by
  have hm' : m = pl c F l r (N / Ba (drs c r.n rs) % dr c l.length r) \/ m ∈ plA c F (pl c F l r (N / Ba (drs c r.n rs) % dr c l.length r)) rs N := List.mem_cons.mp hm
  rcases hm' with y | y
  . subst y; exact yr hl a ha
  . exact uv rs _ N (fun b hb => yr hl b hb) m y a ha
theorem zr {c : Nat} {F : Nat -> Bool} {rs : List Rn} {l : List Nat} {N i : Nat} (hl : ∀ a ∈ l, a < c) : ∀ a ∈ plB c F l rs N i, a < c := by
 intro a ha
 unfold plB Ec at ha
 rcases List.eq_nil_or_concat ((plA c F l rs N).take i) with z | ⟨ls, y, z⟩
 . rw [z] at ha; exact hl a ha
 . rw [z, List.concat_eq_append] at ha
   simp at ha
   have : y ∈ plA c F l rs N := (List.take_sublist i _).subset (by rw [z, List.concat_eq_append]; simp)
   exact uv rs l N hl y this a ha
theorem Tn {g : Nat -> V} {c : Nat} {H : Hp} {z f : Addr} {l : List Nat} {qs : List Addr} (N : Nam g c) (hr : ∀ i a, g i ≠ .ref a) (h1 : H z = some (lstG g l)) (h2 : H f = some (.lst (qs.map V.ref))) (hl : 0 < l.length) : z ≠ f := by
 rintro rfl
 rw [h1] at h2
 have e : l.map g = qs.map V.ref := by
  have := Option.some.inj h2
  unfold lstG at this
  injection this
 cases l with
 | nil => simp at hl
 | cons a l =>
  cases qs with
  | nil => simp at e
  | cons q qs => exact hr _ _ (List.cons.inj e).1
theorem Nam.noref {g : Nat -> V} {c : Nat} (N : Nam g c) : ∀ i a, g i ≠ .ref a := fun i a e => by have := N.flat i; rw [e] at this; cases this
end BL
namespace BR
open MB
theorem Dr : ∀ (m p r : Nat), pk m p 0 r = []
 | 0, _, _ => rfl
 | m + 1, p, r => by
  show (if r < hv (m + 1) 0 then p :: pk m (p + 1) (0 - 1) r else pk m (p + 1) 0 (r - hv (m + 1) 0)) = []
  rw [de, if_neg (by omega)]
  exact Dr m (p + 1) _
theorem Br : ∀ (m p n x : Nat), pk m p n x = pkL (List.range' p m) n x
 | 0, _, _, _ => rfl
 | m + 1, p, 0, x => by rw [Dr]; rfl
 | m + 1, p, n + 1, x => by
  rw [List.range'_succ, Mb, List.length_range']
  show (if x < hv (m + 1) (n + 1) then p :: pk m (p + 1) (n + 1 - 1) x else pk m (p + 1) (n + 1) (x - hv (m + 1) (n + 1))) = _
  rw [Jk, Nat.add_sub_cancel, Br m (p + 1) n x, Br m (p + 1) (n + 1) (x - ch m n)]
theorem Mn (m n x : Nat) : pk m 0 n x = pkL (List.range m) n x := by rw [Br, List.range_eq_range']
theorem Ng : ∀ {a b : List Int}, a.Perm b -> a.Pairwise (· <= ·) -> b.Pairwise (· <= ·) -> a = b
 | [], b, p, _, _ => p.nil_eq
 | x :: a, [], p, _, _ => absurd p.length_eq (by simp)
 | x :: a, y :: b, p, h1, h2 => by
  have e : x = y := by
   have m1 : x ∈ y :: b := p.mem_iff.mp (List.mem_cons_self ..)
   have m2 : y ∈ x :: a := p.mem_iff.mpr (List.mem_cons_self ..)
   have l1 : y <= x := by
    rcases List.mem_cons.mp m1 with z | z
    . omega
    . exact (List.pairwise_cons.mp h2).1 x z
   have l2 : x <= y := by
    rcases List.mem_cons.mp m2 with z | z
    . omega
    . exact (List.pairwise_cons.mp h1).1 y z
   omega
  subst e
  rw [Ng (p.cons_inv) (List.pairwise_cons.mp h1).2 (List.pairwise_cons.mp h2).2]
theorem au (n : Nat) : ((List.range n).map fun x : Nat => (x : Int)).Pairwise (· <= ·) := by
 rw [List.pairwise_map]
 exact List.pairwise_lt_range.imp fun h => by omega
end BR
namespace BL
open PySem PySem.Spec PyProof.Rows L2 BR
theorem Il {c n : Nat} {F : Nat -> Bool} {t : Bool} {ms : List Int} (p : ms.Perm (zs ((((List.range c).filter fun a => F a == t) ++ ((List.range c).filter fun a => !(F a == t))).take n))) (h : ms.Pairwise (· <= ·)) : ms = zs (seat c F n t) := by
 refine Ng (p.trans ?_) h ?_
 . exact ((kf c F n t).map _).symm
 . have : ((seat c F n t).map fun x : Nat => (x : Int)).Sublist ((List.range c).map fun x : Nat => (x : Int)) := List.Sublist.map _ List.filter_sublist
   exact (au c).sublist this
def mks (F : Nat -> Bool) (c : Nat) : HO := .lst ((List.range c).map fun a => V.bl (F a))
def nq : Sp := fun vs H Q _ => ∃ (g : Nat -> V) (fo fr' : Addr) (c : Nat) (fv : List V), vs = [.ref fo, .ref fr'] /\ Nam g c /\ c < 512 /\ H fo = some (lstG g (List.range c)) /\ H fr' = some (.lst fv) /\ fv.all Ob = true /\ ∀ (m : Addr) (H' : Hp), H m = none -> Same H H' -> H' m = some (mks (fun a => inV (g a) fv) c) -> Q (.ref m) H'
theorem jk {g : Nat -> V} {fo fr' : Addr} {c : Nat} {fv : List V} {H : Hp} {Q : VK} {E : XK} (N : Nam g c) (hc : c < 512) (h1 : H fo = some (lstG g (List.range c))) (h2 : H fr' = some (.lst fv)) (h3 : fv.all Ob = true) (q : ∀ (m : Addr) (H' : Hp), H m = none -> Same H H' -> H' m = some (mks (fun a => inV (g a) fv) c) -> Q (.ref m) H') : nq [.ref fo, .ref fr'] H Q E := ⟨g, fo, fr', c, fv, rfl, N, hc, h1, h2, h3, q⟩
def Cq : Sp := fun vs H Q _ => ∃ (m p : Addr) (c : Nat) (F : Nat -> Bool) (l : List Nat), vs = [.ref m, .ref p] /\ H m = some (mks F c) /\ H p = some (lstN l) /\ (∀ a ∈ l, a < c) /\ l.length < 512 /\ ∀ H', Same H H' -> Q (.int (BR.fr F l : Nat)) H'
theorem Mg {m p : Addr} {c : Nat} {F : Nat -> Bool} {l : List Nat} {H : Hp} {Q : VK} {E : XK} (h1 : H m = some (mks F c)) (h2 : H p = some (lstN l)) (h3 : ∀ a ∈ l, a < c) (h4 : l.length < 512) (q : ∀ H', Same H H' -> Q (.int (BR.fr F l : Nat)) H') : Cq [.ref m, .ref p] H Q E := ⟨m, p, c, F, l, rfl, h1, h2, h3, h4, q⟩
def Ym : Sp := fun vs H Q _ => ∃ (m : Addr) (c n : Nat) (F : Nat -> Bool) (t : Bool), vs = [.ref m, .int n, .str (if t then "friends" else "foes")] /\ H m = some (mks F c) /\ c < 512 /\ n <= 60 /\ NewL H Q (seat c F n t)
theorem gi {m : Addr} {c n : Nat} {F : Nat -> Bool} {t : Bool} {H : Hp} {Q : VK} {E : XK} (h1 : H m = some (mks F c)) (h2 : c < 512) (h3 : n <= 60) (q : NewL H Q (seat c F n t)) : Ym [.ref m, .int n, .str (if t then "friends" else "foes")] H Q E := ⟨m, c, n, F, t, rfl, h1, h2, h3, q⟩
def und (c : Nat) (F : Nat -> Bool) (l : List Nat) : Rn -> Option (List Nat)
 | .lot _ => none
 | .vote n q w => if q <= BR.fr F l then some (seat c F n true) else if q <= l.length - BR.fr F l then some (seat c F n false) else if w = .stay then some l else none
structure BM (H : Hp) (m b p : Addr) (c : Nat) (F : Nat -> Bool) (l : List Nat) (r : Rn) : Prop where
 ma : H m = some (mks F c)
 bn : H b = some (lstN l)
 st : H p = some (rnO r)
 lt : ∀ a ∈ l, a < c
 ll : l.length <= c
 cc : c < 512
 ft : Fit c l.length r
theorem BM.same {H H' : Hp} {m b p : Addr} {c : Nat} {F : Nat -> Bool} {l : List Nat} {r : Rn} (h : BM H m b p c F l r) (s : Same H H') : BM H' m b p c F l r := ⟨s _ _ h.ma, s _ _ h.bn, s _ _ h.st, h.lt, h.ll, h.cc, h.ft⟩
def spUnd : Sp := fun vs H Q _ => ∃ (m b p : Addr) (c : Nat) (F : Nat -> Bool) (l : List Nat) (r : Rn), vs = [.ref m, .ref b, .ref p] /\ BM H m b p c F l r /\ (und c F l r = none -> ∀ H', Same H H' -> Q .non H') /\ ∀ z, und c F l r = some z -> NewL H Q z
theorem Qp {m b p : Addr} {c : Nat} {F : Nat -> Bool} {l : List Nat} {r : Rn} {H : Hp} {Q : VK} {E : XK} (h : BM H m b p c F l r) (q1 : und c F l r = none -> ∀ H', Same H H' -> Q .non H') (q2 : ∀ z, und c F l r = some z -> NewL H Q z) : spUnd [.ref m, .ref b, .ref p] H Q E := ⟨m, b, p, c, F, l, r, rfl, h, q1, q2⟩
def pool (c : Nat) (l : List Nat) : Rn -> List Nat
 | .vote _ _ .council => List.range c
 | _ => l
def Zu : Sp := fun vs H Q _ => ∃ (m b p : Addr) (c : Nat) (F : Nat -> Bool) (l : List Nat) (r : Rn), vs = [.ref m, .ref b, .ref p] /\ BM H m b p c F l r /\ NewL H Q (pool c l r)
theorem Zm {m b p : Addr} {c : Nat} {F : Nat -> Bool} {l : List Nat} {r : Rn} {H : Hp} {Q : VK} {E : XK} (h : BM H m b p c F l r) (q : NewL H Q (pool c l r)) : Zu [.ref m, .ref b, .ref p] H Q E := ⟨m, b, p, c, F, l, r, rfl, h, q⟩
theorem xr {c : Nat} {F : Nat -> Bool} {l : List Nat} {x : Nat} : ∀ {r : Rn} {z : List Nat}, und c F l r = some z -> pl c F l r x = z
 | .lot _, _, h => by cases h
 | .vote n q w, z, h => by
  have h' : (if q <= BR.fr F l then some (seat c F n true) else if q <= l.length - BR.fr F l then some (seat c F n false) else if w = .stay then some l else none) = some z := h
  show (if q <= BR.fr F l then seat c F n true else if q <= l.length - BR.fr F l then seat c F n false else hang c l n x w) = z
  split at h'
  . next y => rw [if_pos y]; exact Option.some.inj h'
  . next y =>
    rw [if_neg y]
    split at h'
    . next y2 => rw [if_pos y2]; exact Option.some.inj h'
    . next y2 =>
      rw [if_neg y2]
      split at h'
      . next y3 => subst y3; exact Option.some.inj h'
      . cases h'
theorem Mf {c : Nat} {F : Nat -> Bool} {l : List Nat} {x : Nat} : ∀ {r : Rn}, und c F l r = none -> pl c F l r x = pkL (pool c l r) r.n x /\ dr c l.length r = MB.ch (pool c l r).length r.n
 | .lot n, _ => ⟨rfl, rfl⟩
 | .vote n q w, h => by
  have h' : (if q <= BR.fr F l then some (seat c F n true) else if q <= l.length - BR.fr F l then some (seat c F n false) else if w = .stay then some l else none) = none := h
  split at h'
  . cases h'
  . next y =>
    split at h'
    . cases h'
    . next y2 =>
      split at h'
      . cases h'
      . next y3 =>
        cases w with
        | council => exact ⟨pl_c y y2, by show MB.ch c n = MB.ch (List.range c).length n; rw [List.length_range]⟩
        | bench => exact ⟨pl_b y y2, rfl⟩
        | stay => exact absurd rfl y3
theorem Kn {c : Nat} {l : List Nat} (hl : l.length <= c) : ∀ r : Rn, (pool c l r).length <= c
 | .lot _ => hl
 | .vote _ _ .council => by show (List.range c).length <= c; rw [List.length_range]; exact Nat.le_refl _
 | .vote _ _ .bench => hl
 | .vote _ _ .stay => hl
def fq : Sp := fun vs H Q _ => ∃ (c : Nat) (a : Addr) (ps : List Addr) (rs : List Rn) (N : Nat), vs = [.int c, .ref a, .int N] /\ CR H a ps c rs /\ N < allD c rs /\ NewL H Q (Uc (drs c c rs) N)
theorem dq {c : Nat} {a : Addr} {ps : List Addr} {rs : List Rn} {N : Nat} {H : Hp} {Q : VK} {E : XK} (R : CR H a ps c rs) (h : N < allD c rs) (q : NewL H Q (Uc (drs c c rs) N)) : fq [.int c, .ref a, .int N] H Q E := ⟨c, a, ps, rs, N, rfl, R, h, q⟩
theorem TsAt.lastG {g : Nat -> V} {H : Hp} {f a : Addr} {x : List Nat} {qs : List Addr} {ls : List (List Nat)} (F : TsAt (lstG g) H f (a :: qs) (x :: ls)) : ∃ p, atI ((a :: qs).map V.ref) (-1) = some (.ref p) /\ H p = some (lstG g (Ec x ls)) := by
 have ln := F.ln
 have ln' : qs.length = ls.length := by simpa using ln
 rcases List.eq_nil_or_concat ls with z | ⟨ls', y, z⟩
 . subst z
   have : qs = [] := List.eq_nil_of_length_eq_zero (by simpa using ln')
   subst this
   obtain ⟨q, h1, h2⟩ := F.it 0 a rfl
   have e : x = q := Option.some.inj h1
   subst e
   exact ⟨a, rfl, h2⟩
 . rw [List.concat_eq_append] at z
   subst z
   rcases List.eq_nil_or_concat qs with z | ⟨qs', p, z⟩
   . subst z
     simp at ln'
   . rw [List.concat_eq_append] at z
     subst z
     have l2 : qs'.length = ls'.length := by simpa using ln'
     refine ⟨p, ?_, ?_⟩
     . show atI (V.ref a :: (qs' ++ [p]).map V.ref) (-1) = _
       rw [List.map_append, <- List.cons_append]
       exact Fd _ _
     . obtain ⟨q, h1, h2⟩ := F.it (qs'.length + 1) p (by simp)
       have e : q = y := by
        have : (x :: (ls' ++ [y]))[qs'.length + 1]? = some y := by simp [l2]
        rw [this] at h1
        exact (Option.some.inj h1).symm
       subst e
       rw [h2]
       unfold Ec
       simp
end BL
namespace BL
open PySem PySem.Spec PyProof.Rows L2 BR
def abc : Str := "abcdefghijklmnopqrstuvwxyz"
theorem lx {nm : Nat -> Str} {c : Nat} (h : ∀ i j, i < c -> j < c -> nm i = nm j -> i = j) : Nam (fun i => V.str (nm i)) c := by
 refine ⟨fun i => rfl, fun i j hi hj => ?_⟩
 show (nm i == nm j) = decide (i = j)
 by_cases z : i = j
 . subst z; simp
 . rw [decide_eq_false z]
   simpa using fun y => z (h i j hi hj y)
theorem Yn {i : Nat} {G : Nat -> Bool} {b : Bool} : (List.range (i + 1)).filter (fun j => if j = i then b else G j) = (List.range i).filter G ++ (if b = true then [i] else []) := by
 rw [List.range_succ, List.filter_append]
 congr 1
 . refine List.filter_congr fun j hj => ?_
   have := List.mem_range.mp hj
   rw [if_neg (by omega)]
 . cases b <;> simp
end BL
namespace BL
open PySem PySem.Spec PyProof.Rows L2 BR
end BL
namespace BR
open MB
def wtN (bs : List Bool) (few had : Nat) (W : List Nat) : Nat := sm (few + 1) fun t => (lotN bs.length (bs.countP (· == true)) few).getD t 0 * W.getD (had + t) 0
def tkB (bs : List Bool) (i : Nat) : Nat := (bs.getD i false).toNat
def waS (bs : List Bool) (pl W : List Nat) : Nat -> Nat × Nat × Nat
 | 0 => (0, 0, 0)
 | i + 1 =>
  if (waS bs pl W i).2.2 < pl.length then
   if pl.getD (waS bs pl W i).2.2 0 = i then ((waS bs pl W i).1, (waS bs pl W i).2.1 + tkB bs i, (waS bs pl W i).2.2 + 1)
   else ((waS bs pl W i).1 + wtN (bs.drop (i + 1)) (pl.length - (waS bs pl W i).2.2 - 1) ((waS bs pl W i).2.1 + tkB bs i) W, (waS bs pl W i).2.1, (waS bs pl W i).2.2)
  else waS bs pl W i
theorem xp {bs : List Bool} {pl W : List Nat} {i : Nat} (h : ¬ (waS bs pl W i).2.2 < pl.length) : waS bs pl W (i + 1) = waS bs pl W i := if_neg h
theorem Bi {bs : List Bool} {pl W : List Nat} {i : Nat} (h : (waS bs pl W i).2.2 < pl.length) (e : pl.getD (waS bs pl W i).2.2 0 = i) : waS bs pl W (i + 1) = ((waS bs pl W i).1, (waS bs pl W i).2.1 + tkB bs i, (waS bs pl W i).2.2 + 1) := (if_pos h).trans (if_pos e)
theorem Ai {bs : List Bool} {pl W : List Nat} {i : Nat} (h : (waS bs pl W i).2.2 < pl.length) (e : ¬ pl.getD (waS bs pl W i).2.2 0 = i) : waS bs pl W (i + 1) = ((waS bs pl W i).1 + wtN (bs.drop (i + 1)) (pl.length - (waS bs pl W i).2.2 - 1) ((waS bs pl W i).2.1 + tkB bs i) W, (waS bs pl W i).2.1, (waS bs pl W i).2.2) := (if_pos h).trans (if_neg e)
theorem tkB_le (bs : List Bool) (i : Nat) : tkB bs i <= 1 := by unfold tkB; cases bs.getD i false <;> decide
theorem yp (bs : List Bool) (pl W : List Nat) : ∀ i, (waS bs pl W i).2.1 <= (waS bs pl W i).2.2 /\ (waS bs pl W i).2.2 <= pl.length
 | 0 => ⟨Nat.le_refl _, Nat.zero_le _⟩
 | i + 1 => by
  have ih := yp bs pl W i
  have tk := tkB_le bs i
  unfold waS
  split
  . split
    . constructor <;> simp only <;> omega
    . exact ih
  . exact ih
theorem mx {b on n : Nat} (h : on <= b) (hb : b < 512) : ∀ x ∈ lotN b on n, x < 2 ^ 512 := by
 intro x hx
 obtain ⟨k, hk⟩ := List.getElem?_of_mem hx
 have hkn : k <= n := by
  have := (List.getElem?_eq_some_iff.mp hk).1
  unfold lotN at this
  rw [yb] at this
  omega
 unfold lotN at hk
 rw [Gb _ hkn] at hk
 rw [<- Option.some.inj hk]
 have h1 := Nat.mul_le_mul (Xa on k) (Xa (b - on) (n - k))
 rw [<- Nat.pow_add, show on + (b - on) = b by omega] at h1
 exact Nat.lt_of_le_of_lt h1 (Nat.pow_lt_pow_right (by decide) hb)
theorem zu (b on n : Nat) : (lotN b on n).length = n + 1 := yb _ _
end BR
namespace BL
open PySem PySem.Spec PyProof.Rows L2 BR
def spWt : Sp := fun vs H Q _ => ∃ (le wa : Addr) (few had : Nat) (bs : List Bool) (W : List Nat), vs = [.ref le, .int few, .int had, .ref wa] /\ H le = some (.lst (bs.map V.bl)) /\ H wa = some (lstN W) /\ bs.length < 512 /\ few <= 500 /\ had + few < W.length /\ (∀ x ∈ W, x < 2 ^ 60000) /\ ∀ H', Same H H' -> Q (.int (wtN bs few had W : Nat)) H'
theorem Sm {le wa : Addr} {few had : Nat} {bs : List Bool} {W : List Nat} {H : Hp} {Q : VK} {E : XK} (h1 : H le = some (.lst (bs.map V.bl))) (h2 : H wa = some (lstN W)) (h3 : bs.length < 512) (h4 : few <= 500) (h5 : had + few < W.length) (h6 : ∀ x ∈ W, x < 2 ^ 60000) (q : ∀ H', Same H H' -> Q (.int (wtN bs few had W : Nat)) H') : spWt [.ref le, .int few, .int had, .ref wa] H Q E := ⟨le, wa, few, had, bs, W, rfl, h1, h2, h3, h4, h5, h6, q⟩
def spWtA : Sp := fun vs H Q _ => ∃ (m pa wa : Addr) (bs : List Bool) (pl W : List Nat), vs = [.ref m, .ref pa, .ref wa] /\ H m = some (.lst (bs.map V.bl)) /\ H pa = some (tupN pl) /\ H wa = some (lstN W) /\ bs.length < 512 /\ pl.length <= 500 /\ W.length = pl.length + 1 /\ (∀ x ∈ W, x < 2 ^ 60000) /\ ∀ H', Same H H' -> Q (.int ((waS bs pl W bs.length).1 : Nat)) H'
theorem Rv {m pa wa : Addr} {bs : List Bool} {pl W : List Nat} {H : Hp} {Q : VK} {E : XK} (h1 : H m = some (.lst (bs.map V.bl))) (h0 : H pa = some (tupN pl)) (h2 : H wa = some (lstN W)) (h3 : bs.length < 512) (h4 : pl.length <= 500) (h5 : W.length = pl.length + 1) (h6 : ∀ x ∈ W, x < 2 ^ 60000) (q : ∀ H', Same H H' -> Q (.int ((waS bs pl W bs.length).1 : Nat)) H') : spWtA [.ref m, .ref pa, .ref wa] H Q E := ⟨m, pa, wa, bs, pl, W, rfl, h1, h0, h2, h3, h4, h5, h6, q⟩
theorem getB {bs : List Bool} {i : Nat} {v : V} (h : (bs.map V.bl)[i]? = some v) : ∃ b, bs[i]? = some b /\ v = .bl b := by
 rw [List.getElem?_map] at h
 cases q : bs[i]? with
 | none => rw [q] at h; cases h
 | some b => rw [q] at h; exact ⟨b, rfl, (Option.some.inj h).symm⟩
theorem xf {xs : List V} {i : Nat} (h : i <= xs.length) : cutV xs (some (i : Int)) none = xs.drop i := by
 unfold cutV
 have e1 : HT.sIx xs.length 0 (some (i : Int)) = i := by
  unfold HT.sIx
  simp only
  split <;> omega
 have e2 : HT.sIx xs.length xs.length none = xs.length := rfl
 rw [e1, e2]
 exact List.take_of_length_le (by rw [List.length_drop]; exact Nat.le_refl _)
def ahd (c : Nat) (F : Nat -> Bool) (l : List Nat) (r : Rn) (x : Nat) (w : List Nat) : Nat := match und c F l r with
 | some z => x * w.getD (fr F z) 0
 | none => (waS ((pool c l r).map F) (pkL (List.range (pool c l r).length) r.n x) w (pool c l r).length).1
theorem zt {c : Nat} {F : Nat -> Bool} {l z : List Nat} {r : Rn} {x : Nat} {w : List Nat} (h : und c F l r = some z) : ahd c F l r x w = x * w.getD (fr F z) 0 := by unfold ahd; rw [h]
theorem vo {c : Nat} {F : Nat -> Bool} {l : List Nat} {r : Rn} {x : Nat} {w : List Nat} (h : und c F l r = none) : ahd c F l r x w = (waS ((pool c l r).map F) (pkL (List.range (pool c l r).length) r.n x) w (pool c l r).length).1 := by unfold ahd; rw [h]
def ahJ (c f : Nat) (F : Nat -> Bool) (rs : List Rn) (N j : Nat) : Nat := match rs[j]? with
 | some r => ahd c F (plB c F (List.range c) rs N j) r ((Uc (drs c c rs) N).getD j 0) ((wths c f rs).getD j [])
 | none => 0
theorem ahJ_at {c f : Nat} {F : Nat -> Bool} {rs : List Rn} {N j x : Nat} {r : Rn} {w : List Nat} (h1 : rs[j]? = some r) (h2 : (Uc (drs c c rs) N)[j]? = some x) (h3 : (wths c f rs)[j]? = some w) : ahJ c f F rs N j = ahd c F (plB c F (List.range c) rs N j) r x w := by
 unfold ahJ
 rw [h1, getD_some h2, List.getD_eq_getElem?_getD, h3]
 rfl
def ahT (c f : Nat) (F : Nat -> Bool) (rs : List Rn) (N i : Nat) : Nat := sm i fun j => ahJ c f F rs N j
def Zp : Sp := fun vs H Q _ => ∃ (g : Nat -> V) (fo fr' a : Addr) (c : Nat) (fv : List V) (ps : List Addr) (rs : List Rn) (N : Nat), vs = [.ref fo, .ref fr', .ref a, .int N] /\ Nam g c /\ H fo = some (lstG g (List.range c)) /\ H fr' = some (.lst fv) /\ fv.all Ob = true /\ CR H a ps c rs /\ Qa c rs = 1 /\ N < allD c rs /\
 ∀ (h : Nat) (t : Addr) (H' : Hp), Ec (List.range c) (plA c (fun a => inV (g a) fv) (List.range c) rs N) = [h] -> H t = none -> Same H H' -> H' t = some (.tup [.bl (inV (g h) fv), .int (if inV (g h) fv = true then ((ahT c (fr (fun a => inV (g a) fv) (List.range c)) (fun a => inV (g a) fv) rs N rs.length : Nat) : Int) else (N : Int) - ((ahT c (fr (fun a => inV (g a) fv) (List.range c)) (fun a => inV (g a) fv) rs N rs.length : Nat) : Int))]) -> Q (.ref t) H'
theorem Yp {g : Nat -> V} {fo fr' a : Addr} {c : Nat} {fv : List V} {ps : List Addr} {rs : List Rn} {N : Nat} {H : Hp} {Q : VK} {E : XK} (NM : Nam g c) (h1 : H fo = some (lstG g (List.range c))) (h2 : H fr' = some (.lst fv)) (hfl : fv.all Ob = true) (R : CR H a ps c rs) (hw : Qa c rs = 1) (hN : N < allD c rs)
 (q : ∀ (h : Nat) (t : Addr) (H' : Hp), Ec (List.range c) (plA c (fun a => inV (g a) fv) (List.range c) rs N) = [h] -> H t = none -> Same H H' -> H' t = some (.tup [.bl (inV (g h) fv), .int (if inV (g h) fv = true then ((ahT c (fr (fun a => inV (g a) fv) (List.range c)) (fun a => inV (g a) fv) rs N rs.length : Nat) : Int) else (N : Int) - ((ahT c (fr (fun a => inV (g a) fv) (List.range c)) (fun a => inV (g a) fv) rs N rs.length : Nat) : Int))]) -> Q (.ref t) H') : Zp [.ref fo, .ref fr', .ref a, .int N] H Q E := ⟨g, fo, fr', a, c, fv, ps, rs, N, rfl, NM, h1, h2, hfl, R, hw, hN, q⟩
theorem Bs (F : Nat -> Bool) (c : Nat) : mks F c = .lst (((List.range c).map F).map V.bl) := by unfold mks; rw [List.map_map]; rfl
theorem Bg (F : Nat -> Bool) (l : List Nat) : (l.map F).countP (· == true) = fr F l := by
 unfold fr
 rw [List.countP_map]
 congr 1
 funext a
 show (F a == true) = F a
 cases F a <;> rfl
theorem Ar {c : Nat} {F : Nat -> Bool} {rs : List Rn} {l : List Nat} {N : Nat} : plB c F l rs N rs.length = Ec l (plA c F l rs N) := by
 unfold plB
 rw [List.take_of_length_le (by rw [Nf]; exact Nat.le_refl _)]
theorem Et {c f : Nat} (hf : f <= c) (c1 : 1 <= c) (hc : c < 512) {rs : List Rn} (ft : FitR c c rs) (ln : rs.length <= 100) {i : Nat} {w : List Nat} (h : (wths c f rs)[i]? = some w) : ∀ x ∈ w, x < 2 ^ 60000 := by
 have hi : i < rs.length := by have := (List.getElem?_eq_some_iff.mp h).1; rw [cf] at this; exact this
 rw [ze (b := c) hi] at h
 have e := Option.some.inj h
 intro x hx
 rw [<- e] at hx
 have ft2 : FitR c (Qa c (rs.take (i + 1))) (rs.drop (i + 1)) := (FitR.app.mp (by rw [List.take_append_drop]; exact ft)).2
 have h1 := xo hf ft2 x hx
 have h2 := Vb (b := 512) (drs c (Qa c (rs.take (i + 1))) (rs.drop (i + 1))) (qd ft2 (zb (ft.take (i + 1)) c1 (Nat.le_refl _)).2 hc)
 rw [wb, List.length_drop] at h2
 exact Nat.lt_of_le_of_lt h1 (Nat.lt_of_lt_of_le h2 (Nat.pow_le_pow_right (by decide) (by omega)))
theorem ur {c : Nat} {l : List Nat} (h : ∀ a ∈ l, a < c) : ∀ {r : Rn}, ∀ a ∈ pool c l r, a < c
 | .lot _, a, ha => h a ha
 | .vote _ _ .council, a, ha => List.mem_range.mp ha
 | .vote _ _ .bench, a, ha => h a ha
 | .vote _ _ .stay, a, ha => h a ha
end BL
namespace BR
open MB
end BR
namespace BL
open PySem PySem.Spec PyProof.Rows L2 BR
end BL
namespace BR
open MB
theorem ie (F : Nat -> Bool) (a : Nat) (l : List Nat) : fr F (a :: l) = (F a).toNat + fr F l := by
 unfold fr
 rw [List.countP_cons]
 cases F a <;> simp <;> omega
theorem Ru (F : Nat -> Bool) (q : List Nat) (n h : Nat) (W : List Nat) : wtN (q.map F) n h W = sm (ch q.length n) fun y => W.getD (h + fr F (pkL q n y)) 0 := by
 unfold wtN
 rw [List.length_map, BL.Bg]
 by_cases hn : n <= q.length
 . exact (An hn (fun k => W.getD (h + k) 0)).symm
 . rw [Od (by omega)]
   show _ = 0
   have z : ∀ t, t < n + 1 -> (lotN q.length (fr F q) n).getD t 0 * W.getD (h + t) 0 = 0 := fun t ht => by
    have e : (lotN q.length (fr F q) n).getD t 0 = 0 := by
     unfold lotN
     rw [getD_some (Gb _ (by omega))]
     rcases Nat.lt_or_ge (fr F q) t with y | y
     . rw [Od y, Nat.zero_mul]
     . have := We F q
       rw [Od (show q.length - fr F q < n - t by omega), Nat.mul_zero]
    rw [e, Nat.zero_mul]
   rw [Oa z, Pg]
def waR (F : Nat -> Bool) (W : List Nat) : List Nat -> Nat -> Nat -> Nat -> Nat
 | _, 0, _, _ => 0
 | [], _ + 1, _, _ => 0
 | a :: q, n + 1, h, x => if x < ch q.length n then waR F W q n (h + (F a).toNat) x else wtN (q.map F) n (h + (F a).toNat) W + waR F W q (n + 1) h (x - ch q.length n)
theorem Ci (F : Nat -> Bool) (W q : List Nat) (h x : Nat) : waR F W q 0 h x = 0 := by cases q <;> rfl
theorem Ov (F : Nat -> Bool) (W : List Nat) (n h x : Nat) : waR F W [] n h x = 0 := by cases n <;> rfl
theorem zp (F : Nat -> Bool) (W : List Nat) : ∀ (q : List Nat) (n h x : Nat), x < ch q.length n -> waR F W q n h x = sm x fun y => W.getD (h + fr F (pkL q n y)) 0
 | q, 0, h, x, hx => by
  rw [Ua] at hx
  rw [Ci, show x = 0 by omega]
  rfl
 | [], n + 1, h, x, hx => by rw [List.length_nil, Rj] at hx; omega
 | a :: q, n + 1, h, x, hx => by
  rw [List.length_cons, Vc] at hx
  show (if x < ch q.length n then waR F W q n (h + (F a).toNat) x else wtN (q.map F) n (h + (F a).toNat) W + waR F W q (n + 1) h (x - ch q.length n)) = _
  by_cases y : x < ch q.length n
  . rw [if_pos y, zp F W q n _ x y]
    refine Oa fun i hi => ?_
    rw [Mb, if_pos (by omega), ie, Nat.add_assoc]
  . rw [if_neg y, Ru, zp F W q (n + 1) h (x - ch q.length n) (by omega)]
    conv => rhs; rw [show x = ch q.length n + (x - ch q.length n) by omega, gf]
    congr 1
    . refine Oa fun i hi => ?_
      rw [Mb, if_pos hi, ie, Nat.add_assoc]
    . refine Oa fun i hi => ?_
      rw [Mb, if_neg (by omega), Nat.add_sub_cancel_left]
theorem vp (F : Nat -> Bool) (W q : List Nat) (n x : Nat) (hx : x < ch q.length n) : ∀ i, i <= q.length -> ∃ xi, (waS (q.map F) (pkL (List.range q.length) n x) W i).2.2 <= n /\ (pkL (List.range q.length) n x).drop (waS (q.map F) (pkL (List.range q.length) n x) W i).2.2 = pkL (List.range' i (q.length - i)) (n - (waS (q.map F) (pkL (List.range q.length) n x) W i).2.2) xi /\ xi < ch (q.length - i) (n - (waS (q.map F) (pkL (List.range q.length) n x) W i).2.2) /\ (waS (q.map F) (pkL (List.range q.length) n x) W i).1 + waR F W (q.drop i) (n - (waS (q.map F) (pkL (List.range q.length) n x) W i).2.2) (waS (q.map F) (pkL (List.range q.length) n x) W i).2.1 xi = waR F W q n 0 x
 | 0, _ => by
  refine ⟨x, Nat.zero_le _, ?_, hx, ?_⟩
  . show (pkL (List.range q.length) n x).drop 0 = pkL (List.range' 0 q.length) n x
    rw [List.drop_zero, List.range_eq_range']
  . show 0 + waR F W (q.drop 0) n 0 x = _
    rw [Nat.zero_add, List.drop_zero]
 | i + 1, hi => by
  have nle : n <= q.length := by
   rcases Nat.lt_or_ge q.length n with y | y
   . rw [Od y] at hx; omega
   . exact y
  have pln := fc (List.range q.length) n x (by rw [List.length_range]; exact nle) (by rw [List.length_range]; exact hx)
  obtain ⟨xi, p1, p2, p3, p4⟩ := vp F W q n x hx i (by omega)
  have hil : i < q.length := by omega
  have eq1 : q.drop i = q[i] :: q.drop (i + 1) := List.drop_eq_getElem_cons hil
  have er : List.range' i (q.length - i) = i :: List.range' (i + 1) (q.length - (i + 1)) := by
   rw [show q.length - i = (q.length - (i + 1)) + 1 by omega, List.range'_succ]
  have etk : tkB (q.map F) i = (F q[i]).toNat := by
   unfold tkB
   rw [List.getD_eq_getElem?_getD, List.getElem?_map, List.getElem?_eq_getElem hil]
   rfl
  have edr : (q.map F).drop (i + 1) = (q.drop (i + 1)).map F := by rw [List.map_drop]
  have ld : (q.drop (i + 1)).length = q.length - (i + 1) := List.length_drop
  have lr : (List.range' (i + 1) (q.length - (i + 1))).length = q.length - (i + 1) := List.length_range'
  generalize hpl : pkL (List.range q.length) n x = pl at *
  by_cases hp : (waS (q.map F) pl W i).2.2 < pl.length
  . obtain ⟨m, hm⟩ : ∃ m, n - (waS (q.map F) pl W i).2.2 = m + 1 := ⟨n - (waS (q.map F) pl W i).2.2 - 1, by omega⟩
    rw [hm, er, Mb, lr] at p2
    rw [hm, eq1] at p4
    rw [hm, show q.length - i = (q.length - (i + 1)) + 1 by omega, Vc] at p3
    have w4 : waR F W (q[i] :: q.drop (i + 1)) (m + 1) (waS (q.map F) pl W i).2.1 xi = if xi < ch (q.drop (i + 1)).length m then waR F W (q.drop (i + 1)) m ((waS (q.map F) pl W i).2.1 + (F q[i]).toNat) xi else wtN ((q.drop (i + 1)).map F) m ((waS (q.map F) pl W i).2.1 + (F q[i]).toNat) W + waR F W (q.drop (i + 1)) (m + 1) (waS (q.map F) pl W i).2.1 (xi - ch (q.drop (i + 1)).length m) := rfl
    rw [w4, ld] at p4
    by_cases y : xi < ch (q.length - (i + 1)) m
    . rw [if_pos y] at p2 p4
      have eg : pl.getD (waS (q.map F) pl W i).2.2 0 = i := by
       rw [List.getD_eq_getElem?_getD]
       have : pl[(waS (q.map F) pl W i).2.2]? = (pl.drop (waS (q.map F) pl W i).2.2)[0]? := by rw [List.getElem?_drop, Nat.add_zero]
       rw [this, p2]
       rfl
      have es := Bi (W := W) hp eg
      rw [es, etk]
      refine ⟨xi, by simp only; omega, ?_, ?_, ?_⟩
      . simp only
        rw [<- List.drop_drop, p2, show n - ((waS (q.map F) pl W i).2.2 + 1) = m by omega]
        rfl
      . simp only
        rw [show n - ((waS (q.map F) pl W i).2.2 + 1) = m by omega]
        exact y
      . simp only
        rw [show n - ((waS (q.map F) pl W i).2.2 + 1) = m by omega]
        exact p4
    . rw [if_neg y] at p2 p4
      have eg : ¬ pl.getD (waS (q.map F) pl W i).2.2 0 = i := by
       rw [List.getD_eq_getElem?_getD]
       have e0 : pl[(waS (q.map F) pl W i).2.2]? = (pl.drop (waS (q.map F) pl W i).2.2)[0]? := by rw [List.getElem?_drop, Nat.add_zero]
       rw [List.getElem?_eq_getElem hp] at e0
       have e1 : pl[(waS (q.map F) pl W i).2.2] ∈ pl.drop (waS (q.map F) pl W i).2.2 := List.mem_of_getElem? e0.symm
       rw [p2] at e1
       have e2 := List.mem_range'_1.mp ((Dc _ _ _).subset e1)
       rw [List.getElem?_eq_getElem hp]
       show ¬ pl[(waS (q.map F) pl W i).2.2] = i
       omega
      have es := Ai (W := W) hp eg
      rw [es, etk, edr, show pl.length - (waS (q.map F) pl W i).2.2 - 1 = m by omega]
      refine ⟨xi - ch (q.length - (i + 1)) m, p1, ?_, ?_, ?_⟩
      . simp only
        rw [p2, hm]
      . simp only
        rw [hm]
        omega
      . simp only
        rw [hm, Nat.add_assoc]
        exact p4
  . rw [xp hp]
    have e0 : n - (waS (q.map F) pl W i).2.2 = 0 := by omega
    rw [e0] at p2 p3 p4
    refine ⟨0, p1, ?_, ?_, ?_⟩
    . rw [p2, e0, Ae, Ae]
    . rw [e0, Ua]; decide
    . rw [e0, Ci]; rw [Ci] at p4; exact p4
theorem waS_eq (F : Nat -> Bool) (W q : List Nat) (n x : Nat) (hx : x < ch q.length n) : (waS (q.map F) (pkL (List.range q.length) n x) W q.length).1 = sm x fun y => W.getD (fr F (pkL q n y)) 0 := by
 obtain ⟨xi, _, _, _, p4⟩ := vp F W q n x hx q.length (Nat.le_refl _)
 rw [List.drop_length, Ov, Nat.add_zero] at p4
 rw [p4, zp F W q n 0 x hx]
 exact Oa fun i _ => by rw [Nat.zero_add]
theorem ahd_eq {c : Nat} {F : Nat -> Bool} {l : List Nat} {r : Rn} {x : Nat} {w : List Nat} (hx : x < dr c l.length r) : BL.ahd c F l r x w = sm x fun y => w.getD (fr F (pl c F l r y)) 0 := by
 cases u : BL.und c F l r with
 | some z =>
  rw [BL.zt u]
  have e : ∀ y, pl c F l r y = z := fun y => BL.xr u
  rw [Oa (g := fun _ => w.getD (fr F z) 0) fun y _ => by rw [e y], rg]
 | none =>
  have ed := (BL.Mf (x := x) u).2
  rw [BL.vo u, waS_eq F w _ r.n x (by rw [<- ed]; exact hx)]
  exact Oa fun y _ => by rw [(BL.Mf (x := y) u).1]
def gd (c : Nat) (F : Nat -> Bool) (l : List Nat) (rs : List Rn) (N : Nat) : Nat := fr F (Ec l (plA c F l rs N))
def cg (c : Nat) (F : Nat -> Bool) (l : List Nat) (rs : List Rn) (N : Nat) : Nat := sm N fun M => gd c F l rs M
theorem Lj {c : Nat} {F : Nat -> Bool} {l : List Nat} {r : Rn} {rs : List Rn} {x y : Nat} (ft : FitR c l.length (r :: rs)) (hb : l.length <= c) (hx : x < dr c l.length r) (hy : y < Ba (drs c r.n rs)) : gd c F l (r :: rs) (x * Ba (drs c r.n rs) + y) = gd c F (pl c F l r x) rs y := by
 have P0 : 0 < Ba (drs c r.n rs) := by omega
 have e1 : (x * Ba (drs c r.n rs) + y) / Ba (drs c r.n rs) % dr c l.length r = x := by
  rw [Nat.add_comm, Nat.add_mul_div_right _ _ P0, Nat.div_eq_of_lt hy, Nat.zero_add, Nat.mod_eq_of_lt hx]
 show fr F (Ec l (pl c F l r ((x * Ba (drs c r.n rs) + y) / Ba (drs c r.n rs) % dr c l.length r) :: plA c F (pl c F l r ((x * Ba (drs c r.n rs) + y) / Ba (drs c r.n rs) % dr c l.length r)) rs (x * Ba (drs c r.n rs) + y))) = fr F (Ec (pl c F l r x) (plA c F (pl c F l r x) rs y))
 rw [pd, e1, Nat.add_comm, eh rs _ y x r.n (ic ft.1 hx) ft.2 (ft.1.le hb)]
theorem Dx {c : Nat} {F : Nat -> Bool} {l : List Nat} {r : Rn} {rs : List Rn} {x y : Nat} (ft : FitR c l.length (r :: rs)) (hb : l.length <= c) (hw : Qa r.n rs = 1) (hx : x < dr c l.length r) (hy : y <= Ba (drs c r.n rs)) : cg c F l (r :: rs) (x * Ba (drs c r.n rs) + y) = (sm x fun z => (wB c (fr F (List.range c)) r.n rs).getD (fr F (pl c F l r z)) 0) + cg c F (pl c F l r x) rs y := by
 unfold cg
 rw [gf, ug]
 congr 1
 . refine Oa fun z hz => ?_
   rw [<- Ah rs (pl c F l r z) r.n (ic ft.1 (by omega)) ft.2 (ft.1.le hb) hw]
   exact Oa fun M hM => Lj ft hb (by omega) hM
 . exact Oa fun M hM => Lj ft hb hx (by omega)
def ahG (c f : Nat) (F : Nat -> Bool) (l : List Nat) (b : Nat) (rs : List Rn) (N j : Nat) : Nat := match rs[j]? with
 | some r => BL.ahd c F (plB c F l rs N j) r ((Uc (drs c b rs) N).getD j 0) ((wths c f rs).getD j [])
 | none => 0
theorem ah_cg {c : Nat} {F : Nat -> Bool} : ∀ (rs : List Rn) (l : List Nat) (b N : Nat), l.length = b -> FitR c b rs -> b <= c -> Qa b rs = 1 ->
 (sm rs.length fun j => ahG c (fr F (List.range c)) F l b rs N j) = cg c F l rs (N % Ba (drs c b rs))
 | [], l, b, N, _, _, _, _ => by
  show 0 = cg c F l [] (N % 1)
  rw [Nat.mod_one]
  rfl
 | r :: rs, l, b, N, hl, ft, hb, hw => by
  subst hl
  have m0 := Md hb ft.1
  have hx := Nat.mod_lt (N / Ba (drs c r.n rs)) m0
  have P0 : 0 < Ba (drs c r.n rs) := Yd _ (Rf ft.2 (ft.1.le hb))
  rw [List.length_cons, yn]
  have e0 : ahG c (fr F (List.range c)) F l l.length (r :: rs) N 0 = BL.ahd c F l r (N / Ba (drs c r.n rs) % dr c l.length r) (wB c (fr F (List.range c)) r.n rs) := rfl
  have e1 : ∀ j, j < rs.length -> ahG c (fr F (List.range c)) F l l.length (r :: rs) N (j + 1) = ahG c (fr F (List.range c)) F (pl c F l r (N / Ba (drs c r.n rs) % dr c l.length r)) r.n rs N j := fun j _ => by
   unfold ahG
   have e : plB c F l (r :: rs) N (j + 1) = plB c F (pl c F l r (N / Ba (drs c r.n rs) % dr c l.length r)) rs N j := pd _ _ _
   rw [e]
   rfl
  rw [e0, Oa e1, ah_cg rs _ r.n N (ic ft.1 hx) ft.2 (ft.1.le hb) hw, ahd_eq hx]
  show _ = cg c F l (r :: rs) (N % (dr c l.length r * Ba (drs c r.n rs)))
  rw [Nat.mul_comm (dr c l.length r), Nat.mod_mul, Nat.add_comm (N % Ba (drs c r.n rs)), Nat.mul_comm (Ba (drs c r.n rs)), Dx ft hb hw hx (Nat.le_of_lt (Nat.mod_lt _ P0))]
theorem ahT_cg {c : Nat} {F : Nat -> Bool} {rs : List Rn} {N : Nat} (ft : FitR c c rs) (hw : Qa c rs = 1) (hN : N < allD c rs) : BL.ahT c (fr F (List.range c)) F rs N rs.length = cg c F (List.range c) rs N := by
 have h := ah_cg (F := F) rs (List.range c) c N List.length_range ft (Nat.le_refl _) hw
 rw [show N % Ba (drs c c rs) = N from Nat.mod_eq_of_lt hN] at h
 exact h
end BR
namespace BR
open MB
theorem cm (q : List Nat) (i : Nat) : (List.range' i (q.length - i)).map (fun j => q.getD j 0) = q.drop i := by
 apply List.ext_getElem?
 intro k
 rw [List.getElem?_map, List.getElem?_drop]
 by_cases h : k < q.length - i
 . rw [List.getElem?_eq_getElem (by rw [List.length_range']; exact h), List.getElem?_eq_getElem (by omega)]
   simp only [List.getElem_range', Option.map_some, Nat.one_mul]
   rw [List.getD_eq_getElem?_getD, List.getElem?_eq_getElem (by omega)]
   rfl
 . rw [List.getElem?_eq_none (by rw [List.length_range']; omega), List.getElem?_eq_none (by omega)]
   rfl
theorem Kk (F : Nat -> Bool) (a b : List Nat) : fr F (a ++ b) = fr F a + fr F b := List.countP_append
def gW (F : Nat -> Bool) (W q : List Nat) (n y : Nat) : Nat := W.getD (fr F (pkL q n y)) 0
structure PW (F : Nat -> Bool) (W q : List Nat) (n k i : Nat) (pl : List Nat) (X kk : Nat) : Prop where
 len : pl.length <= n
 nx : ∀ y, y < ch (q.length - i) (n - pl.length) -> pkL (List.range q.length) n (X + y) = pl ++ pkL (List.range' i (q.length - i)) (n - pl.length) y
 hi : X + ch (q.length - i) (n - pl.length) <= ch q.length n
 lo : k = sm X (gW F W q n) + kk
 kb : kk < sm (ch (q.length - i) (n - pl.length)) fun y => gW F W q n (X + y)
section
variable {F : Nat -> Bool} {W q : List Nat} {n k i : Nat} {pl : List Nat} {X kk : Nat}
theorem PW.init (h : k < sm (ch q.length n) (gW F W q n)) : PW F W q n k 0 [] 0 k :=
 ⟨Nat.zero_le _, fun y _ => by rw [Nat.zero_add, List.nil_append, List.range_eq_range']; rfl, by simp, by simp [sm], by
  simp only [Nat.sub_zero, List.length_nil, Nat.zero_add]
  exact h⟩
theorem PW.fr (h : PW F W q n k i pl X kk) {y : Nat} (hy : y < ch (q.length - i) (n - pl.length)) : BR.fr F (pkL q n (X + y)) = BR.fr F (pl.map fun j => q.getD j 0) + BR.fr F (pkL (q.drop i) (n - pl.length) y) := by
 rw [<- Be q n (X + y), h.nx y hy, List.map_append, Kk, <- tj, cm]
theorem PW.Av (h : PW F W q n k i pl X kk) (hi : i < q.length) (hp : pl.length < n) : wtN ((q.map F).drop (i + 1)) (n - pl.length - 1) (BR.fr F (pl.map fun j => q.getD j 0) + tkB (q.map F) i) W = sm (ch (q.length - (i + 1)) (n - pl.length - 1)) fun y => gW F W q n (X + y) := by
 have etk : tkB (q.map F) i = (F q[i]).toNat := by
  unfold tkB
  rw [List.getD_eq_getElem?_getD, List.getElem?_map, List.getElem?_eq_getElem hi]
  rfl
 rw [<- List.map_drop, Ru, List.length_drop, etk]
 refine Oa fun y hy => ?_
 obtain ⟨m, hm⟩ : ∃ m, n - pl.length = m + 1 := ⟨n - pl.length - 1, by omega⟩
 have hy' : y < ch (q.length - i) (n - pl.length) := by
  rw [hm, show q.length - i = (q.length - (i + 1)) + 1 by omega, Vc]
  rw [show n - pl.length - 1 = m by omega] at hy
  omega
 unfold gW
 rw [h.fr hy', hm, List.drop_eq_getElem_cons hi, Mb, List.length_drop]
 rw [show n - pl.length - 1 = m by omega] at hy
 rw [show m + 1 - 1 = m from rfl, if_pos hy, ie, Nat.add_assoc]
theorem PW.out (h : PW F W q n k i pl X kk) (hi : i < q.length) (hp : ¬ pl.length < n) : PW F W q n k (i + 1) pl X kk := by
 have e : n - pl.length = 0 := by omega
 have h2 := h.nx; have h3 := h.hi; have h5 := h.kb
 rw [e, Ua] at h2 h3 h5
 refine ⟨h.len, ?_, ?_, h.lo, ?_⟩
 . rw [e, Ua]
   intro y hy
   rw [h2 y hy, Ae, Ae]
 . rw [e, Ua]; exact h3
 . rw [e, Ua]; exact h5
theorem PW.take (h : PW F W q n k i pl X kk) (hi : i < q.length) (hp : pl.length < n) (hk : kk < sm (ch (q.length - (i + 1)) (n - pl.length - 1)) fun y => gW F W q n (X + y)) : PW F W q n k (i + 1) (pl ++ [i]) X kk := by
 obtain ⟨m, hm⟩ : ∃ m, n - pl.length = m + 1 := ⟨n - pl.length - 1, by omega⟩
 have ll : (pl ++ [i]).length = pl.length + 1 := by simp
 have em : n - (pl ++ [i]).length = m := by omega
 have em2 : n - pl.length - 1 = m := by omega
 rw [em2] at hk
 have h2 := h.nx; have h3 := h.hi
 rw [hm, show q.length - i = (q.length - (i + 1)) + 1 by omega, Vc] at h2 h3
 refine ⟨by omega, ?_, ?_, h.lo, ?_⟩
 . rw [em]
   intro y hy
   rw [h2 y (by omega), List.range'_succ, Mb, List.length_range', if_pos hy, List.append_assoc]
   rfl
 . rw [em]; omega
 . rw [em]; exact hk
theorem PW.skip (h : PW F W q n k i pl X kk) (hi : i < q.length) (hp : pl.length < n) (hk : ¬ kk < sm (ch (q.length - (i + 1)) (n - pl.length - 1)) fun y => gW F W q n (X + y)) : PW F W q n k (i + 1) pl (X + ch (q.length - (i + 1)) (n - pl.length - 1)) (kk - sm (ch (q.length - (i + 1)) (n - pl.length - 1)) fun y => gW F W q n (X + y)) := by
 obtain ⟨m, hm⟩ : ∃ m, n - pl.length = m + 1 := ⟨n - pl.length - 1, by omega⟩
 have em2 : n - pl.length - 1 = m := by omega
 rw [em2] at hk ⊢
 have h2 := h.nx; have h3 := h.hi; have h5 := h.kb; have h4 := h.lo
 rw [hm, show q.length - i = (q.length - (i + 1)) + 1 by omega, Vc] at h2 h3 h5
 refine ⟨h.len, ?_, ?_, ?_, ?_⟩
 . rw [hm]
   intro y hy
   rw [Nat.add_assoc, h2 _ (by omega), List.range'_succ, Mb, List.length_range', if_neg (by omega), Nat.add_sub_cancel_left]
 . rw [hm]; omega
 . rw [gf]; omega
 . rw [hm]
   rw [gf] at h5
   have e : (sm (ch (q.length - (i + 1)) (m + 1)) fun y => gW F W q n (X + ch (q.length - (i + 1)) m + y)) = sm (ch (q.length - (i + 1)) (m + 1)) fun i_1 => gW F W q n (X + (ch (q.length - (i + 1)) m + i_1)) := Oa fun y _ => by rw [Nat.add_assoc]
   rw [e]
   omega
theorem PW.last (h : PW F W q n k q.length pl X kk) : X < ch q.length n /\ pl = pkL (List.range q.length) n X /\ sm X (gW F W q n) <= k /\ kk = k - sm X (gW F W q n) /\ kk < gW F W q n X := by
 have h2 := h.nx; have h3 := h.hi; have h5 := h.kb; have h4 := h.lo; have h1 := h.len
 rw [Nat.sub_self] at h2 h3 h5
 by_cases e : n - pl.length = 0
 . rw [e, Ua] at h2 h3 h5
   have z := h2 0 (by decide)
   rw [Nat.add_zero, Ae, List.append_nil] at z
   have h6 : kk < 0 + gW F W q n (X + 0) := h5
   rw [Nat.add_zero, Nat.zero_add] at h6
   exact ⟨by omega, z.symm, by omega, by omega, h6⟩
 . obtain ⟨m, hm⟩ : ∃ m, n - pl.length = m + 1 := ⟨n - pl.length - 1, by omega⟩
   rw [hm, Rj] at h5
   exact absurd h5 (Nat.not_lt_zero _)
end
end BR
namespace BL
open PySem PySem.Spec PyProof.Rows L2 BR
def cq : Sp := fun vs H Q _ => ∃ (m wa : Addr) (n k : Nat) (F : Nat -> Bool) (q W : List Nat), vs = [.ref m, .int n, .ref wa, .int k] /\ H m = some (.lst ((q.map F).map V.bl)) /\ H wa = some (lstN W) /\ q.length < 512 /\ n <= 500 /\ W.length = n + 1 /\ (∀ x ∈ W, x < 2 ^ 60000) /\ k < sm (MB.ch q.length n) (gW F W q n) /\
 ∀ (t pt : Addr) (H' : Hp) (x : Nat), x < MB.ch q.length n -> sm x (gW F W q n) <= k -> k - sm x (gW F W q n) < gW F W q n x -> H t = none -> Same H H' -> H' pt = some (tupN (pkL (List.range q.length) n x)) -> H' t = some (.tup [.ref pt, .int ((k - sm x (gW F W q n) : Nat) : Int)]) -> Q (.ref t) H'
theorem bq {m wa : Addr} {n k : Nat} {F : Nat -> Bool} {q W : List Nat} {H : Hp} {Q : VK} {E : XK} (h1 : H m = some (.lst ((q.map F).map V.bl))) (h2 : H wa = some (lstN W)) (h3 : q.length < 512) (h4 : n <= 500) (h5 : W.length = n + 1) (h6 : ∀ x ∈ W, x < 2 ^ 60000) (h7 : k < sm (MB.ch q.length n) (gW F W q n))
 (k' : ∀ (t pt : Addr) (H' : Hp) (x : Nat), x < MB.ch q.length n -> sm x (gW F W q n) <= k -> k - sm x (gW F W q n) < gW F W q n x -> H t = none -> Same H H' -> H' pt = some (tupN (pkL (List.range q.length) n x)) -> H' t = some (.tup [.ref pt, .int ((k - sm x (gW F W q n) : Nat) : Int)]) -> Q (.ref t) H') : cq [.ref m, .int n, .ref wa, .int k] H Q E := ⟨m, wa, n, k, F, q, W, rfl, h1, h2, h3, h4, h5, h6, h7, k'⟩
end BL
namespace BR
theorem zi {F : Nat -> Bool} {q pl : List Nat} {i : Nat} : fr F ((pl ++ [i]).map fun j => q.getD j 0) = fr F (pl.map fun j => q.getD j 0) + fr F [q.getD i 0] := by rw [List.map_append, Kk]; rfl
theorem tk_fr {F : Nat -> Bool} {q : List Nat} {i : Nat} (h : i < q.length) : tkB (q.map F) i = fr F [q.getD i 0] := by
 unfold tkB
 rw [List.getD_eq_getElem?_getD, List.getElem?_map, List.getD_eq_getElem?_getD, List.getElem?_eq_getElem h, ie]
 rfl
end BR
namespace BR
open MB
theorem Bf {g : Nat -> Nat} : ∀ {n : Nat}, (∀ i, i < n -> g i <= 1) -> (sm n fun i => 1 - g i) + sm n g = n
 | 0, _ => rfl
 | n + 1, h => by
  have ih := Bf (n := n) fun i hi => h i (by omega)
  have := h n (by omega)
  show (sm n fun i => 1 - g i) + (1 - g n) + (sm n g + g n) = n + 1
  omega
def gx (t : Bool) (c : Nat) (F : Nat -> Bool) (l : List Nat) (rs : List Rn) (N : Nat) : Nat := if t = true then gd c F l rs N else 1 - gd c F l rs N
def cx (t : Bool) (c : Nat) (F : Nat -> Bool) (l : List Nat) (rs : List Rn) (N : Nat) : Nat := sm N fun M => gx t c F l rs M
def wv (t : Bool) (c f b : Nat) (rs : List Rn) (on : Nat) : Nat := if t = true then (wB c f b rs).getD on 0 else Ba (drs c b rs) - (wB c f b rs).getD on 0
theorem gd_le {c : Nat} {F : Nat -> Bool} {l : List Nat} {rs : List Rn} {N : Nat} (ft : FitR c l.length rs) (hb : l.length <= c) (hw : Qa l.length rs = 1) : gd c F l rs N <= 1 := by
 have h := sj (F := F) rs l N l.length rfl ft hb
 rw [hw] at h
 have := We F (Ec l (plA c F l rs N))
 unfold gd
 omega
theorem Nu {t : Bool} {c : Nat} {F : Nat -> Bool} {l : List Nat} {rs : List Rn} (ft : FitR c l.length rs) (hb : l.length <= c) (hw : Qa l.length rs = 1) : cx t c F l rs (Ba (drs c l.length rs)) = wv t c (fr F (List.range c)) l.length rs (fr F l) := by
 have e := Ah (F := F) rs l l.length rfl ft hb hw
 unfold cx gx wv
 cases t with
 | true => simp only [if_true]; exact e
 | false =>
  simp only [Bool.false_eq_true, if_false]
  have h := Bf (n := Ba (drs c l.length rs)) (g := fun M => gd c F l rs M) fun i _ => gd_le ft hb hw
  have e' : sm (Ba (drs c l.length rs)) (fun M => gd c F l rs M) = (wB c (fr F (List.range c)) l.length rs).getD (fr F l) 0 := e
  rw [e'] at h
  omega
theorem Em {t : Bool} {c : Nat} {F : Nat -> Bool} {l : List Nat} {r : Rn} {rs : List Rn} {x y : Nat} (ft : FitR c l.length (r :: rs)) (hb : l.length <= c) (hw : Qa r.n rs = 1) (hx : x < dr c l.length r) (hy : y <= Ba (drs c r.n rs)) : cx t c F l (r :: rs) (x * Ba (drs c r.n rs) + y) = (sm x fun z => wv t c (fr F (List.range c)) r.n rs (fr F (pl c F l r z))) + cx t c F (pl c F l r x) rs y := by
 have gc : ∀ z M, z < dr c l.length r -> M < Ba (drs c r.n rs) -> gx t c F l (r :: rs) (z * Ba (drs c r.n rs) + M) = gx t c F (pl c F l r z) rs M := fun z M hz hM => by unfold gx; rw [Lj ft hb hz hM]
 have h0 : cx t c F l (r :: rs) (x * Ba (drs c r.n rs) + y) = (sm x fun z => sm (Ba (drs c r.n rs)) fun M => gx t c F l (r :: rs) (z * Ba (drs c r.n rs) + M)) + sm y fun M => gx t c F l (r :: rs) (x * Ba (drs c r.n rs) + M) := by
  unfold cx
  rw [gf, ug]
 rw [h0]
 congr 1
 . refine Oa fun z hz => ?_
   have ll := ic (F := F) (x := z) ft.1 (by omega)
   have h := Nu (t := t) (F := F) (l := pl c F l r z) (rs := rs) (by rw [ll]; exact ft.2) (by rw [ll]; exact ft.1.le hb) (by rw [ll]; exact hw)
   rw [ll] at h
   rw [<- h]
   exact Oa fun M hM => gc z M (by omega) hM
 . exact Oa fun M hM => gc x M hx (by omega)
theorem cx_all {t : Bool} {c : Nat} {F : Nat -> Bool} {l : List Nat} {r : Rn} {rs : List Rn} (ft : FitR c l.length (r :: rs)) (hb : l.length <= c) (hw : Qa r.n rs = 1) : cx t c F l (r :: rs) (Ba (drs c l.length (r :: rs))) = sm (dr c l.length r) fun z => wv t c (fr F (List.range c)) r.n rs (fr F (pl c F l r z)) := by
 have m0 := Md hb ft.1
 obtain ⟨d, hd⟩ : ∃ d, dr c l.length r = d + 1 := ⟨dr c l.length r - 1, by omega⟩
 have h := Em (t := t) (F := F) (x := d) (y := Ba (drs c r.n rs)) ft hb hw (by omega) (Nat.le_refl _)
 have ll := ic (F := F) (x := d) ft.1 (by omega)
 have h2 := Nu (t := t) (F := F) (l := pl c F l r d) (rs := rs) (by rw [ll]; exact ft.2) (by rw [ll]; exact ft.1.le hb) (by rw [ll]; exact hw)
 rw [ll] at h2
 rw [h2] at h
 have e : Ba (drs c l.length (r :: rs)) = d * Ba (drs c r.n rs) + Ba (drs c r.n rs) := by
  show dr c l.length r * Ba (drs c r.n rs) = _
  rw [hd, Nat.add_mul, Nat.one_mul]
 rw [e, h, hd]
 rfl
structure NA (t : Bool) (c : Nat) (F : Nat -> Bool) (rs : List Rn) (K i : Nat) (l : List Nat) (M kk : Nat) : Prop where
 le : i <= rs.length
 ll : l.length = Qa c (rs.take i)
 lt : ∀ a ∈ l, a < c
 gx : ∀ y, y < Ba (drs c l.length (rs.drop i)) -> BR.gx t c F (List.range c) rs (M * Ba (drs c l.length (rs.drop i)) + y) = BR.gx t c F l (rs.drop i) y
 cx : ∀ y, y <= Ba (drs c l.length (rs.drop i)) -> BR.cx t c F (List.range c) rs (M * Ba (drs c l.length (rs.drop i)) + y) + kk = K + BR.cx t c F l (rs.drop i) y
 kb : kk < wv t c (fr F (List.range c)) l.length (rs.drop i) (fr F l)
 mb : M * Ba (drs c l.length (rs.drop i)) + Ba (drs c l.length (rs.drop i)) <= allD c rs
section
variable {t : Bool} {c : Nat} {F : Nat -> Bool} {rs : List Rn} {K i : Nat} {l : List Nat} {M kk : Nat}
theorem NA.init (h : K < wv t c (fr F (List.range c)) c rs (fr F (List.range c))) : NA t c F rs K 0 (List.range c) 0 K := by
 have lr : (List.range c).length = c := List.length_range
 refine ⟨Nat.zero_le _, lr, fun a ha => List.mem_range.mp ha, fun y _ => by rw [Nat.zero_mul, Nat.zero_add]; rfl, fun y _ => by rw [Nat.zero_mul, Nat.zero_add, Nat.add_comm]; rfl, by rw [lr]; exact h, ?_⟩
 rw [Nat.zero_mul, Nat.zero_add, lr]
 exact Nat.le_refl _
theorem NA.step (h : NA t c F rs K i l M kk) (ft : FitR c c rs) (c1 : 1 <= c) (hw : Qa c rs = 1) {r : Rn} (hr : rs[i]? = some r) {x : Nat} (hx : x < dr c l.length r) (lo : (sm x fun z => wv t c (fr F (List.range c)) r.n (rs.drop (i + 1)) (fr F (pl c F l r z))) <= kk)
 (hi : kk - (sm x fun z => wv t c (fr F (List.range c)) r.n (rs.drop (i + 1)) (fr F (pl c F l r z))) < wv t c (fr F (List.range c)) r.n (rs.drop (i + 1)) (fr F (pl c F l r x))) :
 NA t c F rs K (i + 1) (pl c F l r x) (M * dr c l.length r + x) (kk - sm x fun z => wv t c (fr F (List.range c)) r.n (rs.drop (i + 1)) (fr F (pl c F l r z))) := by
 have hil : i < rs.length := (List.getElem?_eq_some_iff.mp hr).1
 have ed : rs.drop i = r :: rs.drop (i + 1) := by
  rw [List.drop_eq_getElem_cons hil]
  congr 1
  rw [List.getElem?_eq_getElem hil] at hr
  exact Option.some.inj hr
 have lb := zb (ft.take i) c1 (Nat.le_refl _)
 have ftd : FitR c l.length (rs.drop i) := by rw [h.ll]; exact (FitR.app.mp (by rw [List.take_append_drop]; exact ft)).2
 rw [ed] at ftd
 have hlc : l.length <= c := by rw [h.ll]; exact lb.2
 have hw' : Qa r.n (rs.drop (i + 1)) = 1 := by
  have e2 : rs = rs.take (i + 1) ++ rs.drop (i + 1) := (List.take_append_drop _ _).symm
  have e3 := hw
  rw [e2, qb, Ja hr, Wa] at e3
  exact e3
 have pll := ic (F := F) ftd.1 hx
 have h4 := h.gx; have h5 := h.cx; have h7 := h.mb
 rw [ed] at h4 h5 h7
 have eP : Ba (drs c l.length (r :: rs.drop (i + 1))) = dr c l.length r * Ba (drs c r.n (rs.drop (i + 1))) := rfl
 rw [eP] at h4 h5 h7
 generalize hP : Ba (drs c r.n (rs.drop (i + 1))) = P at *
 have em : ∀ y, (M * dr c l.length r + x) * P + y = M * (dr c l.length r * P) + (x * P + y) := fun y => by rw [Nat.add_mul, Nat.mul_assoc, Nat.add_assoc]
 have xb : x * P + P <= dr c l.length r * P := by
  have : (x + 1) * P <= dr c l.length r * P := Nat.mul_le_mul_right _ hx
  rw [Nat.add_mul, Nat.one_mul] at this
  exact this
 refine ⟨hil, by rw [pll, Ja hr, Wa], fun a ha => BL.yr h.lt a ha, ?_, ?_, by rw [pll]; exact hi, ?_⟩
 . rw [pll, hP]
   intro y hy
   rw [em, h4 _ (by omega)]
   have := Lj (F := F) (x := x) (y := y) ftd hlc hx (by rw [hP]; exact hy)
   rw [hP] at this
   unfold BR.gx
   rw [this]
 . rw [pll, hP]
   intro y hy
   have h6 := h5 (x * P + y) (by omega)
   have := Em (t := t) (F := F) (x := x) (y := y) ftd hlc hw' hx (by rw [hP]; exact hy)
   rw [hP] at this
   rw [this] at h6
   rw [em]
   omega
 . rw [pll, hP, em]
   have := em P
   omega
theorem NA.last (h : NA t c F rs K rs.length l M kk) (ft : FitR c c rs) (hw : Qa c rs = 1) : M < allD c rs /\ BR.gx t c F (List.range c) rs M = 1 /\ BR.cx t c F (List.range c) rs M = K := by
 have h2 := h.ll; have h4 := h.gx; have h5 := h.cx; have h6 := h.kb; have h7 := h.mb
 rw [List.take_length, hw] at h2
 rw [List.drop_length] at h4 h5 h6 h7
 have e1 : Ba (drs c l.length []) = 1 := rfl
 rw [e1, Nat.mul_one] at h4 h5 h7
 have g0 := h4 0 (by decide)
 have c0 := h5 0 (by decide)
 rw [Nat.add_zero] at g0 c0
 have z0 : BR.cx t c F l [] 0 = 0 := rfl
 have f1 := We F l
 have gl : gd c F l [] 0 = fr F l := rfl
 have wl : (wB c (fr F (List.range c)) l.length []).getD (fr F l) 0 = fr F l := by
  have : fr F l = 0 \/ fr F l = 1 := by omega
  rcases this with e | e <;> rw [e] <;> rfl
 unfold wv at h6
 rw [wl, e1] at h6
 unfold BR.gx at g0
 rw [gl] at g0
 have kz : kk = 0 := by
  cases t with
  | true => simp only [if_true] at h6; omega
  | false => simp only [Bool.false_eq_true, if_false] at h6; omega
 refine ⟨by omega, ?_, by omega⟩
 unfold BR.gx
 cases t with
 | true => simp only [if_true] at g0 h6 ⊢; omega
 | false => simp only [Bool.false_eq_true, if_false] at g0 h6 ⊢; omega
end
end BR
namespace BR
open MB
def wX (t : Bool) (c f b : Nat) (rs : List Rn) : List Nat := if t = true then wB c f b rs else (wB c f b rs).map fun w => Ba (drs c b rs) - w
def wXs (t : Bool) (c f : Nat) : List Rn -> List (List Nat)
 | [] => []
 | r :: rs => wX t c f r.n rs :: wXs t c f rs
theorem Di (c f : Nat) : ∀ rs : List Rn, wXs true c f rs = wths c f rs
 | [] => rfl
 | r :: rs => by show wX true c f r.n rs :: wXs true c f rs = wB c f r.n rs :: wths c f rs; rw [Di c f rs]; rfl
theorem ml (t : Bool) (c f : Nat) : ∀ rs : List Rn, (wXs t c f rs).length = rs.length
 | [] => rfl
 | r :: rs => by show (wXs t c f rs).length + 1 = rs.length + 1; rw [ml t c f rs]
theorem Ei {t : Bool} {c f : Nat} : ∀ {rs : List Rn} {i : Nat} {r : Rn}, rs[i]? = some r -> (wXs t c f rs)[i]? = some (wX t c f r.n (rs.drop (i + 1)))
 | [], _, _, h => by simp at h
 | r' :: rs, 0, r, h => by
  have e : r' = r := by simpa using h
  subst e
  rfl
 | r' :: rs, i + 1, r, h => by
  show (wXs t c f rs)[i]? = some (wX t c f r.n (rs.drop (i + 1)))
  exact Ei (by simpa using h)
theorem Mv {c f : Nat} {rs : List Rn} {i : Nat} {r : Rn} (h : rs[i]? = some r) : (wths c f rs)[i]? = some (wB c f r.n (rs.drop (i + 1))) := by rw [<- Di]; exact Ei h
theorem wX_len {t : Bool} {c f b : Nat} {rs : List Rn} (h : Qa b rs = 1) : (wX t c f b rs).length = b + 1 := by
 unfold wX
 cases t with
 | true => simp only [if_true]; exact Yh h
 | false => simp only [Bool.false_eq_true, if_false, List.length_map]; exact Yh h
theorem wX_at {t : Bool} {c f b on : Nat} {rs : List Rn} (h : Qa b rs = 1) (ho : on <= b) : (wX t c f b rs).getD on 0 = wv t c f b rs on := by
 unfold wX wv
 cases t with
 | true => rfl
 | false =>
  simp only [Bool.false_eq_true, if_false]
  have l : on < (wB c f b rs).length := by rw [Yh h]; omega
  rw [List.getD_eq_getElem?_getD, List.getElem?_map, List.getD_eq_getElem?_getD, List.getElem?_eq_getElem l]
  rfl
theorem wX_bd {t : Bool} {c f b : Nat} {rs : List Rn} (hf : f <= c) (ft : FitR c b rs) : ∀ x ∈ wX t c f b rs, x <= Ba (drs c b rs) := by
 unfold wX
 cases t with
 | true => exact xo hf ft
 | false =>
  intro x hx
  simp only [Bool.false_eq_true, if_false] at hx
  obtain ⟨y, _, rfl⟩ := List.mem_map.mp hx
  omega
end BR
namespace BL
open PySem PySem.Spec PyProof.Rows L2 BR
def spGoi : Sp := fun vs H Q _ => ∃ (c f : Nat) (a : Addr) (ps : List Addr) (rs : List Rn) (t : Bool), vs = [.int c, .int f, .ref a, .bl t] /\ CF H a ps c f rs /\ ∀ (p : Addr) (H' : Hp) (qs : List Addr), Same H H' -> TsAt lstN H' p qs (wXs t c f rs) -> Q (.ref p) H'
theorem Uv {c f : Nat} {a : Addr} {ps : List Addr} {rs : List Rn} {t : Bool} {H : Hp} {Q : VK} {E : XK} (R : CF H a ps c f rs) (q : ∀ (p : Addr) (H' : Hp) (qs : List Addr), Same H H' -> TsAt lstN H' p qs (wXs t c f rs) -> Q (.ref p) H') : spGoi [.int c, .int f, .ref a, .bl t] H Q E := ⟨c, f, a, ps, rs, t, rfl, R, q⟩
def mq : Sp := fun vs H Q _ => ∃ (m a : Addr) (c k : Nat) (ps : List Addr) (rs : List Rn) (F : Nat -> Bool) (t : Bool), vs = [.ref m, .ref a, .int k, .bl t] /\ H m = some (mks F c) /\ CR H a ps c rs /\ Qa c rs = 1 /\ k < wv t c (fr F (List.range c)) c rs (fr F (List.range c)) /\ ∀ H', Same H H' -> Q .non H'
theorem kq {m a : Addr} {c k : Nat} {ps : List Addr} {rs : List Rn} {F : Nat -> Bool} {t : Bool} {H : Hp} {Q : VK} {E : XK} (h1 : H m = some (mks F c)) (R : CR H a ps c rs) (hw : Qa c rs = 1) (hk : k < wv t c (fr F (List.range c)) c rs (fr F (List.range c))) (q : ∀ H', Same H H' -> Q .non H') : mq [.ref m, .ref a, .int k, .bl t] H Q E := ⟨m, a, c, k, ps, rs, F, t, rfl, h1, R, hw, hk, q⟩
def kn : Sp := fun vs H Q _ => ∃ (g : Nat -> V) (fo fr' a : Addr) (c : Nat) (fv : List V) (ps : List Addr) (rs : List Rn) (k : Nat) (t : Bool), vs = [.ref fo, .ref fr', .ref a, .int k, .bl t] /\ Nam g c /\ H fo = some (lstG g (List.range c)) /\ H fr' = some (.lst fv) /\ fv.all Ob = true /\ CR H a ps c rs /\ Qa c rs = 1 /\ allD c rs < 2 ^ 8999 /\
 k < wv t c (fr (fun a => inV (g a) fv) (List.range c)) c rs (fr (fun a => inV (g a) fv) (List.range c)) /\
 ∀ (N : Nat) (H' : Hp), N < allD c rs -> gx t c (fun a => inV (g a) fv) (List.range c) rs N = 1 -> cx t c (fun a => inV (g a) fv) (List.range c) rs N = k -> Same H H' -> Q (.int N) H'
theorem jn {g : Nat -> V} {fo fr' a : Addr} {c : Nat} {fv : List V} {ps : List Addr} {rs : List Rn} {k : Nat} {t : Bool} {H : Hp} {Q : VK} {E : XK} (NM : Nam g c) (h1 : H fo = some (lstG g (List.range c))) (h2 : H fr' = some (.lst fv)) (hfl : fv.all Ob = true) (R : CR H a ps c rs) (hw : Qa c rs = 1) (hA : allD c rs < 2 ^ 8999)
 (hk : k < wv t c (fr (fun a => inV (g a) fv) (List.range c)) c rs (fr (fun a => inV (g a) fv) (List.range c)))
 (q : ∀ (N : Nat) (H' : Hp), N < allD c rs -> gx t c (fun a => inV (g a) fv) (List.range c) rs N = 1 -> cx t c (fun a => inV (g a) fv) (List.range c) rs N = k -> Same H H' -> Q (.int N) H') : kn [.ref fo, .ref fr', .ref a, .int k, .bl t] H Q E := ⟨g, fo, fr', a, c, fv, ps, rs, k, t, rfl, NM, h1, h2, hfl, R, hw, hA, hk, q⟩
def Tv (t : Bool) : Sp := fun vs H Q E => ∃ v1 v2 v3 v4, vs = [v1, v2, v3, v4] /\ kn [v1, v2, v3, v4, .bl t] H Q E
theorem xq {t : Bool} {v1 v2 v3 v4 : V} {H : Hp} {Q : VK} {E : XK} (h : kn [v1, v2, v3, v4, .bl t] H Q E) : Tv t [v1, v2, v3, v4] H Q E := ⟨v1, v2, v3, v4, rfl, h⟩
end BL
namespace BR
theorem El {g : Nat -> Nat} : ∀ {a b : Nat}, a <= b -> sm a g <= sm b g := fun {a b} h => by
 obtain ⟨d, rfl⟩ : ∃ d, b = a + d := ⟨b - a, by omega⟩
 rw [gf]
 omega
theorem Dq {g : Nat -> Nat} {a b : Nat} (ha : g a = 1) (hb : g b = 1) (h : sm a g = sm b g) : a = b := by
 rcases Nat.lt_trichotomy a b with y | y | y
 . have h1 : sm (a + 1) g <= sm b g := El y
   have h2 : sm (a + 1) g = sm a g + g a := rfl
   omega
 . exact y
 . have h1 : sm (b + 1) g <= sm a g := El y
   have h2 : sm (b + 1) g = sm b g + g b := rfl
   omega
theorem cx_lt {t : Bool} {c : Nat} {F : Nat -> Bool} {rs : List Rn} {N : Nat} (ft : FitR c c rs) (hw : Qa c rs = 1) (hN : N < allD c rs) (h : gx t c F (List.range c) rs N = 1) : cx t c F (List.range c) rs N < wv t c (fr F (List.range c)) c rs (fr F (List.range c)) := by
 have lr : (List.range c).length = c := List.length_range
 have e := Nu (t := t) (F := F) (l := List.range c) (rs := rs) (by rw [lr]; exact ft) (by rw [lr]; exact Nat.le_refl _) (by rw [lr]; exact hw)
 rw [lr] at e
 rw [<- e]
 have h1 : cx t c F (List.range c) rs (N + 1) <= cx t c F (List.range c) rs (Ba (drs c c rs)) := El hN
 have h2 : cx t c F (List.range c) rs (N + 1) = cx t c F (List.range c) rs N + gx t c F (List.range c) rs N := rfl
 omega
theorem Ws (c : Nat) (F : Nat -> Bool) (l : List Nat) (rs : List Rn) (N : Nat) : cx true c F l rs N = cg c F l rs N := rfl
theorem jo {c : Nat} {F : Nat -> Bool} {rs : List Rn} (ft : FitR c c rs) (hw : Qa c rs = 1) (N : Nat) : cx false c F (List.range c) rs N + cg c F (List.range c) rs N = N := by
 have lr : (List.range c).length = c := List.length_range
 exact Bf fun i _ => gd_le (by rw [lr]; exact ft) (by rw [lr]; exact Nat.le_refl _) (by rw [lr]; exact hw)
end BR
namespace BL
open PySem PySem.Spec PyProof.Rows L2 BR
def qw : Str := "qwertz"
def qwC (k : Nat) : Nat := qw.cps.toList.getD k 0
def nmq (k : Nat) : Str := (⟨#[qwC k]⟩ : Str) ++ ("abc" : Str)
theorem qw_at {k : Nat} (h : k < 6) : qw.cps.toList[k]? = some (qwC k) := by
 have : ∀ j : Fin 6, qw.cps.toList[j.1]? = some (qwC j.1) := by decide +kernel
 exact this ⟨k, h⟩
theorem jx {i j : Nat} (hi : i < 6) (hj : j < 6) (h : nmq i = nmq j) : i = j := by
 have : ∀ a b : Fin 6, nmq a.1 = nmq b.1 -> a.1 = b.1 := by decide +kernel
 exact this ⟨i, hi⟩ ⟨j, hj⟩ h
end BL
local macro_rules | `(‹$x›) => `(by with_unfolding_all exact $x)
local macro_rules | `(tactic| walk_at "ne") => `(tactic| first
 | with_reducible assumption
 | exact Ne.symm (by with_reducible assumption)
 | ((with_reducible apply L2.ne_fresh); (with_reducible assumption); walk_at "hp")
 | ((with_reducible apply Ne.symm); (with_reducible apply L2.ne_fresh); (with_reducible assumption); walk_at "hp"))
local macro_rules | `(tactic| walk_at "hp") => `(tactic| first
 | with_reducible assumption
 | with_reducible exact L2.ja
 | ((with_reducible apply L2.rb); walk_at "ne"; walk_at "hp")
 | ((with_reducible apply L2.Fr1.get); (with_reducible assumption); walk_at "hp"; walk_at "ne"))
local macro_rules | `(tactic| walk_at "cond") => `(tactic| first
 | with_reducible assumption
 | exact L2.qg.small (by omega) (by omega)
 | exact L2.og.left (by omega) (by omega)
 | exact L2.og.right (by omega) (by omega)
 | (show (0 : Int) < _; omega))
local macro_rules | `(tactic| walk_at "size") => `(tactic| first
 | (simp only [List.length_cons, List.length_nil]; decide)
 | (simp only [List.length_cons, List.length_nil, List.length_map, List.length_append, sizeLine_eq]; omega))
local macro_rules | `(tactic| walk_at "ty") => `(tactic| first
 | with_reducible exact L2.TyOf.int _
 | with_reducible exact L2.TyOf.bl _
 | with_reducible exact L2.TyOf.str _
 | with_reducible exact L2.TyOf.non
 | ((with_reducible apply L2.TyOf.tup); walk_at "hp")
 | ((with_reducible apply L2.TyOf.lst); walk_at "hp"))
local macro_rules | `(tactic| walk_at "rd") => `(tactic| repeat (first
 | with_reducible refine L2.r_seq ?_
 | with_reducible refine L2.r_asg ?_
 | with_reducible refine L2.Cw ?_
 | with_reducible refine L2.r_op ?_
 | ((with_reducible apply L2.r_var); exact rfl)
 | with_reducible refine L2.r_c ?_
 | with_reducible refine L2.du ?_
 | with_reducible refine L2.br ?_
 | with_reducible refine L2.ow ?_
 | with_reducible refine L2.fu ?_
 | with_reducible refine L2.r_part ?_
 | with_reducible refine L2.vw ?_
 | with_reducible refine L2.r_ltI ?_
 | with_reducible refine L2.r_leI ?_
 | with_reducible refine L2.r_eqI ?_
 | with_reducible refine L2.r_neI ?_
 | with_reducible refine L2.r_eqB ?_
 | with_reducible refine L2.r_neB ?_
 | with_reducible refine L2.r_eqS ?_
 | with_reducible refine L2.r_neS ?_
 | with_reducible refine L2.r_test ?_
 | with_reducible refine L2.r_bl ?_
 | with_reducible refine L2.r_ifs ?_
 | with_reducible refine L2.r_ret ?_
 | with_reducible refine L2.r_retN ?_
 | with_reducible refine L2.r_next ?_
 | with_reducible refine L2.r_cons ?_
 | with_reducible refine L2.r_nil ?_
 | with_reducible refine L2.r_cl ?_
 | with_reducible refine L2.r_cb ?_
 | with_reducible refine L2.r_clE ?_
 | with_reducible refine L2.r_try ?_
 | with_reducible refine L2.r_raise ?_
 | with_reducible refine L2.r_and ?_
 | with_reducible refine L2.r_or ?_
 | with_reducible refine L2.r_not ?_
 | with_reducible refine L2.r_andV ?_
 | with_reducible refine L2.r_orV ?_
 | with_reducible refine L2.r_notV ?_
 | with_reducible refine L2.r_ifx ?_
 | with_reducible refine L2.r_tru ?_
 | with_reducible refine L2.r_truI ?_
 | with_reducible refine L2.r_truB ?_
 | with_reducible refine L2.r_tB ?_
 | with_reducible refine L2.uw ?_
 | with_reducible refine L2.r_pow6 ?_
 | ((with_reducible apply L2.r_rI); walk_at "cond")
 | ((with_reducible apply L2.pf); walk_at "cond")
 | with_reducible refine L2.r_abs ?_
 | with_reducible refine L2.r_min2 ?_
 | with_reducible refine L2.r_max2 ?_
 | with_reducible refine L2.r_int1 ?_
 | with_reducible refine L2.r_int1B ?_
 | ((with_reducible apply L2.r_isi); walk_at "ty"; exact rfl)
 | ((with_reducible apply L2.ni); walk_at "hp")
 | ((with_reducible apply L2.qv); walk_at "hp")
 | ((with_reducible apply L2.Ta); walk_at "hp"; exact rfl)
 | ((with_reducible apply L2.Bc); walk_at "hp"; exact rfl)
 | with_reducible refine L2.r_gsub ?_
 | with_reducible refine L2.Bw ?_
 | with_reducible refine L2.Aw ?_
 | with_reducible refine L2.r_isNoI ?_
 | with_reducible refine L2.r_isNoS ?_
 | with_reducible refine L2.r_notNo0 ?_
 | with_reducible refine L2.r_notNoR ?_
 | with_reducible refine L2.r_notNoI ?_
 | with_reducible refine L2.r_notNoS ?_
 | with_reducible refine L2.r_un ?_
 | with_reducible refine L2.r_rU ?_
 | ((with_reducible apply L2.Fn); walk_at "hp"; exact rfl)
 | with_reducible refine L2.r_drop ?_
 | with_reducible refine L2.r_bmL ?_
 | ((with_reducible apply L2.lj); walk_at "hp")
 | ((with_reducible apply L2.gb); walk_at "hp"; walk_at "size")
 | with_reducible refine L2.r_tup ?_
 | with_reducible refine L2.r_lst ?_
 | ((with_reducible apply L2.tw); walk_at "size")
 | with_reducible refine L2.r_par ?_
 | with_reducible refine L2.r_par2 ?_
 | ((with_reducible apply L2.r_aug); exact rfl)
 | with_reducible refine L2.r_ipI ?_
 | with_reducible refine L2.r_forR ?_
 | with_reducible refine L2.Hw ?_
 | with_reducible refine L2.Iw ?_
 | with_reducible refine L2.Gw ?_
 | with_reducible refine L2.Jw ?_
 | with_reducible refine L2.r_bm0 ?_
 | with_reducible refine L2.Fw ?_
 | with_reducible refine L2.r_forE ?_
 | with_reducible refine L2.r_forZ ?_
 | with_reducible refine L2.Ew ?_
 | with_reducible refine L2.r_forD ?_
 | with_reducible refine L2.r_forR2 ?_
 | with_reducible refine L2.r_chain ?_
 | with_reducible refine L2.r_augS ?_
 | with_reducible refine L2.r_yes ?_
 | with_reducible refine L2.r_forL ?_
 | with_reducible refine L2.r_forT ?_
 | with_reducible refine L2.Dw ?_
 | with_reducible refine L2.r_gnil ?_
 | ((with_reducible apply L2.r_gtup); walk_at "hp"; exact rfl)
 | with_reducible refine L2.iteT ?_
 | with_reducible refine L2.iteF ?_
 | with_reducible refine L2.xw ?_
 | with_reducible refine L2.zw ?_))
namespace K29
open PySem PySem.Spec PyProof.Rows L2
def top (i : Nat) : Stmt := PySem.Challenge.pw_ballotin_k29_whole_good_draws_numbered.main.body.getD i (.Pass ⟨0, 0, 0, 0⟩)
abbrev Tq : Stmt := top 8
abbrev Pd : Stmt := top 9
abbrev Vq : Stmt := top 10
abbrev Zg : Stmt := top 11
abbrev Ke : Stmt := top 12
abbrev Me : Stmt := top 16
abbrev Wq : Stmt := top 17
abbrev Rl : Stmt := top 18
abbrev sd : Stmt := top 19
abbrev Ql : Stmt := top 20
abbrev Td : Stmt := top 21
abbrev Oc : Stmt := top 22
abbrev ud : Stmt := top 23
abbrev Oe : Stmt := top 24
abbrev Wl : Stmt := top 25
abbrev Pc : Stmt := top 26
abbrev Zi : Stmt := top 27
abbrev Qd : Stmt := top 29
abbrev Ud : Stmt := top 30
abbrev Uq : Stmt := top 31
abbrev Yi : Stmt := top 32
abbrev Ad : Stmt := top 33
abbrev ij : Stmt := top 34
abbrev Cf : Stmt := top 36
abbrev Sl : Stmt := top 37
abbrev Mc : Stmt := top 38
abbrev Wi : Stmt := top 39
abbrev zc : Stmt := top 40
abbrev Ff : Stmt := top 42
abbrev xc : Stmt := top 43
abbrev Je : Stmt := top 44
abbrev Ac : Stmt := top 45
abbrev Qc : Stmt := top 46
abbrev Xi : Stmt := top 47
abbrev vd : Stmt := top 48
abbrev Nc : Stmt := top 49
abbrev zd : Stmt := top 50
abbrev Ef : Stmt := top 51
abbrev Kb : Stmt := top 52
abbrev Jf : Stmt := top 53
abbrev Sd : Stmt := top 54
abbrev Df : Stmt := top 55
abbrev Yg : Stmt := top 57
abbrev bj : Stmt := top 58
abbrev Ul : Stmt := top 59
abbrev cj : Stmt := top 61
abbrev gj : Stmt := top 62
abbrev yd : Stmt := top 63
abbrev aj : Stmt := top 64
abbrev Xg : Stmt := top 65
abbrev Hf : Stmt := top 66
abbrev Vl : Stmt := top 67
abbrev dj : Stmt := top 68
abbrev Wg : Stmt := top 69
abbrev Gf : Stmt := top 70
abbrev Le : Stmt := top 71
abbrev Vt : Stmt := top 72
theorem Zv : Ia ["many", "few", "found", "at"] ["many", "few"] (ya Tq) := ⟨rfl, rfl, rfl, by decide +kernel, rfl, by decide +kernel, by decide +kernel⟩
theorem Ri : Ia ["total", "many", "few"] ["total", "many", "few"] (ya Pd) := ⟨rfl, rfl, rfl, by decide +kernel, rfl, by decide +kernel, by decide +kernel⟩
theorem bw : Ia ["many", "few", "number", "total", "places", "place", "having"] ["many", "few", "number"] (ya Vq) := ⟨rfl, rfl, rfl, by decide +kernel, rfl, by decide +kernel, by decide +kernel⟩
theorem Io : Ia ["many", "places", "last", "place"] ["many", "places"] (ya Zg) := ⟨rfl, rfl, rfl, by decide +kernel, rfl, by decide +kernel, by decide +kernel⟩
theorem uk : Ia ["many", "places", "few", "total", "number", "found", "place", "having"] ["many", "places"] (ya Ke) := ⟨rfl, rfl, rfl, by decide +kernel, rfl, by decide +kernel, by decide +kernel⟩
theorem xk : Ia ["count", "sit", "seats", "needed", "word"] ["count", "sit", "seats", "needed", "word"] (ya Me) := ⟨rfl, rfl, rfl, by decide +kernel, rfl, by decide +kernel, by decide +kernel⟩
theorem cw : Ia ["count", "sit", "step"] ["count", "sit", "step"] (ya Wq) := ⟨rfl, rfl, rfl, by decide +kernel, rfl, by decide +kernel, by decide +kernel⟩
theorem Pt : Ia ["count", "row", "sit", "found", "at", "step"] ["count", "row"] (ya Rl) := ⟨rfl, rfl, rfl, by decide +kernel, rfl, by decide +kernel, by decide +kernel⟩
theorem Jh : Ia ["count", "row"] ["count", "row"] (ya sd) := ⟨rfl, rfl, rfl, by decide +kernel, rfl, by decide +kernel, by decide +kernel⟩
theorem Ot : Ia ["count", "row"] ["count", "row"] (ya Ql) := ⟨rfl, rfl, rfl, by decide +kernel, rfl, by decide +kernel, by decide +kernel⟩
theorem Ui : Ia ["count", "row"] ["count", "row"] (ya Td) := ⟨rfl, rfl, rfl, by decide +kernel, rfl, by decide +kernel, by decide +kernel⟩
theorem Tg : Ia ["count", "friends", "row"] ["count", "friends", "row"] (ya Oc) := ⟨rfl, rfl, rfl, by decide +kernel, rfl, by decide +kernel, by decide +kernel⟩
theorem Kh : Ia ["count", "sit", "step"] ["count", "sit", "step"] (ya ud) := ⟨rfl, rfl, rfl, by decide +kernel, rfl, by decide +kernel, by decide +kernel⟩
theorem yk : Ia ["count", "row"] ["count", "row"] (ya Oe) := ⟨rfl, rfl, rfl, by decide +kernel, rfl, by decide +kernel, by decide +kernel⟩
theorem Ut : Ia ["count", "row", "found", "many"] ["count", "row"] (ya Wl) := ⟨rfl, rfl, rfl, by decide +kernel, rfl, by decide +kernel, by decide +kernel⟩
theorem Ug : Ia ["count", "row", "found", "many", "own"] ["count", "row"] (ya Pc) := ⟨rfl, rfl, rfl, by decide +kernel, rfl, by decide +kernel, by decide +kernel⟩
theorem Mq : Ia ["count", "row", "number", "found", "many", "own"] ["count", "row", "number"] (ya Zi) := ⟨rfl, rfl, rfl, by decide +kernel, rfl, by decide +kernel, by decide +kernel⟩
theorem Si : Ia ["many", "few", "found", "taken"] ["many", "few"] (ya Qd) := ⟨rfl, rfl, rfl, by decide +kernel, rfl, by decide +kernel, by decide +kernel⟩
theorem Vi : Ia ["bench", "on", "few", "friendly", "others"] ["bench", "on", "few"] (ya Ud) := ⟨rfl, rfl, rfl, by decide +kernel, rfl, by decide +kernel, by decide +kernel⟩
theorem aw : Ia ["bench", "on", "needed"] ["bench", "on", "needed"] (ya Uq) := ⟨rfl, rfl, rfl, by decide +kernel, rfl, by decide +kernel, by decide +kernel⟩
theorem Lq : Ia ["count", "friends", "seats", "who"] ["count", "friends", "seats", "who"] (ya Yi) := ⟨rfl, rfl, rfl, by decide +kernel, rfl, by decide +kernel, by decide +kernel⟩
theorem Oh : Ia ["seats", "on", "many", "found"] ["seats", "on", "many"] (ya Ad) := ⟨rfl, rfl, rfl, by decide +kernel, rfl, by decide +kernel, by decide +kernel⟩
theorem Sq : Ia ["count", "friends", "bench", "on", "step", "seats", "who"] ["count", "friends", "bench", "on", "step"] (ya ij) := ⟨rfl, rfl, rfl, by decide +kernel, rfl, by decide +kernel, by decide +kernel⟩
theorem Jl : Ia ["count", "friends", "roads_here", "step", "sit", "found", "on", "many", "to", "leading"] ["count", "friends", "roads_here", "step"] (ya Cf) := ⟨rfl, rfl, rfl, by decide +kernel, rfl, by decide +kernel, by decide +kernel⟩
theorem Qt : Ia ["count", "friends", "row", "here", "found", "step"] ["count", "friends", "row"] (ya Sl) := ⟨rfl, rfl, rfl, by decide +kernel, rfl, by decide +kernel, by decide +kernel⟩
theorem Rg : Ia ["count", "friends", "sit", "step", "later", "found", "on", "leading"] ["count", "friends", "sit", "step", "later"] (ya Mc) := ⟨rfl, rfl, rfl, by decide +kernel, rfl, by decide +kernel, by decide +kernel⟩
theorem Jq : Ia ["count", "friends", "row", "sat", "found", "at"] ["count", "friends", "row"] (ya Wi) := ⟨rfl, rfl, rfl, by decide +kernel, rfl, by decide +kernel, by decide +kernel⟩
theorem gg : Ia ["count", "friends", "row", "found"] ["count", "friends", "row"] (ya zc) := ⟨rfl, rfl, rfl, by decide +kernel, rfl, by decide +kernel, by decide +kernel⟩
theorem Ml : Ia ["folk", "friends"] ["folk", "friends"] (ya Ff) := ⟨rfl, rfl, rfl, by decide +kernel, rfl, by decide +kernel, by decide +kernel⟩
theorem fg : Ia ["marks", "places"] ["marks", "places"] (ya xc) := ⟨rfl, rfl, rfl, by decide +kernel, rfl, by decide +kernel, by decide +kernel⟩
theorem sk : Ia ["marks", "seats", "who", "ours", "own", "others"] ["marks", "seats", "who"] (ya Je) := ⟨rfl, rfl, rfl, by decide +kernel, rfl, by decide +kernel, by decide +kernel⟩
theorem ig : Ia ["marks", "bench", "step", "who"] ["marks", "bench", "step"] (ya Ac) := ⟨rfl, rfl, rfl, by decide +kernel, rfl, by decide +kernel, by decide +kernel⟩
theorem Vg : Ia ["marks", "bench", "step"] ["marks", "bench", "step"] (ya Qc) := ⟨rfl, rfl, rfl, by decide +kernel, rfl, by decide +kernel, by decide +kernel⟩
theorem Kq : Ia ["left", "few", "had", "weights", "found", "more", "many"] ["left", "few", "had", "weights"] (ya Xi) := ⟨rfl, rfl, rfl, by decide +kernel, rfl, by decide +kernel, by decide +kernel⟩
theorem Lh : Ia ["marks", "few", "weights", "k", "places", "had", "place", "friend", "taking", "having"] ["marks", "few", "weights", "k"] (ya vd) := ⟨rfl, rfl, rfl, by decide +kernel, rfl, by decide +kernel, by decide +kernel⟩
theorem Sg : Ia ["marks", "places", "weights", "found", "had", "picked", "place", "friend", "taking"] ["marks", "places", "weights"] (ya Nc) := ⟨rfl, rfl, rfl, by decide +kernel, rfl, by decide +kernel, by decide +kernel⟩
theorem Nh : Ia ["count", "friends", "row", "good", "found"] ["count", "friends", "row", "good"] (ya zd) := ⟨rfl, rfl, rfl, by decide +kernel, rfl, by decide +kernel, by decide +kernel⟩
theorem Ll : Ia ["marks", "row", "k", "good", "many"] ["marks", "row", "k", "good"] (ya Ef) := ⟨rfl, rfl, rfl, by decide +kernel, rfl, by decide +kernel, by decide +kernel⟩
theorem Ie : Ia ["folk", "friends", "row", "k", "good", "marks", "bench", "number", "later", "step", "many", "weights", "undrawn", "pool", "places", "own"] ["folk", "friends", "row", "k", "good"] (ya Kb) := ⟨rfl, rfl, rfl, by decide +kernel, rfl, by decide +kernel, by decide +kernel⟩
theorem Pl : Ia ["folk", "friends", "row", "k"] ["folk", "friends", "row", "k"] (ya Jf) := ⟨rfl, rfl, rfl, by decide +kernel, rfl, by decide +kernel, by decide +kernel⟩
theorem Ti : Ia ["folk", "friends", "row", "k"] ["folk", "friends", "row", "k"] (ya Sd) := ⟨rfl, rfl, rfl, by decide +kernel, rfl, by decide +kernel, by decide +kernel⟩
theorem Kl : Ia ["folk", "friends", "row", "number", "marks", "bench", "ahead", "later", "step", "own", "weights", "undrawn", "pool", "places"] ["folk", "friends", "row", "number"] (ya Df) := ⟨rfl, rfl, rfl, by decide +kernel, rfl, by decide +kernel, by decide +kernel⟩
theorem Ho : Ia ["_law_script"] ["_law_script"] (ya Yg) := ⟨rfl, rfl, rfl, by decide +kernel, rfl, by decide +kernel, by decide +kernel⟩
theorem Oq : Ia ["_law_draw", "_law_many", "_law_number", "_law_got"] ["_law_draw", "_law_many"] (ya bj) := ⟨rfl, rfl, rfl, by decide +kernel, rfl, by decide +kernel, by decide +kernel⟩
theorem Rt : Ia ["_law_thing"] ["_law_thing"] (ya Ul) := ⟨rfl, rfl, rfl, by decide +kernel, rfl, by decide +kernel, by decide +kernel⟩
theorem Pq : Ia ["_law_draw", "_law_count", "_law_bench", "_law_most", "_law_word", "_law_lot", "_law_needed", "_law_n"] ["_law_draw", "_law_count", "_law_bench", "_law_most"] (ya cj) := ⟨rfl, rfl, rfl, by decide +kernel, rfl, by decide +kernel, by decide +kernel⟩
theorem Rq : Ia ["_law_draw", "_law_bench", "_law_needed"] ["_law_draw", "_law_bench"] (ya gj) := ⟨rfl, rfl, rfl, by decide +kernel, rfl, by decide +kernel, by decide +kernel⟩
theorem Mh : Ia ["_law_draw", "_law_count", "_law_many", "_law_most", "_law_bench", "_law_row", "_law_k"] ["_law_draw", "_law_count", "_law_many", "_law_most"] (ya yd) := ⟨rfl, rfl, rfl, by decide +kernel, rfl, by decide +kernel, by decide +kernel⟩
theorem Nq : Ia ["_law_many", "_law_few", "_law_top", "_law_bottom", "_law_k"] ["_law_many", "_law_few"] (ya aj) := ⟨rfl, rfl, rfl, by decide +kernel, rfl, by decide +kernel, by decide +kernel⟩
theorem Fo : Ia ["_law_count", "_law_row"] ["_law_count", "_law_row"] (ya Xg) := ⟨rfl, rfl, rfl, by decide +kernel, rfl, by decide +kernel, by decide +kernel⟩
theorem Ol : Ia ["_law_count", "_law_row", "_law_seats_here", "_law_found", "_law_k", "_law_many"] ["_law_count", "_law_row"] (ya Hf) := ⟨rfl, rfl, rfl, by decide +kernel, rfl, by decide +kernel, by decide +kernel⟩
theorem Tt : Ia ["_law_count", "_law_row", "_law_total", "_law_many"] ["_law_count", "_law_row"] (ya Vl) := ⟨rfl, rfl, rfl, by decide +kernel, rfl, by decide +kernel, by decide +kernel⟩
theorem Qq : Ia ["_law_many", "_law_few", "_law_number", "_law_places", "_law_place", "_law_within"] ["_law_many", "_law_few", "_law_number"] (ya dj) := ⟨rfl, rfl, rfl, by decide +kernel, rfl, by decide +kernel, by decide +kernel⟩
theorem Eo : Ia ["_law_folk", "_law_friends", "_law_sat", "_law_step_here", "_law_number", "_law_mine", "_law_first", "_law_pool", "_law_own", "_law_chosen"] ["_law_folk", "_law_friends", "_law_sat", "_law_step_here", "_law_number"] (ya Wg) := ⟨rfl, rfl, rfl, by decide +kernel, rfl, by decide +kernel, by decide +kernel⟩
theorem Nl : Ia ["_law_count", "_law_row", "_law_number", "_law_found", "_law_many"] ["_law_count", "_law_row", "_law_number"] (ya Gf) := ⟨rfl, rfl, rfl, by decide +kernel, rfl, by decide +kernel, by decide +kernel⟩
theorem wk : Ia ["_law_folk", "_law_friends", "_law_row", "_law_number", "_law_sat", "_law_found", "_law_numbers", "_law_k"] ["_law_folk", "_law_friends", "_law_row", "_law_number"] (ya Le) := ⟨rfl, rfl, rfl, by decide +kernel, rfl, by decide +kernel, by decide +kernel⟩
theorem sc_law : Ia ["_law_script", "_law_draw", "_law_count", "_law_row", "_law_folk", "_law_friends", "_law_good", "_law_ill", "_law_number", "_law_sat", "_law_told"] ["_law_script"] (ya Vt) := ⟨rfl, rfl, rfl, by decide +kernel, rfl, by decide +kernel, by decide +kernel⟩
open BL BR
structure Txt (mg : Str -> Option Value) : Prop where
 b_abs : mg "abs" = none
 b_bool : mg "bool" = none
 b_divmod : mg "divmod" = none
 b_enumerate : mg "enumerate" = none
 b_int : mg "int" = none
 b_isinstance : mg "isinstance" = none
 b_len : mg "len" = none
 b_list : mg "list" = none
 b_min : mg "min" = none
 b_range : mg "range" = none
 b_sorted : mg "sorted" = none
 b_sum : mg "sum" = none
 b_tuple : mg "tuple" = none
 b_zip : mg "zip" = none
 m_MOST_PEOPLE : ∃ t, mg "MOST_PEOPLE" = some (.int 500 t)
 m_MOST_SEATS : ∃ t, mg "MOST_SEATS" = some (.int 60 t)
section
variable (P : Program) (w : World) (K : PySem.W.Frag) (mg : Str -> Option Value) (base : Heap)
abbrev kl : Prop := Callee P w K mg base 1 "ways" ["many", "few"] (Pp)
abbrev Jc : Prop := Callee P w K mg base 1 "with_first" ["total", "many", "few"] (zq)
abbrev Bt : Prop := Callee P w K mg base 2 "pick" ["many", "few", "number"] (av)
abbrev Fh : Prop := Callee P w K mg base 1 "is_pick" ["many", "places"] (mn)
abbrev Ze : Prop := Callee P w K mg base 2 "number_of" ["many", "places"] (gn)
abbrev bf : Prop := Callee P w K mg base 1 "fits_vote" ["count", "sit", "seats", "needed", "word"] (ji)
abbrev Ct : Prop := Callee P w K mg base 2 "fits" ["count", "sit", "step"] (jv)
abbrev Lm : Prop := Callee P w K mg base 3 "sizes" ["count", "row"] (Tp)
abbrev Qb : Prop := Callee P w K mg base 4 "sizes_ahead" ["count", "row"] (Bl)
abbrev Km : Prop := Callee P w K mg base 5 "whole" ["count", "row"] (Np)
abbrev we : Prop := Callee P w K mg base 6 "need_whole" ["count", "row"] (iq)
abbrev Wb : Prop := Callee P w K mg base 7 "need_friends" ["count", "friends", "row"] (jq)
abbrev uc : Prop := Callee P w K mg base 2 "round_draws" ["count", "sit", "step"] (Zf)
abbrev Tb : Prop := Callee P w K mg base 5 "draws_row" ["count", "row"] (Af)
abbrev Pm : Prop := Callee P w K mg base 6 "draws" ["count", "row"] (Al)
abbrev Zc : Prop := Callee P w K mg base 6 "draws_behind" ["count", "row"] (spDrB)
abbrev Yj : Prop := Callee P w K mg base 6 "parted" ["count", "row", "number"] (fq)
abbrev ue : Prop := Callee P w K mg base 1 "ways_up_to" ["many", "few"] (Vu)
abbrev Kc : Prop := Callee P w K mg base 2 "behind_lot" ["bench", "on", "few"] (spLot)
abbrev wo : Prop := Callee P w K mg base 1 "side" ["bench", "on", "needed"] (Yu)
abbrev Xj : Prop := Callee P w K mg base 1 "seated" ["count", "friends", "seats", "who"] (Xm)
abbrev Kd : Prop := Callee P w K mg base 1 "all_lead_to" ["seats", "on", "many"] (cv)
abbrev Hg : Prop := Callee P w K mg base 3 "behind" ["count", "friends", "bench", "on", "step"] (vn)
abbrev Sf : Prop := Callee P w K mg base 4 "roads_on" ["count", "friends", "roads_here", "step"] (gk)
abbrev Mm : Prop := Callee P w K mg base 8 "roads" ["count", "friends", "row"] (Xp)
abbrev Xc : Prop := Callee P w K mg base 4 "worths_ahead" ["count", "friends", "sit", "step", "later"] (spWah)
abbrev Dg : Prop := Callee P w K mg base 8 "worths" ["count", "friends", "row"] (Uu)
abbrev Fc : Prop := Callee P w K mg base 9 "friendly_many" ["count", "friends", "row"] (spFrM)
abbrev Ce : Prop := Callee P w K mg base 1 "marks_of" ["folk", "friends"] (nq)
abbrev Fb : Prop := Callee P w K mg base 1 "friends_among" ["marks", "places"] (Cq)
abbrev Ye : Prop := Callee P w K mg base 1 "seated_by" ["marks", "seats", "who"] (Ym)
abbrev Rb : Prop := Callee P w K mg base 2 "bench_undrawn" ["marks", "bench", "step"] (spUnd)
abbrev Xb : Prop := Callee P w K mg base 1 "drawn_out_of" ["marks", "bench", "step"] (Zu)
abbrev Eg : Prop := Callee P w K mg base 3 "weight" ["left", "few", "had", "weights"] (spWt)
abbrev Gd : Prop := Callee P w K mg base 4 "pick_within" ["marks", "few", "weights", "k"] (cq)
abbrev Yc : Prop := Callee P w K mg base 4 "weight_ahead" ["marks", "places", "weights"] (spWtA)
abbrev Jd : Prop := Callee P w K mg base 9 "good_or_ill" ["count", "friends", "row", "good"] (spGoi)
abbrev Vf : Prop := Callee P w K mg base 10 "need_one" ["marks", "row", "k", "good"] (mq)
abbrev Bb : Prop := Callee P w K mg base 11 "number_among_all" ["folk", "friends", "row", "k", "good"] (kn)
abbrev Xf : Prop := Callee P w K mg base 12 "friendly" ["folk", "friends", "row", "k"] (Tv true)
abbrev ve : Prop := Callee P w K mg base 12 "unfriendly" ["folk", "friends", "row", "k"] (Tv false)
abbrev Tf : Prop := Callee P w K mg base 9 "place_of" ["folk", "friends", "row", "number"] (Zp)
abbrev Eh : Prop := Callee P w K mg base 1 "_law_begin" ["_law_script"] (Bq K)
abbrev De : Prop := Callee P w K mg base 1 "_law_take" ["_law_draw", "_law_many"] (Wu)
abbrev Nm : Prop := Callee P w K mg base 1 "_law_int" ["_law_thing"] (spInt)
abbrev Zj : Prop := Callee P w K mg base 2 "_law_step" ["_law_draw", "_law_count", "_law_bench", "_law_most"] (Xu)
abbrev ak : Prop := Callee P w K mg base 2 "_law_last" ["_law_draw", "_law_bench"] (dv)
abbrev Hd : Prop := Callee P w K mg base 3 "_law_whole_row" ["_law_draw", "_law_count", "_law_many", "_law_most"] (ei)
abbrev Fg : Prop := Callee P w K mg base 1 "_law_ways" ["_law_many", "_law_few"] (Pp)
abbrev Dh : Prop := Callee P w K mg base 1 "_law_seats" ["_law_count", "_law_row"] (Bl)
abbrev Ee : Prop := Callee P w K mg base 2 "_law_bounds" ["_law_count", "_law_row"] (Af)
abbrev Om : Prop := Callee P w K mg base 3 "_law_all" ["_law_count", "_law_row"] (Al)
abbrev Gg : Prop := Callee P w K mg base 2 "_law_pick" ["_law_many", "_law_few", "_law_number"] (spPk)
abbrev Bh : Prop := Callee P w K mg base 3 "_law_voted" ["_law_folk", "_law_friends", "_law_sat", "_law_step_here", "_law_number"] (Um)
abbrev Wf : Prop := Callee P w K mg base 3 "_law_parted" ["_law_count", "_law_row", "_law_number"] (tq)
abbrev af : Prop := Callee P w K mg base 4 "_law_benches" ["_law_folk", "_law_friends", "_law_row", "_law_number"] (vq)
end
variable {P : Program} {w : World} {K : PySem.W.Frag} {mg : Str -> Option Value} {base : Heap}
local macro_rules | `(tactic| left) => `(tactic| walk_at "rd")
theorem Xw (T : Txt mg) (U : Up K mg "ways" Tq ["many", "few"]) : kl P w K mg base := by
 have sc := Zv
 refine Callee.of (k := 0) U sc (fun vs H Q E h => ?_) (fun f cdv A outer s H vs Q E hr h => ?_)
 . obtain ⟨m, k, rfl, _⟩ := h; rfl
 . obtain ⟨m, k, rfl, hm, q⟩ := h
   have hu := hr.units
   conv in (Ha _) => whnf
   with_reducible refine ⟨_, (ba (Sa (PW.pt (Nd (va (ltK (K := K) ‹rfl› ‹hu›) (pv 1) qa ‹Ca _›) (Cc (va xj (pv 1) (pv 0) ‹Ca _›)))) (ka (Ea qa)) Ka) (ba (xa (i := 2) ‹sc.nd› ‹rfl› ‹Or.inl rfl› qa) (ba (jb PassesOwn.never ‹rfl› (Cb ‹rfl› ‹T.b_range› (aa (Ga (vh ‹rfl›) ‹rfl› ‹T.b_min› Sk (aa (pv 1) (aa (Ma Ya (pv 0) (pv 1)) da))) da)) (Aa (i := 3) ‹sc.nd› ‹rfl› ‹Or.inl rfl›) (ka (xa (i := 2) ‹sc.nd› ‹rfl› ‹Or.inl rfl› (Ma Nb (Ma ub (pv 2) (Ma Ya (pv 0) (pv 3))) (Ma (addK (K := K) ‹rfl›) (pv 3) qa))))) (ka (Ea (pv 2)))))), ?_⟩
   rw [show L2.start ["many", "few", "found", "at"] [V.int m, V.int k] = [some (V.int m), some (V.int k), none, none] from rfl]
   left
   refine za (fun h1 => ?_) (fun h1 => ?_)
   . left
     rw [MB.Jm (.inl h1)] at q
     exact q
   . left
     refine za (fun h2 => ?_) (fun h2 => ?_)
     . left
       rw [MB.Jm (.inr h2)] at q
       exact q
     . left
       obtain ⟨j, hj, hj1, hj2, hj3⟩ : ∃ j : Int, (if m - k < k then m - k else k) = j /\ 0 <= j /\ j <= m /\ (j = k \/ j = m - k) := by
        by_cases z : m - k < k
        . exact ⟨m - k, if_pos z, by omega, by omega, .inr rfl⟩
        . exact ⟨k, if_neg z, by omega, by omega, .inl rfl⟩
       rw [hj]
       refine forR (fun i σ' H' => H' = H /\ ∃ x, σ' = [some (.int m), some (.int k), some (.int (MB.ch m.toNat i)), x]) (by omega) (by omega) ⟨rfl, none, by rw [MB.Ua]; rfl⟩ ?_ ?_
       . rintro i σ' H' hi ⟨rfl, x, rfl⟩
         left
         refine ⟨rfl, some (.int i), ?_⟩
         have e := MB.Jv m.toNat i (by omega)
         have e2 : ((m.toNat : Nat) : Int) = m := by omega
         rw [e2] at e
         rw [e]
         rfl
       . rintro σ' H' ⟨rfl, x, rfl⟩
         left
         rw [<- MB.ch_min (j := j) (by omega) (by omega) hj3] at q
         exact q
theorem zj (T : Txt mg) (U : Up K mg "with_first" Pd ["total", "many", "few"]) : Jc P w K mg base := by
 have sc := Ri
 refine Callee.of (k := 0) U sc (fun vs H Q E h => ?_) (fun f cdv A outer s H vs Q E hr h => ?_)
 . obtain ⟨t, n, k, rfl, _⟩ := h; rfl
 . obtain ⟨t, n, k, rfl, h1, h2, h3, h4, q⟩ := h
   have hu := hr.units
   conv in (Ha _) => whnf
   with_reducible refine ⟨_, (ka (Ea (Ma Nb (Ma ub (pv 0) (pv 2)) (pv 1)))), ?_⟩
   rw [show L2.start ["total", "many", "few"] [V.int t, V.int n, V.int k] = [some (V.int t), some (V.int n), some (V.int k)] from rfl]
   left
   exact q
theorem Zw (T : Txt mg) (U : Up K mg "pick" Vq ["many", "few", "number"]) (C_ways : kl P w K mg base) (C_with_first : Jc P w K mg base) : Bt P w K mg base := by
 have sc := bw
 refine Callee.of (k := 1) U sc (fun vs H Q E h => ?_) (fun f cdv A outer s H vs Q E hr h => ?_)
 . obtain ⟨m, k, r, rfl, _⟩ := h; rfl
 . obtain ⟨m, k, r, rfl, hm, hrk, q⟩ := h
   have hu := hr.units
   have hk := oo hrk
   conv in (Ha _) => whnf
   with_reducible refine ⟨_, (ba (Sa (PW.pt (Nd (va (ltK (K := K) ‹rfl› ‹hu›) (pv 1) qa ‹Ca _›) (Cc (va xj (pv 1) (pv 0) ‹Ca _›)))) (ka nc) Ka) (ba (xa (i := 3) ‹sc.nd› ‹rfl› ‹Or.inl rfl› (pe_c ‹C_ways› ‹hr.mono (by decide)› ‹rfl› (aa (pv 0) (aa (pv 1) da)))) (ba (Sa (PW.pt (Nd (va (ltK (K := K) ‹rfl› ‹hu›) (pv 2) qa ‹Ca _›) (Cc (va yj (pv 2) (pv 3) ‹Ca _›)))) (ka nc) Ka) (ba (xa (i := 4) ‹sc.nd› ‹rfl› ‹Or.inl rfl› (ab da)) (ba (jb PassesOwn.never ‹rfl› (Cb ‹rfl› ‹T.b_range› (aa (pv 0) da)) (Aa (i := 5) ‹sc.nd› ‹rfl› ‹Or.inl rfl›) (ba (xa (i := 6) ‹sc.nd› ‹rfl› ‹Or.inl rfl› (pe_c ‹C_with_first› ‹hr.mono (by decide)› ‹rfl› (aa (pv 3) (aa (Ma Ya (pv 0) (pv 5)) (aa (Ma Ya (pv 1) (Ga (lenK (K := K) ‹rfl›) ‹rfl› ‹T.b_len› Va (aa (pv 4) da))) da))))) (ka (Sa (va (ltK (K := K) ‹rfl› ‹hu›) (pv 2) (pv 6) ‹Ca _›) (ba (ib (md ‹PySem.F.plainAttrs_list› ‹PySem.F.slot_list_append› ‹PySem.F.type_list_append› ‹cb› (pv 4) (aa (pv 5) da))) (ka (xa (i := 3) ‹sc.nd› ‹rfl› ‹Or.inl rfl› (pv 6)))) (ba (jd (i := 2) ‹sc.nd› ‹rfl› ‹Or.inl rfl› (pv 6) Wn) (ka (jd (i := 3) ‹sc.nd› ‹rfl› ‹Or.inl rfl› (pv 6) Wn))))))) (ka (Ea (Zb (Su (K := K) ‹rfl›) ‹rfl› ‹T.b_tuple› Tj (aa (pv 4) da))))))))), ?_⟩
   rw [show L2.start ["many", "few", "number", "total", "places", "place", "having"] [V.int m, V.int k, V.int r] = [some (V.int m), some (V.int k), some (V.int r), none, none, none, none] from rfl]
   left
   refine za (fun h1 => by omega) (fun h1 => ?_)
   left
   refine za (fun h2 => by omega) (fun h2 => ?_)
   left
   refine kc (by omega) ?_
   rw [MB.Wj]
   left
   refine za (fun h3 => by omega) (fun h3 => ?_)
   left
   refine za (fun h4 => by omega) (fun h4 => ?_)
   left
   intro pl hpl
   left
   refine forR (fun i σ' H' => ∃ (acc : List Nat) (k' r' : Nat) (x y : Option V), MB.pk m 0 k r = acc ++ MB.pk (m - i) i k' r' /\ r' < MB.ch (m - i) k' /\ acc.length + k' = k /\ H' pl = some (lstN acc) /\ Fr1 pl H H' /\
    σ' = [some (.int m), some (.int k), some (.int r'), some (.int (MB.ch (m - i) k')), some (.ref pl), x, y]) (by omega) (by omega) ⟨[], k, r, none, none, rfl, hrk, by simp, ja, (Fr1.refl pl H).upd, rfl⟩ ?_ ?_
   . rintro i σ' H' hi ⟨acc, k', r', x, y, e, hr', hl, hp, fr, rfl⟩
     have hi' : i < m := by omega
     have hk' := oo hr'
     left
     refine ni (xs := (zs acc).map V.int) hp ?_
     left
     rw [ua]
     have ek : (k : Int) - (acc.length : Int) = (k' : Int) := by omega
     rw [ek]
     refine qk (by omega) (by omega) (by omega) (by omega) ?_
     rw [Kg hi' (by omega)]
     left
     refine za (fun h5 => ?_) (fun h5 => ?_)
     . have h5' : r' < MB.hv (m - i) k' := by omega
       obtain ⟨j, rfl⟩ := hv_pos h5'
       left
       refine lj (xs := (zs acc).map V.int) hp ?_
       left
       refine gb (xs := (zs acc).map V.int) hp (by rw [ua, sizeLine_eq]; omega) ?_
       left
       rw [lst_snoc]
       refine ⟨acc ++ [i], j, r', some (.int i), some (.int (MB.hv (m - i) (j + 1))), ?_, ?_, ?_, ja, fr.upd, ?_⟩
       . rw [e, pk_in' hi' h5', List.append_assoc]; rfl
       . rw [<- ux hi']; exact h5'
       . rw [List.length_append, List.length_cons, List.length_nil]; omega
       . rw [ux hi']; rfl
     . left
       have h5' : ¬ r' < MB.hv (m - i) k' := by omega
       have ec := ch_hv (k := k') hi'
       refine ⟨acc, k', r' - MB.hv (m - i) k', some (.int i), some (.int (MB.hv (m - i) k')), ?_, by omega, hl, hp, fr, ?_⟩
       . rw [e, Pw hi' h5']
       . rw [show (r' : Int) - (MB.hv (m - i) k' : Int) = ((r' - MB.hv (m - i) k' : Nat) : Int) by omega, show (MB.ch (m - i) k' : Int) - (MB.hv (m - i) k' : Int) = ((MB.ch (m - (i + 1)) k' : Nat) : Int) by omega]
         rfl
   . rintro σ' H' ⟨acc, k', r', x, y, e, hr', hl, hp, fr, rfl⟩
     left
     refine En (xs := (zs acc).map V.int) hp ?_
     intro t ht
     have e0 : m - (m : Int).toNat = 0 := by omega
     rw [e0] at e
     have e1 : MB.pk m 0 k r = acc := by rw [e]; simp [MB.pk]
     have sm : Same H H' := fun b o z => fr b o z (oa z hpl)
     refine q t _ (sm.free ht) (sm.new ht) ?_
     rw [ja, e1]
     rfl
theorem Po (T : Txt mg) (U : Up K mg "is_pick" Zg ["many", "places"]) : Fh P w K mg base := by
 have sc := Io
 refine Callee.of (k := 0) U sc (fun vs H Q E h => ?_) (fun f cdv A outer s H vs Q E hr h => ?_)
 . obtain ⟨m, t, ns, rfl, _⟩ := h; rfl
 . obtain ⟨m, t, ns, rfl, ht, q⟩ := h
   have hu := hr.units
   conv in (Ha _) => whnf
   with_reducible refine ⟨_, (ba (xa (i := 2) ‹sc.nd› ‹rfl› ‹Or.inl rfl› (Qe wc qa)) (ba (jb PassesOwn.never ‹rfl› (piTK (K := K) ‹rfl› (pv 1)) (Aa (i := 3) ‹sc.nd› ‹rfl› ‹Or.inl rfl›) (ba (Sa (PW.pt (Nd (va (leK (K := K) ‹rfl› ‹hu›) (pv 3) (pv 2) ‹Ca _›) (Cc (va yj (pv 3) (pv 0) ‹Ca _›)))) (ka (Ea Tc)) Ka) (ka (xa (i := 2) ‹sc.nd› ‹rfl› ‹Or.inl rfl› (pv 3))))) (ka (Ea Tc)))), ?_⟩
   rw [show L2.start ["many", "places", "last", "place"] [V.int m, V.ref t] = [some (V.int m), some (V.ref t), none, none] from rfl]
   left
   refine forT (a := t) (xs := ns.map V.int) (fun i σ' H' => H' = H /\ ∃ (la : Int) (x : Option V), pkB m (-1) ns = pkB m la (ns.drop i) /\ σ' = [some (.int m), some (.ref t), some (.int la), x]) ⟨rfl, -1, none, rfl, rfl⟩ (fun i σ' H' _ ⟨e, _⟩ => by subst e; exact SqT.of ht) ?_ ?_
   . rintro i x σ' H' hi ⟨rfl, la, y, e, rfl⟩
     rw [List.getElem?_map] at hi
     obtain ⟨z, hz, rfl⟩ : ∃ z, ns[i]? = some z /\ V.int z = x := by
      cases w : ns[i]? with
      | none => rw [w] at hi; cases hi
      | some z => rw [w] at hi; exact ⟨z, rfl, Option.some.inj hi⟩
     have hlt : i < ns.length := (List.getElem?_eq_some_iff.mp hz).1
     have hd : ns.drop i = z :: ns.drop (i + 1) := by
      rw [List.drop_eq_getElem_cons hlt]
      congr 1
      exact (List.getElem?_eq_some_iff.mp hz).2
     rw [hd, show pkB m la (z :: ns.drop (i + 1)) = if z <= la \/ z ≥ m then false else pkB m z (ns.drop (i + 1)) from rfl] at e
     left
     refine za (fun h1 => ?_) (fun h1 => ?_)
     . left
       rw [e, if_pos (.inl h1)] at q
       exact q
     . left
       refine za (fun h2 => ?_) (fun h2 => ?_)
       . left
         rw [e, if_pos (.inr h2)] at q
         exact q
       . left
         rw [if_neg (by omega)] at e
         exact ⟨rfl, z, _, e, rfl⟩
   . rintro σ' H' ⟨rfl, la, y, e, rfl⟩
     left
     rw [e, List.length_map, List.drop_length] at q
     exact q
theorem Ck (T : Txt mg) (U : Up K mg "number_of" Ke ["many", "places"]) (C_ways : kl P w K mg base) (C_with_first : Jc P w K mg base) (C_is_pick : Fh P w K mg base) : Ze P w K mg base := by
 have sc := uk
 refine Callee.of (k := 1) U sc (fun vs H Q E h => ?_) (fun f cdv A outer s H vs Q E hr h => ?_)
 . obtain ⟨m, t, l, rfl, _⟩ := h; rfl
 . obtain ⟨m, t, l, rfl, ht, hm, hl, q⟩ := h
   have hu := hr.units
   conv in (Ha _) => whnf
   with_reducible refine ⟨_, (ba (Sa (rf (truK (K := K) ‹rfl› (pe_c ‹C_is_pick› ‹hr.mono (by decide)› ‹rfl› (aa (pv 0) (aa (pv 1) da))))) (ka nc) Ka) (ba (xa (i := 2) ‹sc.nd› ‹rfl› ‹Or.inl rfl› (Ga (lenK (K := K) ‹rfl›) ‹rfl› ‹T.b_len› Va (aa (pv 1) da))) (ba (xa (i := 3) ‹sc.nd› ‹rfl› ‹Or.inl rfl› (pe_c ‹C_ways› ‹hr.mono (by decide)› ‹rfl› (aa (pv 0) (aa (pv 2) da)))) (ba (xa (i := 4) ‹sc.nd› ‹rfl› ‹Or.inl rfl› qa) (ba (xa (i := 5) ‹sc.nd› ‹rfl› ‹Or.inl rfl› qa) (ba (jb PassesOwn.never ‹rfl› (Cb ‹rfl› ‹T.b_range› (aa (pv 0) da)) (Aa (i := 6) ‹sc.nd› ‹rfl› ‹Or.inl rfl›) (ba (xa (i := 7) ‹sc.nd› ‹rfl› ‹Or.inl rfl› (pe_c ‹C_with_first› ‹hr.mono (by decide)› ‹rfl› (aa (pv 3) (aa (Ma Ya (pv 0) (pv 6)) (aa (Ma Ya (pv 2) (pv 5)) da))))) (ka (Sa (PW.pt (qf (va (ltK (K := K) ‹rfl› ‹hu›) (pv 5) (pv 2) ‹Ca _›) (Bd (va (eqK (K := K) ‹rfl› ‹hu›) (Na (ixK (K := K) ‹rfl›) (pv 1) (pv 5) ‹fun _ _ => rfl›) (pv 6) ‹Ca _›)))) (ba (jd (i := 5) ‹sc.nd› ‹rfl› ‹Or.inl rfl› qa dg) (ka (xa (i := 3) ‹sc.nd› ‹rfl› ‹Or.inl rfl› (pv 7)))) (ba (jd (i := 4) ‹sc.nd› ‹rfl› ‹Or.inl rfl› (pv 7) dg) (ka (jd (i := 3) ‹sc.nd› ‹rfl› ‹Or.inl rfl› (pv 7) Wn))))))) (ka (Ea (pv 4))))))))), ?_⟩
   rw [show L2.start ["many", "places", "few", "total", "number", "found", "place", "having"] [V.int m, V.ref t] = [some (V.int m), some (V.ref t), none, none, none, none, none, none] from rfl]
   left
   refine Co (ns := zs l) ht ?_
   rw [show pkB (m : Int) (-1) (zs l) = true from vv (p := 0) hl]
   left
   refine qv (xs := (zs l).map V.int) ht ?_
   rw [ua]
   left
   refine kc (by omega) ?_
   rw [MB.Wj]
   left
   refine forR (fun i σ' H' => H' = H /\ ∃ (acc re : List Nat) (z : Nat) (x y : Option V), l = acc ++ re /\ MB.nm m 0 l = z + MB.nm (m - i) i re /\ MB.Ris i m re /\
    σ' = [some (.int m), some (.ref t), some (.int l.length), some (.int (MB.ch (m - i) re.length)), some (.int z), some (.int acc.length), x, y]) (by omega) (by omega) ⟨rfl, [], l, 0, none, none, rfl, by simp, hl, rfl⟩ ?_ ?_
   . rintro i σ' H' hi ⟨rfl, acc, re, z, x, y, el, en, ri, rfl⟩
     have hi' : i < m := by omega
     have hre := ri.len
     left
     have ek : (l.length : Int) - (acc.length : Int) = (re.length : Int) := by
      rw [el, List.length_append]; omega
     rw [ek]
     refine qk (by omega) (by omega) (by omega) (by omega) ?_
     rw [Kg hi' hre]
     left
     have ec := ch_hv (k := re.length) hi'
     have no : (∀ w r2, re = w :: r2 -> ¬ w = i) -> MB.nm m 0 l = (z + MB.hv (m - i) re.length) + MB.nm (m - (i + 1)) (i + 1) re /\ MB.Ris (i + 1) m re := fun hne => by
      refine ⟨?_, ?_⟩
      . rw [en, nm_ne' hi' hne]; omega
      . cases re with
        | nil => trivial
        | cons w r2 =>
         obtain ⟨a1, a2, a3⟩ := ri
         have := hne w r2 rfl
         exact ⟨by omega, a2, a3⟩
     have e1 : (MB.ch (m - i) re.length : Int) - (MB.hv (m - i) re.length : Int) = ((MB.ch (m - (i + 1)) re.length : Nat) : Int) := by omega
     have e2 : (z : Int) + (MB.hv (m - i) re.length : Int) = ((z + MB.hv (m - i) re.length : Nat) : Int) := by omega
     refine za (fun h5 => ?_) (fun h5 => ?_)
     . left
       obtain ⟨w, r2, rfl⟩ : ∃ w r2, re = w :: r2 := by
        cases re with
        | nil => rw [el, List.append_nil] at h5; omega
        | cons w r2 => exact ⟨w, r2, rfl⟩
       refine Bc (xs := (zs l).map V.int) ht (Ab (x := w) (by rw [el]; simp)) ?_
       left
       refine za (fun h6 => ?_) (fun h6 => ?_)
       . left
         have h6' : w = i := by omega
         subst h6'
         obtain ⟨a1, a2, a3⟩ := ri
         refine ⟨rfl, acc ++ [w], r2, z, some (.int w), some (.int (MB.ch (m - (w + 1)) r2.length)), by rw [el, List.append_assoc]; rfl, by rw [en, nm_eq' hi'], a3, ?_⟩
         rw [List.length_cons, ux hi', List.length_append, List.length_cons, List.length_nil]
         rfl
       . left
         obtain ⟨n1, n2⟩ := no fun w' r' q => by cases q; omega
         refine ⟨rfl, acc, w :: r2, _, some (.int i), some (.int (MB.hv (m - i) (w :: r2).length)), el, n1, n2, ?_⟩
         rw [e1, e2]
         rfl
     . left
       obtain ⟨n1, n2⟩ := no fun w' r' q => by subst q; rw [el, List.length_append, List.length_cons] at h5; omega
       refine ⟨rfl, acc, re, _, some (.int i), some (.int (MB.hv (m - i) re.length)), el, n1, n2, ?_⟩
       rw [e1, e2]
       rfl
   . rintro σ' H' ⟨rfl, acc, re, z, x, y, el, en, ri, rfl⟩
     left
     have e0 : m - (m : Int).toNat = 0 := by omega
     rw [e0] at en
     have e1 : MB.nm m 0 l = z := by rw [en]; simp [MB.nm]
     rw [e1] at q
     exact q
theorem Ek (T : Txt mg) (U : Up K mg "fits_vote" Me ["count", "sit", "seats", "needed", "word"]) : bf P w K mg base := by
 have sc := xk
 refine Callee.of (k := 0) U sc (fun vs H Q E h => ?_) (fun f cdv A outer s H vs Q E hr h => ?_)
 . obtain ⟨c, s, n, q, w, rfl, _⟩ := h; rfl
 . obtain ⟨c, s, n, q, w, rfl, ⟨f1, f2, f3, f4, f5, f6, f7⟩, k⟩ := h
   have hu := hr.units
   conv in (Ha _) => whnf
   with_reducible refine ⟨_, (ba (Sa (PW.pt (Nd (va xj (pv 2) (pv 0) ‹Ca _›) (Nd (va (leK (K := K) ‹rfl› ‹hu›) (Ma ub (pv 3) qa) (pv 1) ‹Ca _›) (Cc (va xj (pv 3) (pv 1) ‹Ca _›))))) (ka (Ea Tc)) Ka) (ba (Sa (va (eqK (K := K) ‹rfl› ‹hu›) (pv 4) Ra ‹Ca _›) (ka (Ea (Cd (leK (K := K) ‹rfl› ‹hu›) (pv 2) (pv 1) ‹Ca _›))) Ka) (ba (Sa (va (eqK (K := K) ‹rfl› ‹hu›) (pv 4) Ra ‹Ca _›) (ka (Ea (Cd (eqK (K := K) ‹rfl› ‹hu›) (pv 2) (pv 1) ‹Ca _›))) Ka) (ka (Ea (Cd (eqK (K := K) ‹rfl› ‹hu›) (pv 4) Ra ‹Ca _›)))))), ?_⟩
   rw [show L2.start ["count", "sit", "seats", "needed", "word"] [V.int c, V.int s, V.int n, V.int q, V.str (wdS w)] = [some (V.int c), some (V.int s), some (V.int n), some (V.int q), some (V.str (wdS w))] from rfl]
   left
   refine za (fun h1 => by omega) (fun _ => ?_)
   left
   refine za (fun h1 => by omega) (fun _ => ?_)
   left
   refine za (fun h1 => by omega) (fun _ => ?_)
   left
   cases w with
   | council =>
    refine za (fun h1 => absurd h1 (by decide)) (fun _ => ?_)
    left
    refine za (fun h1 => absurd h1 (by decide)) (fun _ => ?_)
    left
    exact k
   | bench =>
    refine za (fun h1 => ?_) (fun h1 => absurd rfl h1)
    left
    rw [decide_eq_true (show (n : Int) <= (s : Int) by have := f6 rfl; omega)]
    exact k
   | stay =>
    refine za (fun h1 => absurd h1 (by decide)) (fun _ => ?_)
    left
    refine za (fun h1 => ?_) (fun h1 => absurd rfl h1)
    left
    rw [decide_eq_true (show (n : Int) = (s : Int) by have := f7 rfl; omega)]
    exact k
theorem ax (T : Txt mg) (U : Up K mg "fits" Wq ["count", "sit", "step"]) (C_fits_vote : bf P w K mg base) : Ct P w K mg base := by
 have sc := cw
 refine Callee.of (k := 1) U sc (fun vs H Q E h => ?_) (fun f cdv A outer s H vs Q E hr h => ?_)
 . obtain ⟨c, s, p, r, rfl, _⟩ := h; rfl
 . obtain ⟨c, s, p, r, rfl, hp, ft, k⟩ := h
   have hu := hr.units
   conv in (Ha _) => whnf
   with_reducible refine ⟨_, (ba (Sa (PW.pt (Nd (va (ltK (K := K) ‹rfl› ‹hu›) (Na (ixK (K := K) ‹rfl›) (pv 2) qa ‹fun _ _ => rfl›) qa ‹Ca _›) (Cc (va xj (Na (ixK (K := K) ‹rfl›) (pv 2) qa ‹fun _ _ => rfl›) (Qn ‹rfl› ‹T.m_MOST_SEATS›) ‹Ca _›)))) (ka (Ea Tc)) Ka) (ba (Sa (PW.pt (qf (va (eqK (K := K) ‹rfl› ‹hu›) (Na (ixK (K := K) ‹rfl›) (pv 2) qa ‹fun _ _ => rfl›) Ra ‹Ca _›) (Bd (va (eqK (K := K) ‹rfl› ‹hu›) (Ga (lenK (K := K) ‹rfl›) ‹rfl› ‹T.b_len› Va (aa (pv 2) da)) qa ‹Ca _›)))) (ka (Ea (Cd (leK (K := K) ‹rfl› ‹hu›) (Na (ixK (K := K) ‹rfl›) (pv 2) qa ‹fun _ _ => rfl›) (pv 1) ‹Ca _›))) Ka) (ba (Sa (PW.pt (qf (va (eqK (K := K) ‹rfl› ‹hu›) (Na (ixK (K := K) ‹rfl›) (pv 2) qa ‹fun _ _ => rfl›) Ra ‹Ca _›) (Bd (va (eqK (K := K) ‹rfl› ‹hu›) (Ga (lenK (K := K) ‹rfl›) ‹rfl› ‹T.b_len› Va (aa (pv 2) da)) qa ‹Ca _›)))) (ka (Ea (pe_c ‹C_fits_vote› ‹hr.mono (by decide)› ‹rfl› (aa (pv 0) (aa (pv 1) (aa (Na (ixK (K := K) ‹rfl›) (pv 2) qa ‹fun _ _ => rfl›) (aa (Na (ixK (K := K) ‹rfl›) (pv 2) qa ‹fun _ _ => rfl›) (aa (Na (ixK (K := K) ‹rfl›) (pv 2) qa ‹fun _ _ => rfl›) da)))))))) Ka) (ka (Ea Tc))))), ?_⟩
   rw [show L2.start ["count", "sit", "step"] [V.int c, V.int s, V.ref p] = [some (V.int c), some (V.int s), some (V.ref p)] from rfl]
   cases r with
   | lot n =>
    have hp' : H p = some (.tup [.str "lot", .int n]) := hp
    obtain ⟨f1, f2, f3⟩ := ft
    left
    refine za (fun h1 => by omega) (fun _ => ?_)
    left
    refine za (fun h1 => by omega) (fun _ => ?_)
    left
    refine za (fun _ => ?_) (fun h1 => absurd rfl h1)
    left
    refine za (fun _ => ?_) (fun h1 => absurd rfl h1)
    left
    rw [decide_eq_true (show (n : Int) <= (s : Int) by omega)]
    exact k
   | vote n q w =>
    have hp' : H p = some (.tup [.str "vote", .int n, .int q, .str (wdS w)]) := hp
    have ft' := ft
    obtain ⟨f1, f2, f3⟩ := ft'
    left
    refine za (fun h1 => by omega) (fun _ => ?_)
    left
    refine za (fun h1 => by omega) (fun _ => ?_)
    left
    refine za (fun h1 => absurd h1 (by decide)) (fun _ => ?_)
    left
    refine za (fun _ => ?_) (fun h1 => absurd rfl h1)
    left
    refine za (fun _ => ?_) (fun h1 => absurd rfl h1)
    left
    exact nk ft k
theorem su (T : Txt mg) (U : Up K mg "sizes" Rl ["count", "row"]) (C_fits : Ct P w K mg base) : Lm P w K mg base := by
 have sc := Pt
 refine Callee.of (k := 2) U sc (fun vs H Q E h => ?_) (fun f cdv A outer s H vs Q E hr h => ?_)
 . obtain ⟨c, a, ps, rs, rfl, _⟩ := h; rfl
 . obtain ⟨c, a, ps, rs, rfl, ⟨R, c1, c2, ft, ln⟩, q⟩ := h
   have hu := hr.units
   conv in (Ha _) => whnf
   with_reducible refine ⟨_, (ba (Sa (PW.pt (Nd (va (ltK (K := K) ‹rfl› ‹hu›) (pv 0) qa ‹Ca _›) (Cc (va xj (pv 0) (Qn ‹rfl› ‹T.m_MOST_PEOPLE›) ‹Ca _›)))) (ka nc) Ka) (ba (xa (i := 2) ‹sc.nd› ‹rfl› ‹Or.inl rfl› (pv 0)) (ba (xa (i := 3) ‹sc.nd› ‹rfl› ‹Or.inl rfl› (ab da)) (ba (jb PassesOwn.never ‹rfl› (Zd ‹rfl› ‹T.b_enumerate› (aa (pv 1) da)) (fe (K := K) (n := 2) ‹rfl› ‹rfl› (Pa (Aa (i := 4) ‹sc.nd› ‹rfl› ‹Or.inl rfl›) (Pa (Aa (i := 5) ‹sc.nd› ‹rfl› ‹Or.inl rfl›) Eb))) (ba (Sa (rf (truK (K := K) ‹rfl› (pe_c ‹C_fits› ‹hr.mono (by decide)› ‹rfl› (aa (pv 0) (aa (pv 2) (aa (pv 5) da)))))) (ka nc) Ka) (ba (xa (i := 2) ‹sc.nd› ‹rfl› ‹Or.inl rfl› (Na (ixK (K := K) ‹rfl›) (pv 5) qa ‹fun _ _ => rfl›)) (ka (ib (md ‹PySem.F.plainAttrs_list› ‹PySem.F.slot_list_append› ‹PySem.F.type_list_append› ‹cb› (pv 3) (aa (pv 2) da))))))) (ka (Ea (pv 3))))))), ?_⟩
   rw [show L2.start ["count", "row", "sit", "found", "at", "step"] [V.int c, V.ref a] = [some (V.int c), some (V.ref a), none, none, none, none] from rfl]
   left
   refine za (fun h1 => by omega) (fun _ => ?_)
   left
   refine za (fun h1 => by omega) (fun _ => ?_)
   left
   intro f hf
   left
   have haf : a ≠ f := oa R.ls hf
   refine forE (a := a) (xs := ps.map V.ref) (fun i σ' H' => ∃ x y : Option V, Fr1 f H H' /\ H' f = some (lstN (szs (rs.take i))) /\ σ' = [some (.int c), some (.ref a), some (.int (Qa c (rs.take i) : Nat)), some (.ref f), x, y]) ⟨none, none, (Fr1.refl f H).upd, ja, rfl⟩ (fun i σ' H' _ ⟨_, _, fr, _⟩ => fr.get R.ls haf) ?_ ?_
   . rintro i x σ' H' T hi ⟨x1, y1, fr, hf', rfl⟩ hT
     obtain ⟨p, r, rfl, hp, hr', ho⟩ := R.get hi
     have hpf : p ≠ f := oa ho hf
     have ho' : H' p = some (rnO r) := fr.get ho hpf
     have hpT : p ≠ T := oa ho' hT
     have hfT : f ≠ T := oa hf' hT
     have fit := ft.at hr'
     left
     refine Mt (rb hpT ho') fit ?_
     left
     obtain ⟨xs, e1, e2⟩ := rn_n r
     refine Bc (xs := xs) (by rw [<- e1]; exact rb hpT ho') e2 ?_
     left
     refine lj (xs := (zs (szs (rs.take i))).map V.int) (rb hfT hf') ?_
     left
     refine gb (xs := (zs (szs (rs.take i))).map V.int) (rb hfT hf') (by rw [ua, sizeLine_eq]; unfold szs; rw [List.length_map, List.length_take]; omega) ?_
     left
     have en := BR.Ja hr'
     refine ⟨some (.int i), some (.ref p), ((fr.new hT).upd), ?_, ?_⟩
     . rw [ja, lst_snoc, en]
       show some (lstN _) = some (lstN _)
       congr 2
       unfold szs
       rw [List.map_append]; rfl
     . rw [en, Wa]; rfl
   . rintro σ' H' ⟨x1, y1, fr, hf', rfl⟩
     left
     rw [List.length_map, R.ln, List.take_length] at hf'
     exact q f H' hf (fun b o z => fr b o z (oa z hf)) hf'
theorem Ph (T : Txt mg) (U : Up K mg "sizes_ahead" sd ["count", "row"]) (C_sizes : Lm P w K mg base) : Qb P w K mg base := by
 have sc := Jh
 refine Callee.of (k := 3) U sc (fun vs H Q E h => ?_) (fun f cdv A outer s H vs Q E hr h => ?_)
 . obtain ⟨c, a, ps, rs, rfl, _⟩ := h; rfl
 . obtain ⟨c, a, ps, rs, rfl, R, q⟩ := h
   have hu := hr.units
   conv in (Ha _) => whnf
   with_reducible refine ⟨_, (ka (Ea (Ma (addK (K := K) ‹rfl›) (ab (aa (pv 0) da)) (pe_c ‹C_sizes› ‹hr.mono (by decide)› ‹rfl› (aa (pv 0) (aa (pv 1) da)))))), ?_⟩
   rw [show L2.start ["count", "row"] [V.int c, V.ref a] = [some (V.int c), some (V.ref a)] from rfl]
   left
   intro f hf
   have s1 : Same H (upd H f (.lst [.int c])) := (Same.refl H).new hf
   left
   refine Rp (R.same s1) fun p H' hp s2 hp' => ?_
   have ln := R.ln
   refine Pe (xs := [.int c]) (ys := (zs (szs rs)).map V.int) (s2 _ _ ja) hp' (by rw [ua, sizeLine_eq]; unfold szs; rw [List.length_map]; simp only [List.length_cons, List.length_nil]; omega) fun p2 hp2 => ?_
   exact q p2 _ (s1.free (s2.free hp2)) ((s1.tr s2).new hp2) ja
theorem qu (T : Txt mg) (U : Up K mg "whole" Ql ["count", "row"]) (C_sizes_ahead : Qb P w K mg base) : Km P w K mg base := by
 have sc := Ot
 refine Callee.of (k := 4) U sc (fun vs H Q E h => ?_) (fun f cdv A outer s H vs Q E hr h => ?_)
 . obtain ⟨c, a, ps, rs, rfl, _⟩ := h; rfl
 . obtain ⟨c, a, ps, rs, rfl, R, q⟩ := h
   have hu := hr.units
   conv in (Ha _) => whnf
   with_reducible refine ⟨_, (ka (Ea (Cd (eqK (K := K) ‹rfl› ‹hu›) (Na (ixK (K := K) ‹rfl›) (pe_c ‹C_sizes_ahead› ‹hr.mono (by decide)› ‹rfl› (aa (pv 0) (aa (pv 1) da))) (Qe wc qa) ‹fun _ _ => rfl›) qa ‹Ca _›))), ?_⟩
   rw [show L2.start ["count", "row"] [V.int c, V.ref a] = [some (V.int c), some (V.ref a)] from rfl]
   left
   refine ff R fun p H1 hp s1 hp1 => ?_
   left
   have hat : atI ((zs (c :: szs rs)).map V.int) (-1) = some (.int (Qa c rs : Nat)) := yt (by
    have := se (s := c) (rs := rs) (i := rs.length) (Nat.le_refl _)
    rw [List.take_length] at this
    exact this) (by rw [List.length_cons]; unfold szs; rw [List.length_map])
   refine Ta (xs := (zs (c :: szs rs)).map V.int) hp1 hat ?_
   left
   rw [show decide (((Qa c rs : Nat) : Int) = 1) = decide (Qa c rs = 1) by by_cases z : Qa c rs = 1 <;> simp [z]; omega]
   exact q _ s1
theorem Cj (T : Txt mg) (U : Up K mg "need_whole" Td ["count", "row"]) (C_whole : Km P w K mg base) : we P w K mg base := by
 have sc := Ui
 refine Callee.of (k := 5) U sc (fun vs H Q E h => ?_) (fun f cdv A outer s H vs Q E hr h => ?_)
 . obtain ⟨c, a, ps, rs, rfl, _⟩ := h; rfl
 . obtain ⟨c, a, ps, rs, rfl, R, hw, q⟩ := h
   have hu := hr.units
   conv in (Ha _) => whnf
   with_reducible refine ⟨_, (ka (Sa (rf (truK (K := K) ‹rfl› (pe_c ‹C_whole› ‹hr.mono (by decide)› ‹rfl› (aa (pv 0) (aa (pv 1) da))))) (ka nc) Ka)), ?_⟩
   rw [show L2.start ["count", "row"] [V.int c, V.ref a] = [some (V.int c), some (V.ref a)] from rfl]
   left
   refine Mp R fun H1 s1 => ?_
   rw [decide_eq_true hw]
   left
   exact q _ s1
theorem kh (T : Txt mg) (U : Up K mg "need_friends" Oc ["count", "friends", "row"]) (C_need_whole : we P w K mg base) : Wb P w K mg base := by
 have sc := Tg
 refine Callee.of (k := 6) U sc (fun vs H Q E h => ?_) (fun f cdv A outer s H vs Q E hr h => ?_)
 . obtain ⟨c, f, a, ps, rs, rfl, _⟩ := h; rfl
 . obtain ⟨c, f, a, ps, rs, rfl, R, hw, hf, q⟩ := h
   have hu := hr.units
   conv in (Ha _) => whnf
   with_reducible refine ⟨_, (ba (ib (pe_c ‹C_need_whole› ‹hr.mono (by decide)› ‹rfl› (aa (pv 0) (aa (pv 2) da)))) (ka (Sa (PW.pt (Nd (va (ltK (K := K) ‹rfl› ‹hu›) (pv 1) qa ‹Ca _›) (Cc (va xj (pv 1) (pv 0) ‹Ca _›)))) (ka nc) Ka))), ?_⟩
   rw [show L2.start ["count", "friends", "row"] [V.int c, V.int f, V.ref a] = [some (V.int c), some (V.int f), some (V.ref a)] from rfl]
   left
   refine gq R hw fun H1 s1 => ?_
   left
   refine za (fun h1 => by omega) (fun _ => ?_)
   left
   refine za (fun h1 => by omega) (fun _ => ?_)
   left
   exact q _ s1
theorem Qh (T : Txt mg) (U : Up K mg "round_draws" ud ["count", "sit", "step"]) (C_ways : kl P w K mg base) : uc P w K mg base := by
 have sc := Kh
 refine Callee.of (k := 1) U sc (fun vs H Q E h => ?_) (fun f cdv A outer s H vs Q E hr h => ?_)
 . obtain ⟨c, s, p, r, rfl, _⟩ := h; rfl
 . obtain ⟨c, s, p, r, rfl, hp, h1, h2, k⟩ := h
   have hu := hr.units
   conv in (Ha _) => whnf
   with_reducible refine ⟨_, (ba (Sa (PW.pt (Nd (va (eqK (K := K) ‹rfl› ‹hu›) (Na (ixK (K := K) ‹rfl›) (pv 2) qa ‹fun _ _ => rfl›) Ra ‹Ca _›) (Cc (va (eqK (K := K) ‹rfl› ‹hu›) (Na (ixK (K := K) ‹rfl›) (pv 2) qa ‹fun _ _ => rfl›) Ra ‹Ca _›)))) (ka (Ea (pe_c ‹C_ways› ‹hr.mono (by decide)› ‹rfl› (aa (pv 1) (aa (Na (ixK (K := K) ‹rfl›) (pv 2) qa ‹fun _ _ => rfl›) da))))) Ka) (ba (Sa (va (eqK (K := K) ‹rfl› ‹hu›) (Na (ixK (K := K) ‹rfl›) (pv 2) qa ‹fun _ _ => rfl›) Ra ‹Ca _›) (ka (Ea (pe_c ‹C_ways› ‹hr.mono (by decide)› ‹rfl› (aa (pv 0) (aa (Na (ixK (K := K) ‹rfl›) (pv 2) qa ‹fun _ _ => rfl›) da))))) Ka) (ka (Ea qa)))), ?_⟩
   rw [show L2.start ["count", "sit", "step"] [V.int c, V.int s, V.ref p] = [some (V.int c), some (V.int s), some (V.ref p)] from rfl]
   cases r with
   | lot n =>
    have hp' : H p = some (.tup [.str "lot", .int n]) := hp
    left
    refine za (fun _ => ?_) (fun h1 => absurd rfl h1)
    left
    refine kc (by omega) ?_
    rw [MB.Wj]
    exact k
   | vote n q w =>
    have hp' : H p = some (.tup [.str "vote", .int n, .int q, .str (wdS w)]) := hp
    left
    refine za (fun h1 => absurd h1 (by decide)) (fun _ => ?_)
    left
    cases w with
    | council =>
     refine za (fun h1 => absurd h1 (by decide)) (fun _ => ?_)
     left
     refine za (fun _ => ?_) (fun h1 => absurd rfl h1)
     left
     refine kc (by omega) ?_
     rw [MB.Wj]
     exact k
    | bench =>
     refine za (fun _ => ?_) (fun h1 => absurd rfl h1)
     left
     refine kc (by omega) ?_
     rw [MB.Wj]
     exact k
    | stay =>
     refine za (fun h1 => absurd h1 (by decide)) (fun _ => ?_)
     left
     refine za (fun h1 => absurd h1 (by decide)) (fun _ => ?_)
     left
     exact k
theorem Gk (T : Txt mg) (U : Up K mg "draws_row" Oe ["count", "row"]) (C_sizes_ahead : Qb P w K mg base) (C_round_draws : uc P w K mg base) : Tb P w K mg base := by
 have sc := yk
 refine Callee.of (k := 4) U sc (fun vs H Q E h => ?_) (fun f cdv A outer s H vs Q E hr h => ?_)
 . obtain ⟨c, a, ps, rs, rfl, _⟩ := h; rfl
 . obtain ⟨c, a, ps, rs, rfl, R, q⟩ := h
   have hu := hr.units
   conv in (Ha _) => whnf
   with_reducible refine ⟨_, (ka (Ea (Te ["count"] ["step", "sit"] [0] (by with_unfolding_all rfl) ‹rfl› ‹rfl› (Nn ‹rfl› ‹T.b_zip› (aa (pv 1) (aa (pe_c ‹C_sizes_ahead› ‹hr.mono (by decide)› ‹rfl› (aa (pv 0) (aa (pv 1) da))) da))) (by decide) ‹rfl› (by decide) ‹⟨rfl, trivial⟩› (by with_unfolding_all rfl) (fun _ => ‹⟨cap1 rfl rfl rfl rfl, trivial⟩›) (fun _ _ _ _ => (fe (K := K) (n := 2) ‹rfl› ‹rfl› (Pa (Aa (i := 1) ‹show List.Nodup (["count", "step", "sit"] : List Str) from by decide +kernel› ‹rfl› ‹Or.inl rfl› ‹.inr rfl›) (Pa (Aa (i := 2) ‹show List.Nodup (["count", "step", "sit"] : List Str) from by decide +kernel› ‹rfl› ‹Or.inl rfl› ‹.inr rfl›) Eb)))) (fun _ _ _ _ => Lb) (fun _ _ _ _ => (pe_c ‹C_round_draws› ‹hr.mono (by decide)› ‹rfl› (aa (pv 0) (aa (pv 2) (aa (pv 1) da)))))))), ?_⟩
   rw [show L2.start ["count", "row"] [V.int c, V.ref a] = [some (V.int c), some (V.ref a)] from rfl]
   left
   refine ff R fun p H1 hp s1 hp1 => ?_
   have R1 := R.same s1
   have c2 := R.c2
   have ln := R.ln
   have rl := R.rw.ln
   refine Iu (a1 := a) (a2 := p) (xs := ps.map V.ref) (ws := (zs (c :: szs rs)).map V.int) [some (.int c)] (fun i ys H' => Same H1 H' /\ ys = (zs (drs c c (rs.take i))).map V.int) rfl (by rw [List.length_map, sizeLine_eq]; omega) ⟨fun _ _ z => z, rfl⟩
    (fun i ys H' _ _ ⟨s, _⟩ => ⟨s _ _ R1.rw.ls, s _ _ hp1⟩) (fun i ys H' ⟨_, e⟩ => by rw [e, ua, wb, List.length_take]; omega) ?_ ?_
   . rintro i x w ys z1 z2 H' T hi hw ⟨s, rfl⟩ hT
     obtain ⟨p2, r, rfl, _, hr', ho⟩ := R1.rw.get hi
     have hil : i < rs.length := (List.getElem?_eq_some_iff.mp hr').1
     have ew : w = .int (Qa c (rs.take i) : Nat) := by
      have := se (s := c) (rs := rs) (i := i) (by omega)
      unfold zs at hw
      rw [List.getElem?_map, List.getElem?_map, this] at hw
      exact (Option.some.inj hw).symm
     subst ew
     have lb := zb (R.ft.take i) R.c1 (Nat.le_refl _)
     left
     refine Lc (r := r) (rb (oa (s _ _ ho) hT) (s _ _ ho)) (by omega) (by omega) ?_
     refine ⟨⟨s.new hT, ?_⟩, _, _, rfl⟩
     rw [BR.Ja hr', Oj, <- lst_snoc]
   . rintro ys H' ⟨s, rfl⟩ D hD
     have e : min (ps.map V.ref).length ((zs (c :: szs rs)).map V.int).length = rs.length := by
      rw [ua, List.length_map, List.length_cons]; unfold szs; rw [List.length_map]; omega
     rw [e, List.take_length]
     exact q D _ (s1.free (s.free hD)) ((s1.tr s).new hD) ja
theorem xu (T : Txt mg) (U : Up K mg "draws" Wl ["count", "row"]) (C_draws_row : Tb P w K mg base) : Pm P w K mg base := by
 have sc := Ut
 refine Callee.of (k := 5) U sc (fun vs H Q E h => ?_) (fun f cdv A outer s H vs Q E hr h => ?_)
 . obtain ⟨c, a, ps, rs, rfl, _⟩ := h; rfl
 . obtain ⟨c, a, ps, rs, rfl, R, q⟩ := h
   have hu := hr.units
   conv in (Ha _) => whnf
   with_reducible refine ⟨_, (ba (xa (i := 2) ‹sc.nd› ‹rfl› ‹Or.inl rfl› qa) (ba (jb PassesOwn.never ‹rfl› (piLK (K := K) ‹rfl› (pe_c ‹C_draws_row› ‹hr.mono (by decide)› ‹rfl› (aa (pv 0) (aa (pv 1) da)))) (Aa (i := 3) ‹sc.nd› ‹rfl› ‹Or.inl rfl›) (ka (jd (i := 2) ‹sc.nd› ‹rfl› ‹Or.inl rfl› (pv 3) xv))) (ka (Ea (pv 2))))), ?_⟩
   rw [show L2.start ["count", "row", "found", "many"] [V.int c, V.ref a] = [some (V.int c), some (V.ref a), none, none] from rfl]
   left
   refine Jb R fun p H1 hp s1 hp1 => ?_
   have lt := qd R.ft (Nat.le_refl _) (by have := R.c2; omega)
   have ln := R.ln
   have dl := wb c rs c
   refine forL (a := p) (xs := (zs (drs c c rs)).map V.int) (fun i σ' H' => H' = H1 /\ ∃ x : Option V, σ' = [some (.int c), some (.ref a), some (.int (Ba ((drs c c rs).take i) : Nat)), x]) ⟨rfl, none, rfl⟩ (fun i σ' H' _ ⟨e, _⟩ => by subst e; exact SqL.of hp1) ?_ ?_
   . rintro i x σ' H' hi ⟨rfl, x1, rfl⟩
     obtain ⟨n, hn, rfl⟩ : ∃ n, (drs c c rs)[i]? = some n /\ V.int (n : Nat) = x := by
      unfold zs at hi
      rw [List.getElem?_map, List.getElem?_map] at hi
      cases w : (drs c c rs)[i]? with
      | none => rw [w] at hi; cases hi
      | some n => rw [w] at hi; exact ⟨n, rfl, Option.some.inj hi⟩
     have hil : i < (drs c c rs).length := (List.getElem?_eq_some_iff.mp hn).1
     have b1 := Vb (b := 512) ((drs c c rs).take i) fun y hy => lt y (List.mem_of_mem_take hy)
     have b2 := lt n (List.mem_of_getElem? hn)
     left
     refine r_ipC (.of _ 512 (by rw [Int.natAbs_natCast]; exact b1) (by rw [Int.natAbs_natCast]; exact b2) (by rw [List.length_take]; omega)) ?_
     refine ⟨rfl, some (.int n), ?_⟩
     rw [BR.Ja hn, Lf, Int.natCast_mul]
     rfl
   . rintro σ' H' ⟨rfl, x1, rfl⟩
     left
     rw [ua, List.take_length]
     exact q _ s1
theorem lh (T : Txt mg) (U : Up K mg "draws_behind" Pc ["count", "row"]) (C_draws_row : Tb P w K mg base) : Zc P w K mg base := by
 have sc := Ug
 refine Callee.of (k := 5) U sc (fun vs H Q E h => ?_) (fun f cdv A outer s H vs Q E hr h => ?_)
 . obtain ⟨c, a, ps, rs, rfl, _⟩ := h; rfl
 . obtain ⟨c, a, ps, rs, rfl, R, q⟩ := h
   have hu := hr.units
   conv in (Ha _) => whnf
   with_reducible refine ⟨_, (ba (xa (i := 2) ‹sc.nd› ‹rfl› ‹Or.inl rfl› (ab da)) (ba (xa (i := 3) ‹sc.nd› ‹rfl› ‹Or.inl rfl› qa) (ba (jb PassesOwn.never ‹rfl› (piLK (K := K) ‹rfl› (Se (K := K) ‹rfl› (pe_c ‹C_draws_row› ‹hr.mono (by decide)› ‹rfl› (aa (pv 0) (aa (pv 1) da))) (Qe wc qa))) (Aa (i := 4) ‹sc.nd› ‹rfl› ‹Or.inl rfl›) (ba (ib (md ‹PySem.F.plainAttrs_list› ‹PySem.F.slot_list_append› ‹PySem.F.type_list_append› ‹cb› (pv 2) (aa (pv 3) da))) (ka (jd (i := 3) ‹sc.nd› ‹rfl› ‹Or.inl rfl› (pv 4) xv)))) (ka (Ea (Se (K := K) ‹rfl› (pv 2) (Qe wc qa))))))), ?_⟩
   rw [show L2.start ["count", "row", "found", "many", "own"] [V.int c, V.ref a] = [some (V.int c), some (V.ref a), none, none, none] from rfl]
   left
   intro fa hfa
   have s0 := (Same.refl H).new (o := .lst []) hfa
   have R0 := R.same s0
   have a0 : upd H fa (.lst []) fa = some (.lst []) := ja
   generalize upd H fa (.lst []) = H0 at s0 R0 a0 ⊢
   left
   refine Jb R0 fun p H1 hp s1 hp1 => ?_
   have a1 := s1 _ _ a0
   left
   have lt := qd R.ft (Nat.le_refl _) (by have := R.c2; omega)
   have ln := R.ln
   have dl := wb c rs c
   generalize hD : drs c c rs = L at *
   refine dh (xs := (zs L).map V.int) hp1 ?_
   intro pr hpr
   have s2 := (Same.refl H1).new (o := .lst ((zs L).map V.int).reverse) hpr
   have a2 := s2 _ _ a1
   have h2 : upd H1 pr (.lst ((zs L).map V.int).reverse) pr = some (.lst ((zs L).map V.int).reverse) := ja
   have nfp : fa ≠ pr := oa a1 hpr
   have S2 := (s0.tr s1).tr s2
   generalize upd H1 pr (.lst ((zs L).map V.int).reverse) = H2 at s2 a2 h2 S2 ⊢
   have sl := Fl L
   refine forL (a := pr) (xs := ((zs L).map V.int).reverse) (fun i σ' H' => i <= L.length /\ Fr1 fa H2 H' /\ H' fa = some (.lst ((zs ((sfx L).drop (L.length - i)).reverse).map V.int)) /\ ∃ x : Option V, σ' = [some (.int c), some (.ref a), some (.ref fa), some (.int (Ba (L.drop (L.length - i)) : Nat)), x]) ⟨Nat.zero_le _, Fr1.refl _ _, by rw [Nat.sub_zero, List.drop_eq_nil_of_le (by omega)]; exact a2, none, by rw [Nat.sub_zero, List.drop_length]; rfl⟩ (fun i σ' H' _ h => by obtain ⟨_, fr, _⟩ := h; exact SqL.of (fr.get h2 nfp.symm)) ?_ ?_
   . rintro i x σ' H' hi ⟨_, fr, hf, x1, rfl⟩
     have hil : i < L.length := by
      have := (List.getElem?_eq_some_iff.mp hi).1
      rw [List.length_reverse, ua] at this
      exact this
     obtain ⟨j, hj⟩ : ∃ j, j = L.length - 1 - i := ⟨_, rfl⟩
     obtain ⟨n, hn, rfl⟩ : ∃ n, L[j]? = some n /\ V.int (n : Nat) = x := by
      rw [List.getElem?_reverse (by rw [ua]; exact hil), ua, <- hj] at hi
      unfold zs at hi
      rw [List.getElem?_map, List.getElem?_map] at hi
      cases w : L[j]? with
      | none => rw [w] at hi; cases hi
      | some n => rw [w] at hi; exact ⟨n, rfl, Option.some.inj hi⟩
     have b1 := Vb (b := 512) (L.drop (L.length - i)) fun y hy => lt y (List.mem_of_mem_drop hy)
     have b2 := lt n (List.mem_of_getElem? hn)
     have e1 : L.length - (i + 1) = j := by omega
     have e2 : L.length - i = j + 1 := by omega
     have sg : (sfx L)[j]? = some (Ba (L.drop (j + 1))) := Hl (by omega)
     left
     refine gb hf (by rw [ua, List.length_reverse, List.length_drop, sl, sizeLine_eq]; omega) ?_
     left
     refine r_ipC (.of _ 512 (by rw [Int.natAbs_natCast]; exact b1) (by rw [Int.natAbs_natCast]; exact b2) (by rw [List.length_drop]; omega)) ?_
     refine ⟨by omega, fr.upd, ?_, some (.int n), ?_⟩
     . rw [ja, e1, e2, vf sg, <- lst_snoc]
     . rw [e1, e2, qr hn, Int.natCast_mul, Int.mul_comm]
       rfl
   . rintro σ' H' ⟨_, fr, hf, x1, rfl⟩
     rw [List.length_reverse, ua, Nat.sub_self, List.drop_zero] at hf
     left
     refine dh hf ?_
     intro pz hpz
     have SS : Same H H' := fun b o hb => fr.get (S2 _ _ hb) (oa hb hfa)
     refine q pz _ (SS.free hpz) (SS.new hpz) ?_
     rw [ja, <- List.map_reverse]
     unfold lstN zs
     rw [<- List.map_reverse, List.reverse_reverse]
theorem Nr (T : Txt mg) (U : Up K mg "parted" Zi ["count", "row", "number"]) (C_draws_row : Tb P w K mg base) : Yj P w K mg base := by
 have sc := Mq
 refine Callee.of (k := 5) U sc (fun vs H Q E h => ?_) (fun f cdv A outer s H vs Q E hr h => ?_)
 . obtain ⟨c, a, ps, rs, N, rfl, _⟩ := h; rfl
 . obtain ⟨c, a, ps, rs, N, rfl, R, hN, q⟩ := h
   have hu := hr.units
   conv in (Ha _) => whnf
   with_reducible refine ⟨_, (ba (xa (i := 3) ‹sc.nd› ‹rfl› ‹Or.inl rfl› (ab da)) (ba (jb PassesOwn.never ‹rfl› (piLK (K := K) ‹rfl› (Se (K := K) ‹rfl› (pe_c ‹C_draws_row› ‹hr.mono (by decide)› ‹rfl› (aa (pv 0) (aa (pv 1) da))) (Qe wc qa))) (Aa (i := 4) ‹sc.nd› ‹rfl› ‹Or.inl rfl›) (ba (Xd (Ga Pk ‹rfl› ‹T.b_divmod› Vk (aa (pv 2) (aa (pv 4) da))) (fe (K := K) (n := 2) ‹rfl› ‹rfl› (Pa (Aa (i := 2) ‹sc.nd› ‹rfl› ‹Or.inl rfl›) (Pa (Aa (i := 5) ‹sc.nd› ‹rfl› ‹Or.inl rfl›) Eb)))) (ka (ib (md ‹PySem.F.plainAttrs_list› ‹PySem.F.slot_list_append› ‹PySem.F.type_list_append› ‹cb› (pv 3) (aa (pv 5) da)))))) (ba (Sa (va (neK (K := K) ‹rfl› ‹hu›) (pv 2) qa ‹Ca _›) (ka nc) Ka) (ka (Ea (Se (K := K) ‹rfl› (pv 3) (Qe wc qa))))))), ?_⟩
   rw [show L2.start ["count", "row", "number", "found", "many", "own"] [V.int c, V.ref a, V.int N] = [some (V.int c), some (V.ref a), some (V.int N), none, none, none] from rfl]
   left
   intro fa hfa
   have s0 := (Same.refl H).new (o := .lst []) hfa
   have R0 := R.same s0
   have a0 : upd H fa (.lst []) fa = some (.lst []) := ja
   generalize upd H fa (.lst []) = H0 at s0 R0 a0 ⊢
   left
   refine Jb R0 fun p H1 hp s1 hp1 => ?_
   have a1 := s1 _ _ a0
   left
   have c2 := R.c2
   have pos := Rf R.ft (Nat.le_refl _)
   have lt := qd R.ft (Nat.le_refl _) (by omega)
   have ln := R.ln
   have dl := wb c rs c
   have hN' : N < Ba (drs c c rs) := hN
   generalize hD : drs c c rs = L at *
   refine dh (xs := (zs L).map V.int) hp1 ?_
   intro pr hpr
   have s2 := (Same.refl H1).new (o := .lst ((zs L).map V.int).reverse) hpr
   have a2 := s2 _ _ a1
   have h2 : upd H1 pr (.lst ((zs L).map V.int).reverse) pr = some (.lst ((zs L).map V.int).reverse) := ja
   have nfp : fa ≠ pr := oa a1 hpr
   have S2 := (s0.tr s1).tr s2
   generalize upd H1 pr (.lst ((zs L).map V.int).reverse) = H2 at s2 a2 h2 S2 ⊢
   refine forL (a := pr) (xs := ((zs L).map V.int).reverse) (fun i σ' H' => i <= L.length /\ Fr1 fa H2 H' /\ H' fa = some (.lst ((zs (Uc (L.drop (L.length - i)) N).reverse).map V.int)) /\ ∃ x y : Option V, σ' = [some (.int c), some (.ref a), some (.int ((N / Ba (L.drop (L.length - i)) : Nat) : Int)), some (.ref fa), x, y]) ⟨Nat.zero_le _, Fr1.refl _ _, by rw [Nat.sub_zero, List.drop_length]; exact a2, none, none, by rw [Nat.sub_zero, List.drop_length]; show _ = [some (V.int c), some (V.ref a), some (V.int ((N / 1 : Nat) : Int)), some (V.ref fa), none, none]; rw [Nat.div_one]; rfl⟩ (fun i σ' H' _ h => by obtain ⟨_, fr, _⟩ := h; exact SqL.of (fr.get h2 nfp.symm)) ?_ ?_
   . rintro i x σ' H' hi ⟨_, fr, hf, x1, y1, rfl⟩
     have hil : i < L.length := by
      have := (List.getElem?_eq_some_iff.mp hi).1
      rw [List.length_reverse, ua] at this
      exact this
     obtain ⟨j, hj⟩ : ∃ j, j = L.length - 1 - i := ⟨_, rfl⟩
     obtain ⟨m, hm, rfl⟩ : ∃ m, L[j]? = some m /\ V.int (m : Nat) = x := by
      rw [List.getElem?_reverse (by rw [ua]; exact hil), ua, <- hj] at hi
      unfold zs at hi
      rw [List.getElem?_map, List.getElem?_map] at hi
      cases w : L[j]? with
      | none => rw [w] at hi; cases hi
      | some n => rw [w] at hi; exact ⟨n, rfl, Option.some.inj hi⟩
     have b2 := lt m (List.mem_of_getElem? hm)
     have m0 := pos m (List.mem_of_getElem? hm)
     have e1 : L.length - (i + 1) = j := by omega
     have e2 : L.length - i = j + 1 := by omega
     rw [e2] at hf ⊢
     have dd : Uc (L.drop j) N = N / Ba (L.drop (j + 1)) % m :: Uc (L.drop (j + 1)) N := by
      have hi' : j < L.length := (List.getElem?_eq_some_iff.mp hm).1
      rw [List.drop_eq_getElem_cons hi']
      rw [List.getElem?_eq_getElem hi'] at hm
      rw [Option.some.inj hm]
      rfl
     have ed : ((N / Ba (L.drop (j + 1)) : Nat) : Int) / ((m : Nat) : Int) = ((N / Ba (L.drop j) : Nat) : Int) := by rw [Nk N hm]; rfl
     have er : ((N / Ba (L.drop (j + 1)) : Nat) : Int) % ((m : Nat) : Int) = ((N / Ba (L.drop (j + 1)) % m : Nat) : Int) := rfl
     left
     refine Gn (qg.of 512 (by omega) (by rw [Int.natAbs_natCast]; exact b2) (by decide)) ?_
     rw [ed, er]
     intro pt hpt
     have hf' := rb (o := .tup [.int ((N / Ba (L.drop j) : Nat) : Int), .int ((N / Ba (L.drop (j + 1)) % m : Nat) : Int)]) (oa hf hpt) hf
     have fr' := fr.new (o := .tup [.int ((N / Ba (L.drop j) : Nat) : Int), .int ((N / Ba (L.drop (j + 1)) % m : Nat) : Int)]) hpt
     have ht : upd H' pt (.tup [.int ((N / Ba (L.drop j) : Nat) : Int), .int ((N / Ba (L.drop (j + 1)) % m : Nat) : Int)]) pt = some (.tup [.int ((N / Ba (L.drop j) : Nat) : Int), .int ((N / Ba (L.drop (j + 1)) % m : Nat) : Int)]) := ja
     generalize upd H' pt (.tup [.int ((N / Ba (L.drop j) : Nat) : Int), .int ((N / Ba (L.drop (j + 1)) % m : Nat) : Int)]) = HX at hf' fr' ht ⊢
     left
     refine gb hf' (by rw [ua, List.length_reverse, me, List.length_drop, sizeLine_eq]; omega) ?_
     left
     refine ⟨by omega, fr'.upd, ?_, some (.int m), some (.int ((N / Ba (L.drop (j + 1)) % m : Nat) : Int)), ?_⟩
     . rw [ja, e1, dd, List.reverse_cons, lst_snoc]
     . rw [e1]
       rfl
   . rintro σ' H' ⟨_, fr, hf, x1, y1, rfl⟩
     rw [List.length_reverse, ua, Nat.sub_self, List.drop_zero] at hf ⊢
     have SS : Same H H' := fun b o hb => fr.get (S2 _ _ hb) (oa hb hfa)
     rw [Nat.div_eq_of_lt hN']
     left
     refine ag (fun z => absurd rfl z) (fun _ => ?_)
     left
     refine dh hf ?_
     intro pz hpz
     refine q pz _ (SS.free hpz) (SS.new hpz) ?_
     rw [ja, <- List.map_reverse]
     unfold zs lstN zs
     rw [<- List.map_reverse, List.reverse_reverse]
theorem Aj (T : Txt mg) (U : Up K mg "ways_up_to" Qd ["many", "few"]) : ue P w K mg base := by
 have sc := Si
 refine Callee.of (k := 0) U sc (fun vs H Q E h => ?_) (fun f cdv A outer s H vs Q E hr h => ?_)
 . obtain ⟨m, k, rfl, _⟩ := h; rfl
 . obtain ⟨m, k, rfl, hm, hk, q⟩ := h
   have hu := hr.units
   conv in (Ha _) => whnf
   with_reducible refine ⟨_, (ba (xa (i := 2) ‹sc.nd› ‹rfl› ‹Or.inl rfl› (ab (aa qa da))) (ba (jb PassesOwn.never ‹rfl› (Cb ‹rfl› ‹T.b_range› (aa (pv 1) da)) (Aa (i := 3) ‹sc.nd› ‹rfl› ‹Or.inl rfl›) (ka (ib (md ‹PySem.F.plainAttrs_list› ‹PySem.F.slot_list_append› ‹PySem.F.type_list_append› ‹cb› (pv 2) (aa (Ma Nb (Ma ub (Na (ixK (K := K) ‹rfl›) (pv 2) (Qe wc qa) ‹fun _ _ => rfl›) (Ma Ya (pv 0) (pv 3))) (Ma (addK (K := K) ‹rfl›) (pv 3) qa)) da))))) (ka (Ea (pv 2))))), ?_⟩
   rw [show L2.start ["many", "few", "found", "taken"] [V.int m, V.int k] = [some (V.int m), some (V.int k), none, none] from rfl]
   left
   intro f hf
   left
   refine forR (fun i σ' H' => ∃ x : Option V, Fr1 f H H' /\ H' f = some (lstN (mr i (MB.ch m))) /\ σ' = [some (.int m), some (.int k), some (.ref f), x]) (by omega) (by omega) ⟨none, (Fr1.refl f H).upd, by rw [ja]; simp [mr, lstN, zs, MB.Ua], rfl⟩ ?_ ?_
   . rintro i σ' H' hi ⟨x1, fr, hf', rfl⟩
     left
     refine lj (xs := (zs (mr i (MB.ch m))).map V.int) hf' ?_
     left
     have hat : atI ((zs (mr i (MB.ch m))).map V.int) (-1) = some (.int (MB.ch m i : Nat)) := by
      cases i with
      | zero => rfl
      | succ i =>
       rw [ae, <- lst_snoc]
       exact Fd _ _
     refine Ta (xs := (zs (mr i (MB.ch m))).map V.int) hf' hat ?_
     left
     rw [Bx m i]
     refine gb (xs := (zs (mr i (MB.ch m))).map V.int) hf' (by rw [ua, sizeLine_eq, yb]; omega) ?_
     refine ⟨some (.int i), fr.upd, ?_, rfl⟩
     rw [ja, lst_snoc, ae]
     rfl
   . rintro σ' H' ⟨x1, fr, hf', rfl⟩
     left
     exact q f H' hf (fun b o z => fr b o z (oa z hf)) hf'
theorem Dj (T : Txt mg) (U : Up K mg "behind_lot" Ud ["bench", "on", "few"]) (C_ways_up_to : ue P w K mg base) : Kc P w K mg base := by
 have sc := Vi
 refine Callee.of (k := 1) U sc (fun vs H Q E h => ?_) (fun f cdv A outer s H vs Q E hr h => ?_)
 . obtain ⟨b, on, k, rfl, _⟩ := h; rfl
 . obtain ⟨b, on, k, rfl, hb, ho, hk, q⟩ := h
   have hu := hr.units
   conv in (Ha _) => whnf
   with_reducible refine ⟨_, (ba (xa (i := 3) ‹sc.nd› ‹rfl› ‹Or.inl rfl› (pe_c ‹C_ways_up_to› ‹hr.mono (by decide)› ‹rfl› (aa (pv 1) (aa (pv 2) da)))) (ba (xa (i := 4) ‹sc.nd› ‹rfl› ‹Or.inl rfl› (pe_c ‹C_ways_up_to› ‹hr.mono (by decide)› ‹rfl› (aa (Ma Ya (pv 0) (pv 1)) (aa (pv 2) da)))) (ka (Ea (Te [] ["one", "other"] [] (by with_unfolding_all rfl) ‹rfl› ‹rfl› (Nn ‹rfl› ‹T.b_zip› (aa (pv 3) (aa (Se (K := K) ‹rfl› (pv 4) (Qe wc qa)) da))) (by decide) ‹rfl› (by decide) ‹trivial› (by with_unfolding_all rfl) (fun _ => ‹trivial›) (fun _ _ _ _ => (fe (K := K) (n := 2) ‹rfl› ‹rfl› (Pa (Aa (i := 0) ‹show List.Nodup (["one", "other"] : List Str) from by decide +kernel› ‹rfl› ‹Or.inl rfl› ‹.inr rfl›) (Pa (Aa (i := 1) ‹show List.Nodup (["one", "other"] : List Str) from by decide +kernel› ‹rfl› ‹Or.inl rfl› ‹.inr rfl›) Eb)))) (fun _ _ _ _ => Lb) (fun _ _ _ _ => (Ma ub (pv 0) (pv 1)))))))), ?_⟩
   rw [show L2.start ["bench", "on", "few", "friendly", "others"] [V.int b, V.int on, V.int k] = [some (V.int b), some (V.int on), some (V.int k), none, none] from rfl]
   left
   refine Vm (by omega) hk fun p H1 hp s1 hp1 => ?_
   left
   rw [show (b : Int) - (on : Int) = ((b - on : Nat) : Int) by omega]
   refine Vm (by omega) hk fun p2 H2 hp2 s2 hp22 => ?_
   left
   refine dh (xs := (zs (mr k (MB.ch (b - on)))).map V.int) hp22 fun p3 hp3 => ?_
   rw [zs_rev, mr_rev]
   have s3 : Same H2 (upd H2 p3 (.lst ((zs (mr k fun j => MB.ch (b - on) (k - j))).map V.int))) := (Same.refl H2).new hp3
   have h3 : (upd H2 p3 (.lst ((zs (mr k fun j => MB.ch (b - on) (k - j))).map V.int))) p3 = some (lstN (mr k fun j => MB.ch (b - on) (k - j))) := ja
   generalize upd H2 p3 (.lst ((zs (mr k fun j => MB.ch (b - on) (k - j))).map V.int)) = H3 at s3 h3 ⊢
   left
   refine Iu (a1 := p) (a2 := p3) (xs := (zs (mr k (MB.ch on))).map V.int) (ws := (zs (mr k fun j => MB.ch (b - on) (k - j))).map V.int) [] (fun i ys H' => Same H3 H' /\ ys = (zs ((lotN b on k).take i)).map V.int) rfl (by rw [ua, yb, sizeLine_eq]; omega) ⟨Same.refl H3, rfl⟩
    (fun i ys H' _ _ ⟨s, _⟩ => ⟨s _ _ (s3 _ _ (s2 _ _ hp1)), s _ _ h3⟩) (fun i ys H' ⟨_, e⟩ => by rw [e, ua, List.length_take]; omega) ?_ ?_
   . rintro i x w ys z1 z2 H' T hi hw ⟨s, rfl⟩ hT
     obtain ⟨x', hx, rfl⟩ := Za hi
     obtain ⟨w', hw', rfl⟩ := Za hw
     have hil : i < k + 1 := by
      have := (List.getElem?_eq_some_iff.mp hx).1
      rw [yb] at this; exact this
     rw [Gb _ (by omega)] at hx hw'
     have ex := Option.some.inj hx
     have ew := Option.some.inj hw'
     subst ex ew
     left
     have b1 := Nat.lt_of_le_of_lt (MB.Xa on i) (Nat.pow_lt_pow_right (by decide) (show on < 512 by omega))
     have b2 := Nat.lt_of_le_of_lt (MB.Xa (b - on) (k - i)) (Nat.pow_lt_pow_right (by decide) (show b - on < 512 by omega))
     refine pf (.of 512 512 (by rw [Int.natAbs_natCast]; exact b1) (by rw [Int.natAbs_natCast]; exact b2)) ?_
     refine ⟨⟨s.new hT, ?_⟩, _, _, rfl⟩
     have hl : (lotN b on k)[i]? = some (MB.ch on i * MB.ch (b - on) (k - i)) := Gb (fun k' => MB.ch on k' * MB.ch (b - on) (k - k')) (by omega)
     rw [BR.Ja hl, <- lst_snoc, Int.natCast_mul]
   . rintro ys H' ⟨s, rfl⟩ D hD
     have e : min ((zs (mr k (MB.ch on))).map V.int).length ((zs (mr k fun j => MB.ch (b - on) (k - j))).map V.int).length = (lotN b on k).length := by
      rw [ua, ua, yb, yb]; unfold lotN; rw [yb]; omega
     rw [e, List.take_length]
     have t := ((s1.tr s2).tr s3).tr s
     exact q D _ (t.free hD) (t.new hD) ja
theorem Yw (T : Txt mg) (U : Up K mg "side" Uq ["bench", "on", "needed"]) : wo P w K mg base := by
 have sc := aw
 refine Callee.of (k := 0) U sc (fun vs H Q E h => ?_) (fun f cdv A outer s H vs Q E hr h => ?_)
 . obtain ⟨b, on, q', rfl, _⟩ := h; rfl
 . obtain ⟨b, on, q', rfl, ho, q⟩ := h
   have hu := hr.units
   conv in (Ha _) => whnf
   with_reducible refine ⟨_, (ba (Sa (va yj (pv 1) (pv 2) ‹Ca _›) (ka (Ea Ra)) Ka) (ba (Sa (va yj (Ma Ya (pv 0) (pv 1)) (pv 2) ‹Ca _›) (ka (Ea Ra)) Ka) (ka (Ea Ra)))), ?_⟩
   rw [show L2.start ["bench", "on", "needed"] [V.int b, V.int on, V.int q'] = [some (V.int b), some (V.int on), some (V.int q')] from rfl]
   left
   refine za (fun h1 => ?_) (fun h1 => ?_)
   . left
     rw [show jf b on q' = "friends" from if_pos (by omega)] at q
     exact q
   . left
     refine za (fun h2 => ?_) (fun h2 => ?_)
     . left
       rw [show jf b on q' = "foes" from (if_neg (by omega)).trans (if_pos (by omega))] at q
       exact q
     . left
       rw [show jf b on q' = "hung" from (if_neg (by omega)).trans (if_neg (by omega))] at q
       exact q
theorem Mr (T : Txt mg) (U : Up K mg "seated" Yi ["count", "friends", "seats", "who"]) : Xj P w K mg base := by
 have sc := Lq
 refine Callee.of (k := 0) U sc (fun vs H Q E h => ?_) (fun f cdv A outer s H vs Q E hr h => ?_)
 . obtain ⟨c, f, n, w, rfl, _⟩ := h; rfl
 . obtain ⟨c, f, n, w, rfl, hf, q⟩ := h
   have hu := hr.units
   conv in (Ha _) => whnf
   with_reducible refine ⟨_, (ba (Sa (va (eqK (K := K) ‹rfl› ‹hu›) (pv 3) Ra ‹Ca _›) (ka (Ea (Ga (vh ‹rfl›) ‹rfl› ‹T.b_min› Sk (aa (pv 1) (aa (pv 2) da))))) Ka) (ka (Ea (Ma Ya (pv 2) (Ga (vh ‹rfl›) ‹rfl› ‹T.b_min› Sk (aa (Ma Ya (pv 0) (pv 1)) (aa (pv 2) da))))))), ?_⟩
   cases w with
   | true =>
    rw [show L2.start ["count", "friends", "seats", "who"] [V.int c, V.int f, V.int n, V.str (if true then "friends" else "foes")] = [some (V.int c), some (V.int f), some (V.int n), some (V.str (if true then "friends" else "foes"))] from rfl]
    left
    refine za (fun _ => ?_) (fun z => absurd rfl z)
    left
    have e : (if (n : Int) < (f : Int) then (n : Int) else (f : Int)) = ((min f n : Nat) : Int) := by split <;> omega
    rw [e]
    exact q
   | false =>
    rw [show L2.start ["count", "friends", "seats", "who"] [V.int c, V.int f, V.int n, V.str (if false then "friends" else "foes")] = [some (V.int c), some (V.int f), some (V.int n), some (V.str (if false then "friends" else "foes"))] from rfl]
    left
    refine za (fun z => absurd z (by decide)) (fun _ => ?_)
    left
    have e : (n : Int) - (if (n : Int) < (c : Int) - (f : Int) then (n : Int) else (c : Int) - (f : Int)) = ((n - min (c - f) n : Nat) : Int) := by split <;> omega
    rw [e]
    exact q
theorem Uh (T : Txt mg) (U : Up K mg "all_lead_to" Ad ["seats", "on", "many"]) : Kd P w K mg base := by
 have sc := Oh
 refine Callee.of (k := 0) U sc (fun vs H Q E h => ?_) (fun f cdv A outer s H vs Q E hr h => ?_)
 . obtain ⟨n, k, v, rfl, _⟩ := h; rfl
 . obtain ⟨n, k, v, rfl, hk, hn, q⟩ := h
   have hu := hr.units
   conv in (Ha _) => whnf
   with_reducible refine ⟨_, (ba (xa (i := 3) ‹sc.nd› ‹rfl› ‹Or.inl rfl› (Ma ub (ab (aa qa da)) (Ma (addK (K := K) ‹rfl›) (pv 0) qa))) (ba (Xd (pv 2) (bg (pv 3) (pv 1) set_list)) (ka (Ea (pv 3))))), ?_⟩
   rw [show L2.start ["seats", "on", "many", "found"] [V.int n, V.int k, V.int v] = [some (V.int n), some (V.int k), some (V.int v), none] from rfl]
   left
   intro p hp
   left
   refine Zq ja (by omega) (by omega) fun p2 hp2 => ?_
   rw [show ((n : Int) + 1).toNat = n + 1 by omega, qp]
   have s1 := ((Same.refl H).new (o := .lst [.int 0]) hp)
   have n0 := s1.free hp2
   have s2 := s1.new (o := .lst ((zs (List.replicate (n + 1) 0)).map V.int)) hp2
   left
   refine Fn (xs := (zs (List.replicate (n + 1) 0)).map V.int) ja (by rw [ua, List.length_replicate]; exact ym (by omega)) ?_
   left
   rw [ip, Jr hk]
   refine q p2 _ n0 (fun b o z => ?_) ja
   rw [La (oa z n0)]
   exact s2 b o z
theorem Ur (T : Txt mg) (U : Up K mg "behind" ij ["count", "friends", "bench", "on", "step"]) (C_round_draws : uc P w K mg base) (C_behind_lot : Kc P w K mg base) (C_side : wo P w K mg base) (C_seated : Xj P w K mg base) (C_all_lead_to : Kd P w K mg base) : Hg P w K mg base := by
 have sc := Sq
 refine Callee.of (k := 2) U sc (fun vs H Q E h => ?_) (fun f cdv A outer s H vs Q E hr h => ?_)
 . obtain ⟨c, f, b, on, p, r, rfl, _⟩ := h; rfl
 . obtain ⟨c, f, b, on, p, r, rfl, hp, hf, ho, hc, hb, ft, q⟩ := h
   have hu := hr.units
   conv in (Ha _) => whnf
   with_reducible refine ⟨_, (ba (xa (i := 5) ‹sc.nd› ‹rfl› ‹Or.inl rfl› (Na (ixK (K := K) ‹rfl›) (pv 4) qa ‹fun _ _ => rfl›)) (ba (Sa (va (eqK (K := K) ‹rfl› ‹hu›) (Na (ixK (K := K) ‹rfl›) (pv 4) qa ‹fun _ _ => rfl›) Ra ‹Ca _›) (ka (Ea (pe_c ‹C_behind_lot› ‹hr.mono (by decide)› ‹rfl› (aa (pv 2) (aa (pv 3) (aa (pv 5) da)))))) Ka) (ba (xa (i := 6) ‹sc.nd› ‹rfl› ‹Or.inl rfl› (pe_c ‹C_side› ‹hr.mono (by decide)› ‹rfl› (aa (pv 2) (aa (pv 3) (aa (Na (ixK (K := K) ‹rfl›) (pv 4) qa ‹fun _ _ => rfl›) da))))) (ba (Sa (va (neK (K := K) ‹rfl› ‹hu›) (pv 6) Ra ‹Ca _›) (ka (Ea (pe_c ‹C_all_lead_to› ‹hr.mono (by decide)› ‹rfl› (aa (pv 5) (aa (pe_c ‹C_seated› ‹hr.mono (by decide)› ‹rfl› (aa (pv 0) (aa (pv 1) (aa (pv 5) (aa (pv 6) da))))) (aa (pe_c ‹C_round_draws› ‹hr.mono (by decide)› ‹rfl› (aa (pv 0) (aa (pv 2) (aa (pv 4) da)))) da)))))) Ka) (ba (Sa (va (eqK (K := K) ‹rfl› ‹hu›) (Na (ixK (K := K) ‹rfl›) (pv 4) qa ‹fun _ _ => rfl›) Ra ‹Ca _›) (ka (Ea (pe_c ‹C_behind_lot› ‹hr.mono (by decide)› ‹rfl› (aa (pv 0) (aa (pv 1) (aa (pv 5) da)))))) Ka) (ba (Sa (va (eqK (K := K) ‹rfl› ‹hu›) (Na (ixK (K := K) ‹rfl›) (pv 4) qa ‹fun _ _ => rfl›) Ra ‹Ca _›) (ka (Ea (pe_c ‹C_behind_lot› ‹hr.mono (by decide)› ‹rfl› (aa (pv 2) (aa (pv 3) (aa (pv 5) da)))))) Ka) (ka (Ea (pe_c ‹C_all_lead_to› ‹hr.mono (by decide)› ‹rfl› (aa (pv 5) (aa (pv 3) (aa qa da)))))))))))), ?_⟩
   rw [show L2.start ["count", "friends", "bench", "on", "step", "seats", "who"] [V.int c, V.int f, V.int b, V.int on, V.ref p] = [some (V.int c), some (V.int f), some (V.int b), some (V.int on), some (V.ref p), none, none] from rfl]
   have fp := ft.pos
   cases r with
   | lot n =>
    have hp' : H p = some (.tup [.str "lot", .int n]) := hp
    have fp' : 1 <= n /\ n <= 60 := fp
    left
    refine za (fun _ => ?_) (fun z => absurd rfl z)
    left
    exact Mi hb ho (by omega) q
   | vote n q' w =>
    have hp' : H p = some (.tup [.str "vote", .int n, .int q', .str (wdS w)]) := hp
    have fp' : 1 <= n /\ n <= 60 := fp
    rw [Uj] at q
    left
    refine za (fun z => absurd z (by decide)) (fun _ => ?_)
    left
    refine Wm ho ?_
    left
    by_cases a1 : q' <= on
    . rw [show jf b on q' = (if true then "friends" else "foes" : Str) from if_pos a1]
      rw [if_pos a1] at q
      refine ag (fun _ => ?_) (fun z => absurd z (by decide))
      left
      refine fi hf ?_
      left
      refine Lc (r := .vote n q' w) hp hc hb ?_
      left
      exact Ni (show min f n <= n by omega) (by omega) q
    . rw [if_neg a1] at q
      by_cases a2 : q' <= b - on
      . rw [show jf b on q' = (if false then "friends" else "foes" : Str) from (if_neg a1).trans (if_pos a2)]
        rw [if_pos a2] at q
        refine ag (fun _ => ?_) (fun z => absurd z (by decide))
        left
        refine fi hf ?_
        left
        refine Lc (r := .vote n q' w) hp hc hb ?_
        left
        exact Ni (show n - min (c - f) n <= n by omega) (by omega) q
      . rw [show jf b on q' = "hung" from (if_neg a1).trans (if_neg a2)]
        rw [if_neg a2] at q
        refine ag (fun z => absurd rfl z) (fun _ => ?_)
        left
        cases w with
        | council =>
         refine za (fun _ => ?_) (fun z => absurd rfl z)
         left
         exact Mi hc hf (by omega) q
        | bench =>
         refine za (fun z => absurd z (by decide)) (fun _ => ?_)
         left
         refine za (fun _ => ?_) (fun z => absurd rfl z)
         left
         exact Mi hb ho (by omega) q
        | stay =>
         refine za (fun z => absurd z (by decide)) (fun _ => ?_)
         left
         refine za (fun z => absurd z (by decide)) (fun _ => ?_)
         left
         exact Ni (v := 1) (by have := ft.2.2.2.2.2.2 rfl; omega) (by omega) q
theorem jm (T : Txt mg) (U : Up K mg "roads_on" Cf ["count", "friends", "roads_here", "step"]) (C_behind : Hg P w K mg base) : Sf P w K mg base := by
 have sc := Jl
 refine Callee.of (k := 3) U sc (fun vs H Q E h => ?_) (fun f cdv A outer s H vs Q E hr h => ?_)
 . obtain ⟨c, f, b, ha, p, h0, r, rfl, _⟩ := h; rfl
 . obtain ⟨c, f, b, ha, p, h0, r, rfl, hh, hp, hl, hf, hc, hb, ft, hsum, q⟩ := h
   have hu := hr.units
   conv in (Ha _) => whnf
   with_reducible refine ⟨_, (ba (xa (i := 4) ‹sc.nd› ‹rfl› ‹Or.inl rfl› (Ma Ya (Ga (lenK (K := K) ‹rfl›) ‹rfl› ‹T.b_len› Va (aa (pv 2) da)) qa)) (ba (xa (i := 5) ‹sc.nd› ‹rfl› ‹Or.inl rfl› (Ma ub (ab (aa qa da)) (Ma (addK (K := K) ‹rfl›) (Na (ixK (K := K) ‹rfl›) (pv 3) qa ‹fun _ _ => rfl›) qa))) (ba (jb PassesOwn.never ‹rfl› (Zd ‹rfl› ‹T.b_enumerate› (aa (pv 2) da)) (fe (K := K) (n := 2) ‹rfl› ‹rfl› (Pa (Aa (i := 6) ‹sc.nd› ‹rfl› ‹Or.inl rfl›) (Pa (Aa (i := 7) ‹sc.nd› ‹rfl› ‹Or.inl rfl›) Eb))) (ka (Sa (truK (K := K) ‹rfl› (pv 7)) (ka (jb PassesOwn.never ‹rfl› (Zd ‹rfl› ‹T.b_enumerate› (aa (pe_c ‹C_behind› ‹hr.mono (by decide)› ‹rfl› (aa (pv 0) (aa (pv 1) (aa (pv 4) (aa (pv 6) (aa (pv 3) da)))))) da)) (fe (K := K) (n := 2) ‹rfl› ‹rfl› (Pa (Aa (i := 8) ‹sc.nd› ‹rfl› ‹Or.inl rfl›) (Pa (Aa (i := 9) ‹sc.nd› ‹rfl› ‹Or.inl rfl›) Eb))) (ka (Ow (pv 5) (pv 8) (getLK (K := K) ‹rfl›) (Ma ub (pv 7) (pv 9)) dg set_list)))) Ka))) (ka (Ea (pv 5)))))), ?_⟩
   rw [show L2.start ["count", "friends", "roads_here", "step", "sit", "found", "on", "many", "to", "leading"] [V.int c, V.int f, V.ref ha, V.ref p] = [some (V.int c), some (V.int f), some (V.ref ha), some (V.ref p), none, none, none, none, none, none] from rfl]
   have fp := ft.pos
   obtain ⟨xs, e1, e2⟩ := rn_n r
   left
   refine ni (xs := (zs h0).map V.int) hh ?_
   rw [ua, hl]
   left
   rw [show ((b + 1 : Nat) : Int) - 1 = (b : Int) by omega]
   intro p0 hp0
   left
   refine Bc (xs := xs) (by rw [La (oa hp hp0), hp, e1]) e2 ?_
   left
   refine Zq ja (by omega) (by omega) fun f0 hf0 => ?_
   rw [show ((r.n : Int) + 1).toNat = r.n + 1 by omega, qp]
   have s1 := ((Same.refl H).new (o := .lst [.int 0]) hp0)
   have nf0 := s1.free hf0
   have s2 := s1.new (o := .lst ((zs (List.replicate (r.n + 1) 0)).map V.int)) hf0
   have a2 : (upd (upd H p0 (.lst [.int 0])) f0 (.lst ((zs (List.replicate (r.n + 1) 0)).map V.int))) f0 = some (lstN (mr r.n fun t => rT c f b h0 r 0 t)) := by
    rw [ja]
    show some (lstN _) = some (lstN _)
    congr 2
    apply List.ext_getElem?
    intro i
    by_cases hi : i <= r.n
    . rw [Gb _ hi, List.getElem?_replicate, if_pos (by omega)]; rfl
    . rw [nh _ (by omega), List.getElem?_eq_none (by rw [List.length_replicate]; omega)]
   generalize upd (upd H p0 (.lst [.int 0])) f0 (.lst ((zs (List.replicate (r.n + 1) 0)).map V.int)) = H2 at s2 a2 ⊢
   have hbd : ∀ i x, h0[i]? = some x -> x < 2 ^ 60000 := fun i x hx => Nat.lt_of_le_of_lt (vi (List.mem_of_getElem? hx)) hsum
   left
   have nhf : ha ≠ f0 := oa hh nf0
   have npf : p ≠ f0 := oa hp nf0
   refine forE (a := ha) (xs := (zs h0).map V.int) (fun i σ' H' => ∃ x y z w : Option V, Fr1 f0 H2 H' /\ H' f0 = some (lstN (mr r.n fun t => rT c f b h0 r i t)) /\ σ' = [some (.int c), some (.int f), some (.ref ha), some (.ref p), some (.int b), some (.ref f0), x, y, z, w]) ⟨none, none, none, none, Fr1.refl f0 H2, a2, rfl⟩ (fun i σ' H' _ ⟨_, _, _, _, fr, _⟩ => fr.get (s2 _ _ hh) nhf) ?_ ?_
   . rintro i x σ' H' T hi ⟨x1, y1, z1, w1, fr, hf', rfl⟩ hT
     obtain ⟨m, hm, rfl⟩ := Za hi
     have hil : i < b + 1 := by
      have := (List.getElem?_eq_some_iff.mp hm).1
      omega
     have eT : ∀ t, rT c f b h0 r (i + 1) t = rT c f b h0 r i t + m * (bh c f b i r).getD t 0 := fun t => by
      show rT c f b h0 r i t + h0.getD i 0 * (bh c f b i r).getD t 0 = _
      rw [getD_some hm]
     have hfT : f0 ≠ T := oa hf' hT
     left
     refine ag (fun hm0 => ?_) (fun hm0 => ?_)
     . left
       have hpT : H' p = some (rnO r) := fr.get (s2 _ _ hp) npf
       refine ki (r := r) (rb (oa hpT hT) hpT) hf (by omega) hc hb ft fun pb Hb hpb sb hb' => ?_
       have nbf : f0 ≠ pb := by
        intro z
        subst z
        rw [La hfT, hf'] at hpb
        cases hpb
       have frb : Fr1 f0 H2 Hb := fun b' o z n => sb _ _ (by rw [La (oa (fr _ _ z n) hT)]; exact fr _ _ z n)
       have hfb : Hb f0 = some (lstN (mr r.n fun t => rT c f b h0 r i t)) := sb _ _ (by rw [La hfT]; exact hf')
       have bl := uo c f b i r
       refine forE (a := pb) (xs := (zs (bh c f b i r)).map V.int) (fun j σ' H' => ∃ z w : Option V, Fr1 f0 Hb H' /\ H' f0 = some (lstN (mr r.n fun t => if t < j then rT c f b h0 r (i + 1) t else rT c f b h0 r i t)) /\ σ' = [some (.int c), some (.int f), some (.ref ha), some (.ref p), some (.int b), some (.ref f0), some (.int i), some (.int m), z, w]) ⟨z1, w1, Fr1.refl f0 Hb, by
        rw [hfb]
        congr 2, rfl⟩ (fun j σ' H' _ ⟨_, _, fr2, _⟩ => fr2.get hb' nbf.symm) ?_ ?_
       . rintro j y σ2 Hj T2 hj ⟨z2, w2, fr2, hfj, rfl⟩ hT2
         obtain ⟨v, hv, rfl⟩ := Za hj
         have hjl : j <= r.n := by
          have := (List.getElem?_eq_some_iff.mp hv).1
          omega
         have hfT2 : f0 ≠ T2 := oa hfj hT2
         have hfj' : upd Hj T2 (.tup [.int (j : Int), .int (v : Int)]) f0 = some (.lst ((zs (mr r.n fun t => if t < j then rT c f b h0 r (i + 1) t else rT c f b h0 r i t)).map V.int)) := by rw [La hfT2]; exact hfj
         left
         have hat : atI ((zs (mr r.n fun t => if t < j then rT c f b h0 r (i + 1) t else rT c f b h0 r i t)).map V.int) (j : Int) = some (.int (rT c f b h0 r i j : Nat)) := Ab (by rw [Gb _ hjl, if_neg (by omega)])
         refine r_ixLL hfj' hat ?_
         left
         have b1 := hbd i m hm
         have b2 := bh_le hf (show i <= b by omega) hc hb ft v (List.mem_of_getElem? hv)
         refine pf (.of 60000 512 (by rw [Int.natAbs_natCast]; exact b1) (by rw [Int.natAbs_natCast]; exact b2)) ?_
         left
         refine Fn hfj' (by rw [ua, yb]; exact ym (by omega)) ?_
         have ev : ((rT c f b h0 r i j : Nat) : Int) + (m : Int) * (v : Int) = ((rT c f b h0 r (i + 1) j : Nat) : Int) := by
          rw [eT, getD_some hv, Int.natCast_add, Int.natCast_mul]
         rw [ev, ip, mr_set hjl]
         refine ⟨some (.int j), some (.int v), (fr2.new hT2).upd, ?_, rfl⟩
         rw [ja]
         show some (lstN _) = some (lstN _)
         congr 2
         refine zg fun t ht => ?_
         by_cases z : t = j
         . rw [if_pos z, if_pos (by omega), z]
         . rw [if_neg z]
           by_cases z2 : t < j
           . rw [if_pos z2, if_pos (by omega)]
           . rw [if_neg z2, if_neg (by omega)]
       . rintro σ2 Hj ⟨z2, w2, fr2, hfj, rfl⟩
         refine ⟨_, _, z2, w2, fun b' o z n => fr2 _ _ (frb _ _ z n) n, ?_, rfl⟩
         rw [hfj, ua, bl]
         congr 2
         refine zg fun t ht => ?_
         rw [if_pos (by omega)]
     . left
       refine ⟨_, _, z1, w1, fr.new hT, ?_, rfl⟩
       rw [La hfT, hf']
       congr 2
       refine zg fun t ht => ?_
       have hm0' : m = 0 := by omega
       rw [eT, hm0', Nat.zero_mul, Nat.add_zero]
   . rintro σ' H' ⟨x1, y1, z1, w1, fr, hf', rfl⟩
     left
     rw [ua, hl] at hf'
     exact q f0 H' nf0 (fun b' o z => fr _ _ (s2 _ _ z) (oa z nf0)) hf'
theorem tu (T : Txt mg) (U : Up K mg "roads" Sl ["count", "friends", "row"]) (C_need_friends : Wb P w K mg base) (C_roads_on : Sf P w K mg base) : Mm P w K mg base := by
 have sc := Qt
 refine Callee.of (k := 7) U sc (fun vs H Q E h => ?_) (fun f cdv A outer s H vs Q E hr h => ?_)
 . obtain ⟨c, f, a, ps, rs, rfl, _⟩ := h; rfl
 . obtain ⟨c, f, a, ps, rs, rfl, ⟨R, hw, hf⟩, q⟩ := h
   have hu := hr.units
   have c2 := R.c2
   conv in (Ha _) => whnf
   with_reducible refine ⟨_, (ba (ib (pe_c ‹C_need_friends› ‹hr.mono (by decide)› ‹rfl› (aa (pv 0) (aa (pv 1) (aa (pv 2) da))))) (ba (xa (i := 3) ‹sc.nd› ‹rfl› ‹Or.inl rfl› (Ma ub (ab (aa qa da)) (Ma (addK (K := K) ‹rfl›) (pv 0) qa))) (ba (Xd qa (bg (pv 3) (pv 1) set_list)) (ba (xa (i := 4) ‹sc.nd› ‹rfl› ‹Or.inl rfl› (ab da)) (ba (jb PassesOwn.never ‹rfl› (piLK (K := K) ‹rfl› (pv 2)) (Aa (i := 5) ‹sc.nd› ‹rfl› ‹Or.inl rfl›) (ba (xa (i := 3) ‹sc.nd› ‹rfl› ‹Or.inl rfl› (pe_c ‹C_roads_on› ‹hr.mono (by decide)› ‹rfl› (aa (pv 0) (aa (pv 1) (aa (pv 3) (aa (pv 5) da)))))) (ka (ib (md ‹PySem.F.plainAttrs_list› ‹PySem.F.slot_list_append› ‹PySem.F.type_list_append› ‹cb› (pv 4) (aa (pv 3) da)))))) (ka (Ea (pv 4)))))))), ?_⟩
   rw [show L2.start ["count", "friends", "row", "here", "found", "step"] [V.int c, V.int f, V.ref a] = [some (V.int c), some (V.int f), some (V.ref a), none, none, none] from rfl]
   left
   refine ik R hw hf fun H1 s1 => ?_
   have R1 := R.same s1
   left
   intro p0 hp0
   left
   refine Zq ja (by omega) (by omega) fun h0 hh0 => ?_
   rw [show ((c : Int) + 1).toNat = c + 1 by omega, qp]
   have t1 := ((Same.refl H1).new (o := .lst [.int 0]) hp0)
   have nh0 := t1.free hh0
   have t2 := t1.new (o := .lst ((zs (List.replicate (c + 1) 0)).map V.int)) hh0
   left
   refine Fn (xs := (zs (List.replicate (c + 1) 0)).map V.int) ja (by rw [ua, List.length_replicate]; exact ym (by omega)) ?_
   rw [show ((zs (List.replicate (c + 1) 0)).map V.int).set f (V.int 1) = (zs (one c f 1)).map V.int from by rw [show (V.int 1) = V.int ((1 : Nat) : Int) from rfl, ip, Jr hf]]
   have t3 : Same H1 (upd (upd (upd H1 p0 (.lst [.int 0])) h0 (.lst ((zs (List.replicate (c + 1) 0)).map V.int))) h0 (.lst ((zs (one c f 1)).map V.int))) := fun b' o z => by
    rw [La (oa z nh0)]; exact t2 _ _ z
   have a3 : (upd (upd (upd H1 p0 (.lst [.int 0])) h0 (.lst ((zs (List.replicate (c + 1) 0)).map V.int))) h0 (.lst ((zs (one c f 1)).map V.int))) h0 = some (lstN (one c f 1)) := ja
   generalize (upd (upd (upd H1 p0 (.lst [.int 0])) h0 (.lst ((zs (List.replicate (c + 1) 0)).map V.int))) h0 (.lst ((zs (one c f 1)).map V.int))) = H3 at t3 a3 ⊢
   have S3 := s1.tr t3
   have R3 := R.same S3
   left
   intro fa hfa
   left
   have nfa := S3.free hfa
   have haf : a ≠ fa := oa R3.rw.ls hfa
   have ln := R.ln
   refine forL (a := a) (xs := ps.map V.ref) (fun i σ' H' => ∃ (x : Option V) (hc : Addr) (qs : List Addr), (∀ b' o, H b' = some o -> H' b' = some o) /\ H' hc = some (lstN (rdl c f c (one c f 1) (rs.take i))) /\ hc ≠ fa /\ TsAt lstN H' fa qs (rds c f c (one c f 1) (rs.take i)) /\ (∀ p ∈ qs, H p = none /\ p ≠ fa) /\ σ' = [some (.int c), some (.int f), some (.ref a), some (.ref hc), some (.ref fa), x])
    ⟨none, h0, [], fun b' o z => by rw [La (oa z nfa)]; exact S3 _ _ z, by rw [La (oa a3 hfa)]; exact a3, oa a3 hfa, ⟨ja, fun i p z => by simp at z, rfl⟩, fun p z => by simp at z, rfl⟩
    (fun i σ' H' _ ⟨_, _, _, S, _⟩ => SqL.of (S _ _ R.rw.ls)) ?_ ?_
   . rintro i x σ' H' hi ⟨x1, hc, qs, S, hhc, hne, F, hq, rfl⟩
     obtain ⟨p, r, rfl, _, hr', ho⟩ := R.rw.get hi
     have hil : i < rs.length := (List.getElem?_eq_some_iff.mp hr').1
     have ft := R.ft.at hr'
     have lb := zb (R.ft.take i) R.c1 (Nat.le_refl _)
     have ql := F.ln
     have rl := Zl c f (rs.take i) c (one c f 1)
     rw [List.length_take] at rl
     left
     refine xl hhc (S _ _ ho) (Yq c f (rs.take i) (fh _ _ _)) hf (by omega) (by omega) ft (iw hf (R.ft.take i) (by omega) (by rw [List.length_take]; omega)) fun pn Hn hpn sn hn => ?_
     have F2 := F.same sn
     have npf : pn ≠ fa := by
      intro z
      subst z
      rw [F.ls] at hpn
      cases hpn
     left
     refine lj (xs := qs.map V.ref) F2.ls ?_
     left
     refine gb (xs := qs.map V.ref) F2.ls (by rw [List.length_map, sizeLine_eq]; omega) ?_
     have en := BR.Ja hr'
     refine ⟨some (.ref p), pn, qs ++ [pn], fun b' o z => ?_, ?_, npf, ?_, fun p' hp' => ?_, rfl⟩
     . rw [La (oa z nfa)]
       exact sn _ _ (S _ _ z)
     . rw [La npf, en, kj]
       exact hn
     . rw [en, jj]
       exact F2.pushL (fun p' hp' => (hq p' hp').2) npf hn
     . rcases List.mem_append.mp hp' with hp' | hp'
       . exact hq p' hp'
       . have : p' = pn := by simpa using hp'
         subst this
         exact ⟨(show Same H H' from S).free hpn, npf⟩
   . rintro σ' H' ⟨x1, hc, qs, S, hhc, hne, F, hq, rfl⟩
     left
     rw [List.length_map, R.rw.ln, List.take_length] at F
     exact q fa H' qs nfa S F hq
theorem gh (T : Txt mg) (U : Up K mg "worths_ahead" Mc ["count", "friends", "sit", "step", "later"]) (C_behind : Hg P w K mg base) : Xc P w K mg base := by
 have sc := Rg
 refine Callee.of (k := 3) U sc (fun vs H Q E h => ?_) (fun f cdv A outer s H vs Q E hr h => ?_)
 . obtain ⟨c, f, b, p, la, r, w, rfl, _⟩ := h; rfl
 . obtain ⟨c, f, b, p, la, r, w, rfl, hp, hla, hl, hf, hc, hb, ft, hw, q⟩ := h
   have hu := hr.units
   have fp := ft.pos
   conv in (Ha _) => whnf
   with_reducible refine ⟨_, (ba (xa (i := 5) ‹sc.nd› ‹rfl› ‹Or.inl rfl› (ab da)) (ba (jb PassesOwn.never ‹rfl› (Cb ‹rfl› ‹T.b_range› (aa (Ma (addK (K := K) ‹rfl›) (pv 2) qa) da)) (Aa (i := 6) ‹sc.nd› ‹rfl› ‹Or.inl rfl›) (ba (xa (i := 7) ‹sc.nd› ‹rfl› ‹Or.inl rfl› (pe_c ‹C_behind› ‹hr.mono (by decide)› ‹rfl› (aa (pv 0) (aa (pv 1) (aa (pv 2) (aa (pv 6) (aa (pv 3) da))))))) (ka (ib (md ‹PySem.F.plainAttrs_list› ‹PySem.F.slot_list_append› ‹PySem.F.type_list_append› ‹cb› (pv 5) (aa (Ga (sumK (K := K) ‹rfl› ‹rfl›) ‹rfl› ‹T.b_sum› bt_sum (aa (Te [] ["many", "worth"] [] (by with_unfolding_all rfl) ‹rfl› ‹rfl› (Nn ‹rfl› ‹T.b_zip› (aa (pv 7) (aa (pv 4) da))) (by decide) ‹rfl› (by decide) ‹trivial› (by with_unfolding_all rfl) (fun _ => ‹trivial›) (fun _ _ _ _ => (fe (K := K) (n := 2) ‹rfl› ‹rfl› (Pa (Aa (i := 0) ‹show List.Nodup (["many", "worth"] : List Str) from by decide +kernel› ‹rfl› ‹Or.inl rfl› ‹.inr rfl›) (Pa (Aa (i := 1) ‹show List.Nodup (["many", "worth"] : List Str) from by decide +kernel› ‹rfl› ‹Or.inl rfl› ‹.inr rfl›) Eb)))) (fun _ _ _ _ => Lb) (fun _ _ _ _ => (Ma ub (pv 0) (pv 1)))) da)) da)))))) (ka (Ea (pv 5))))), ?_⟩
   rw [show L2.start ["count", "friends", "sit", "step", "later", "found", "on", "leading"] [V.int c, V.int f, V.int b, V.ref p, V.ref la] = [some (V.int c), some (V.int f), some (V.int b), some (V.ref p), some (V.ref la), none, none, none] from rfl]
   left
   intro f0 hf0
   left
   refine forR (fun i σ' H' => ∃ x y : Option V, Fr1 f0 H H' /\ H' f0 = some (lstN ((wah c f b r w).take i)) /\ σ' = [some (.int c), some (.int f), some (.int b), some (.ref p), some (.ref la), some (.ref f0), x, y]) (by omega) (by omega) ⟨none, none, (Fr1.refl f0 H).upd, ja, rfl⟩ ?_ ?_
   . rintro i σ' H' hi ⟨x, y, fr, hf', rfl⟩
     have npf : p ≠ f0 := oa hp hf0
     have nlf : la ≠ f0 := oa hla hf0
     left
     refine ki (fr.get hp npf) hf (by omega) hc hb ft fun pb Hb hpb sb hb' => ?_
     have hfb := sb _ _ hf'
     have hlb := sb _ _ (fr.get hla nlf)
     have bl := uo c f b i r
     left
     refine lj (xs := (zs ((wah c f b r w).take i)).map V.int) hfb ?_
     left
     refine Iu (a1 := pb) (a2 := la) (xs := (zs (bh c f b i r)).map V.int) (ws := (zs w).map V.int) [] (fun j ys Hj => Same Hb Hj /\ ys = (zs ((mr r.n fun t => (bh c f b i r).getD t 0 * w.getD t 0).take j)).map V.int) rfl (by rw [ua, sizeLine_eq]; omega) ⟨Same.refl Hb, rfl⟩
      (fun j ys Hj _ _ ⟨s, _⟩ => ⟨s _ _ hb', s _ _ hlb⟩) (fun j ys Hj ⟨_, e⟩ => by rw [e, ua, List.length_take]; omega) ?_ ?_
     . rintro j x' w' ys z1 z2 Hj T hj1 hj2 ⟨s, rfl⟩ hT
       obtain ⟨v1, hv1, rfl⟩ := Za hj1
       obtain ⟨v2, hv2, rfl⟩ := Za hj2
       have hjl : j <= r.n := by
        have := (List.getElem?_eq_some_iff.mp hv1).1
        omega
       have b1 := bh_le hf (show i <= b by omega) hc hb ft v1 (List.mem_of_getElem? hv1)
       have b2 := hw v2 (List.mem_of_getElem? hv2)
       left
       refine pf (.of 512 60000 (by rw [Int.natAbs_natCast]; exact b1) (by rw [Int.natAbs_natCast]; exact b2)) ?_
       refine ⟨⟨s.new hT, ?_⟩, _, _, rfl⟩
       have hl2 : (mr r.n fun t => (bh c f b i r).getD t 0 * w.getD t 0)[j]? = some (v1 * v2) := by rw [Gb _ hjl, getD_some hv1, getD_some hv2]
       rw [BR.Ja hl2, <- lst_snoc, Int.natCast_mul]
     . rintro ys Hj ⟨s, rfl⟩ D hD
       have e : min ((zs (bh c f b i r)).map V.int).length ((zs w).map V.int).length = (mr r.n fun t => (bh c f b i r).getD t 0 * w.getD t 0).length := by
        rw [ua, ua, yb, bl, hl]; omega
       rw [e, List.take_length]
       left
       refine r_sum (ns := zs (mr r.n fun t => (bh c f b i r).getD t 0 * w.getD t 0)) ja ?_
       rw [Pu, Zr]
       have hfD : f0 ≠ D := oa (s _ _ hfb) hD
       left
       refine gb (xs := (zs ((wah c f b r w).take i)).map V.int) (rb hfD (s _ _ hfb)) (by rw [ua, sizeLine_eq, List.length_take]; omega) ?_
       refine ⟨_, _, fun b' o z n => ?_, ?_, rfl⟩
       . rw [La n, La (oa (s _ _ (sb _ _ (fr _ _ z n))) hD)]
         exact s _ _ (sb _ _ (fr _ _ z n))
       . have hl3 : (wah c f b r w)[i]? = some (dot r.n (bh c f b i r) w) := Gb (fun on => dot r.n (bh c f b on r) w) (by omega)
         rw [ja, lst_snoc, BR.Ja hl3]
         rfl
   . rintro σ' H' ⟨x, y, fr, hf', rfl⟩
     left
     rw [show ((b : Int) + 1).toNat = (wah c f b r w).length by unfold wah; rw [yb]; omega, List.take_length] at hf'
     exact q f0 H' hf0 (fun b' o z => fr b' o z (oa z hf0)) hf'
theorem Kr (T : Txt mg) (U : Up K mg "worths" Wi ["count", "friends", "row"]) (C_sizes_ahead : Qb P w K mg base) (C_need_friends : Wb P w K mg base) (C_worths_ahead : Xc P w K mg base) : Dg P w K mg base := by
 have sc := Jq
 refine Callee.of (k := 7) U sc (fun vs H Q E h => ?_) (fun f cdv A outer s H vs Q E hr h => ?_)
 . obtain ⟨c, f, a, ps, rs, rfl, _⟩ := h; rfl
 . obtain ⟨c, f, a, ps, rs, rfl, ⟨R, hw, hf⟩, q⟩ := h
   have hu := hr.units
   have c2 := R.c2
   have ln := R.ln
   have rl := R.rw.ln
   conv in (Ha _) => whnf
   with_reducible refine ⟨_, (ba (ib (pe_c ‹C_need_friends› ‹hr.mono (by decide)› ‹rfl› (aa (pv 0) (aa (pv 1) (aa (pv 2) da))))) (ba (Sa (rf (truK (K := K) ‹rfl› (pv 2))) (ka (Ea (ab da))) Ka) (ba (xa (i := 3) ‹sc.nd› ‹rfl› ‹Or.inl rfl› (pe_c ‹C_sizes_ahead› ‹hr.mono (by decide)› ‹rfl› (aa (pv 0) (aa (pv 2) da)))) (ba (xa (i := 4) ‹sc.nd› ‹rfl› ‹Or.inl rfl› (ab (aa ‹(ab (aa qa (aa qa da)))› da))) (ba (jb PassesOwn.never ‹rfl› (Gr ‹rfl› ‹T.b_range› (aa (Ma Ya (Ga (lenK (K := K) ‹rfl›) ‹rfl› ‹T.b_len› Va (aa (pv 2) da)) qa) (aa qa (aa (Qe wc qa) da)))) (Aa (i := 5) ‹sc.nd› ‹rfl› ‹Or.inl rfl›) (ka (ib (md ‹PySem.F.plainAttrs_list› ‹PySem.F.slot_list_append› ‹PySem.F.type_list_append› ‹cb› (pv 4) (aa (pe_c ‹C_worths_ahead› ‹hr.mono (by decide)› ‹rfl› (aa (pv 0) (aa (pv 1) (aa (Na (ixK (K := K) ‹rfl›) (pv 3) (pv 5) ‹fun _ _ => rfl›) (aa (Na (ixK (K := K) ‹rfl›) (pv 2) (pv 5) ‹fun _ _ => rfl›) (aa (Na (ixK (K := K) ‹rfl›) (pv 4) (Qe wc qa) ‹fun _ _ => rfl›) da)))))) da))))) (ka (Ea (Se (K := K) ‹rfl› (pv 4) (Qe wc qa))))))))), ?_⟩
   rw [show L2.start ["count", "friends", "row", "sat", "found", "at"] [V.int c, V.int f, V.ref a] = [some (V.int c), some (V.int f), some (V.ref a), none, none, none] from rfl]
   left
   refine ik R hw hf fun H1 s1 => ?_
   have R1 := R.same s1
   left
   refine kv (xs := ps.map V.ref) R1.rw.ls ?_
   by_cases z : rs = []
   . subst z
     have e : ps = [] := List.eq_nil_of_length_eq_zero rl
     subst e
     rw [show (!(List.map V.ref ([] : List Addr)).isEmpty) = false from rfl]
     left
     intro p hp
     exact q p _ [] (s1.free hp) (s1.new hp) ⟨ja, fun i p' z => by simp at z, rfl⟩ (fun p' z => by simp at z)
   . have hpos : 0 < rs.length := List.length_pos_iff.mpr z
     have e0 : (!(List.map V.ref ps).isEmpty) = true := by
      cases ps with
      | nil => simp at rl; omega
      | cons _ _ => rfl
     rw [e0]
     left
     refine ff R1 fun sp H2 hsp s2 hsp2 => ?_
     have R2 := R1.same s2
     left
     intro l0 hl0
     left
     have s3 := (Same.refl H2).new (o := .lst [.int 0, .int 1]) hl0
     have a3 : upd H2 l0 (.lst [.int 0, .int 1]) l0 = some (lstN [0, 1]) := ja
     generalize upd H2 l0 (.lst [.int 0, .int 1]) = H3 at s3 a3 ⊢
     have S3 := (s1.tr s2).tr s3
     intro fa hfa
     left
     have nfa := S3.free hfa
     have nl0 : H l0 = none := (s1.tr s2).free hl0
     have hs3 := s3 _ _ hsp2
     have nsf : sp ≠ fa := oa hs3 hfa
     have nlf : l0 ≠ fa := oa a3 hfa
     have naf : a ≠ fa := oa (S3 _ _ R.rw.ls) hfa
     refine ni (xs := ps.map V.ref) (rb naf (S3 _ _ R.rw.ls)) ?_
     rw [List.length_map, rl]
     left
     have wl := cf c f rs
     have elast : (wths c f rs)[rs.length - 1]? = some [0, 1] := by
      rw [ze (b := c) (by omega), show rs.length - 1 + 1 = rs.length by omega, List.drop_length]; rfl
     refine forD (fun j σ' H' => ∃ (x : Option V) (qs : List Addr), (∀ b' o, H b' = some o -> H' b' = some o) /\ H' sp = some (lstN (c :: szs rs)) /\ TsAt lstN H' fa qs ((wths c f rs).drop (rs.length - 1 - j)).reverse /\ (∀ p ∈ qs, H p = none /\ p ≠ fa) /\ σ' = [some (.int c), some (.int f), some (.ref a), some (.ref sp), some (.ref fa), x]) (by omega) (by omega) (by omega) (by omega)
      ⟨none, [l0], fun b' o z => by rw [La (oa z nfa)]; exact S3 _ _ z, rb nsf hs3, ?_, fun p hp => ?_, rfl⟩ ?_ ?_
     . rw [Nat.sub_zero, vf elast, show rs.length - 1 + 1 = (wths c f rs).length by omega, List.drop_length]
       refine ⟨ja, fun i p hp => ?_, rfl⟩
       match i, hp with
       | 0, hp =>
        have : l0 = p := by simpa using hp
        subst this
        exact ⟨[0, 1], rfl, rb nlf a3⟩
       | i + 1, hp => simp at hp
     . have : p = l0 := by simpa using hp
       subst this
       exact ⟨nl0, nlf⟩
     . rintro j σ' H' hj ⟨x, qs, S, hsp', F, hq, rfl⟩
       obtain ⟨at', hat', hat1⟩ : ∃ at' : Nat, (rs.length : Int) - 1 - (j : Int) = (at' : Int) /\ at' = rs.length - 1 - j := ⟨rs.length - 1 - j, by omega, rfl⟩
       have hpos' : 0 < at' := by omega
       have hlt : at' < rs.length := by omega
       rw [hat']
       rw [<- hat1] at F
       obtain ⟨p, r, hix, hr', ho⟩ := R.rw.ix hlt
       have ft := R.ft.at hr'
       have lb := zb (R.ft.take at') R.c1 (Nat.le_refl _)
       have hs0 : atI ((zs (c :: szs rs)).map V.int) (at' : Int) = some (.int (Qa c (rs.take at') : Nat)) := Ab (se (by omega))
       have en := BR.Ja hr'
       have eg := ze (c := c) (f := f) (rs := rs) (b := c) (i := at') hlt
       rw [en, Wa] at eg
       have eg2 := ze (c := c) (f := f) (rs := rs) (b := c) (i := at' - 1) (by omega)
       rw [show at' - 1 + 1 = at' by omega] at eg2
       have edrop : rs.drop at' = r :: rs.drop (at' + 1) := by
        rw [List.drop_eq_getElem_cons hlt]
        congr 1
        exact (List.getElem?_eq_some_iff.mp hr').2
       rw [edrop] at eg2
       have ql := F.ln
       obtain ⟨qs', pl, rfl⟩ : ∃ qs' pl, qs = qs' ++ [pl] := by
        have : qs ≠ [] := by
         rintro rfl
         rw [List.length_reverse, List.length_drop, wl] at ql
         simp at ql
         omega
        exact Og this
       have hpl : H' pl = some (lstN (wB c f r.n (rs.drop (at' + 1)))) := by
        rw [vf eg] at F ql
        obtain ⟨l', hl', hh⟩ := F.it qs'.length pl (by simp)
        have e1 : qs'.length = ((wths c f rs).drop (at' + 1)).reverse.length := by
         rw [List.length_append, List.length_append] at ql
         simpa using ql
        rw [e1, List.getElem?_append_right (Nat.le_refl _), Nat.sub_self] at hl'
        have : wB c f r.n (rs.drop (at' + 1)) = l' := by simpa using hl'
        rw [this]; exact hh
       have hfits : FitR c r.n (rs.drop (at' + 1)) := by
        have hh := R.ft
        rw [<- List.take_append_drop (at' + 1) rs, FitR.app, en, Wa] at hh
        exact hh.2
       have hw2 : Qa r.n (rs.drop (at' + 1)) = 1 := by
        have hh := hw
        rw [<- List.take_append_drop (at' + 1) rs, qb, en, Wa] at hh
        exact hh
       have rn := ft.pos
       have wbd : ∀ x ∈ wB c f r.n (rs.drop (at' + 1)), x < 2 ^ 60000 := fun x hx => by
        have h1 := xo hf hfits x hx
        have h2 := Vb (b := 512) (drs c r.n (rs.drop (at' + 1))) (qd hfits (ft.le lb.2) (by omega))
        rw [wb, List.length_drop] at h2
        exact Nat.lt_of_lt_of_le (Nat.lt_of_le_of_lt h1 h2) (Nat.pow_le_pow_right (by decide) (by omega))
       left
       refine lj (xs := (qs' ++ [pl]).map V.ref) F.ls ?_
       left
       refine Ta (xs := (zs (c :: szs rs)).map V.int) hsp' hs0 ?_
       left
       refine Ta (S _ _ R.rw.ls) hix ?_
       left
       refine Ta (xs := (qs' ++ [pl]).map V.ref) (v := .ref pl) F.ls (by rw [List.map_append]; exact Fd _ _) ?_
       left
       refine Sv (S _ _ ho) hpl (Yh hw2) hf (by omega) (by omega) ft wbd fun pn Hn hpn sn hn => ?_
       have F2 := F.same sn
       have npf : pn ≠ fa := by
        intro z
        subst z
        rw [F.ls] at hpn
        cases hpn
       left
       refine gb (xs := (qs' ++ [pl]).map V.ref) F2.ls (by rw [List.length_map, sizeLine_eq]; rw [List.length_reverse, List.length_drop, wl] at ql; omega) ?_
       refine ⟨some (.int at'), qs' ++ [pl] ++ [pn], fun b' o z => ?_, ?_, ?_, fun p' hp' => ?_, rfl⟩
       . rw [La (oa z nfa)]
         exact sn _ _ (S _ _ z)
       . rw [La nsf]
         exact sn _ _ hsp'
       . rw [show rs.length - 1 - (j + 1) = at' - 1 by omega, vf eg2, show at' - 1 + 1 = at' by omega]
         exact F2.pushL (fun p' hp' => (hq p' hp').2) npf hn
       . rcases List.mem_append.mp hp' with hp' | hp'
         . exact hq p' hp'
         . have : p' = pn := by simpa using hp'
           subst this
           exact ⟨(show Same H H' from S).free hpn, npf⟩
     . rintro σ' H' ⟨x, qs, S, hsp', F, hq, rfl⟩
       rw [show rs.length - 1 - ((rs.length : Int) - 1 - 0).toNat = 0 by omega, List.drop_zero] at F
       left
       refine dh (xs := qs.map V.ref) F.ls fun p hp => ?_
       rw [<- List.map_reverse]
       have F3 := F.rev hp
       rw [List.reverse_reverse] at F3
       have hne : ∀ p' ∈ qs, p' ≠ p := fun p' hp' => by
        obtain ⟨i, hi⟩ := List.getElem?_of_mem hp'
        obtain ⟨_, _, h2⟩ := F.it i p' hi
        exact oa h2 hp
       exact q p _ qs.reverse ((show Same H H' from S).free hp) ((show Same H H' from S).new hp) F3 fun p' hp' => ⟨(hq p' (List.mem_reverse.mp hp')).1, hne p' (List.mem_reverse.mp hp')⟩
theorem kg (T : Txt mg) (U : Up K mg "friendly_many" zc ["count", "friends", "row"]) (C_roads : Mm P w K mg base) : Fc P w K mg base := by
 have sc := gg
 refine Callee.of (k := 8) U sc (fun vs H Q E h => ?_) (fun f cdv A outer s H vs Q E hr h => ?_)
 . obtain ⟨c, f, a, ps, rs, rfl, _⟩ := h; rfl
 . obtain ⟨c, f, a, ps, rs, rfl, R, q⟩ := h
   have hu := hr.units
   conv in (Ha _) => whnf
   with_reducible refine ⟨_, (ba (xa (i := 3) ‹sc.nd› ‹rfl› ‹Or.inl rfl› (pe_c ‹C_roads› ‹hr.mono (by decide)› ‹rfl› (aa (pv 0) (aa (pv 1) (aa (pv 2) da))))) (ba (Sa (rf (truK (K := K) ‹rfl› (pv 3))) (ka (Ea (pv 1))) Ka) (ka (Ea (Na (ixK (K := K) ‹rfl›) (Na (ixK (K := K) ‹rfl›) (pv 3) (Qe wc qa) ‹fun _ _ => rfl›) qa ‹fun _ _ => rfl›))))), ?_⟩
   rw [show L2.start ["count", "friends", "row", "found"] [V.int c, V.int f, V.ref a] = [some (V.int c), some (V.int f), some (V.ref a), none] from rfl]
   left
   refine Vp R fun ra H1 qs hra s1 F hq => ?_
   left
   refine kv (xs := qs.map V.ref) F.ls ?_
   have ql := F.ln
   have rl := Zl c f rs c (one c f 1)
   unfold road at ql F
   by_cases z : rs = []
   . subst z
     have e : qs = [] := by
      rw [show rds c f c (one c f 1) [] = [] from rfl] at ql
      exact List.eq_nil_of_length_eq_zero ql
     subst e
     rw [show (!(List.map V.ref ([] : List Addr)).isEmpty) = false from rfl]
     left
     have hw : c = 1 := R.wh
     have hf := R.fr
     subst hw
     have ef : frM 1 f [] = f := by
      have : f = 0 \/ f = 1 := by omega
      rcases this with rfl | rfl <;> rfl
     rw [ef] at q
     exact q _ s1
   . obtain ⟨rs', r, rfl⟩ : ∃ rs' r, rs = rs' ++ [r] := Og z
     rw [jj] at F ql
     obtain ⟨qs', p, rfl⟩ : ∃ qs' p, qs = qs' ++ [p] := by
      have : qs ≠ [] := by
       rintro rfl
       rw [List.length_append] at ql
       simp at ql
      exact Og this
     have e0 : (!(List.map V.ref (qs' ++ [p])).isEmpty) = true := by simp
     rw [e0]
     left
     refine Ta (xs := (qs' ++ [p]).map V.ref) (v := .ref p) F.ls (by rw [List.map_append]; exact Fd _ _) ?_
     left
     have hl' : qs'.length = (rds c f c (one c f 1) rs').length := by
      rw [List.length_append, List.length_append] at ql
      simp at ql
      exact ql
     obtain ⟨l, hl, hp⟩ := F.it qs'.length p (by simp)
     rw [hl', List.getElem?_append_right (Nat.le_refl _), Nat.sub_self] at hl
     have el : ron c f (Qa c rs') (rdl c f c (one c f 1) rs') r = l := by simpa using hl
     have hw := R.wh
     rw [Wa] at hw
     have e1 : l[1]? = some (frM c f (rs' ++ [r])) := by
      unfold frM
      rw [kj, <- el]
      unfold ron
      rw [hw, Gb _ (by decide), List.getD_eq_getElem?_getD, Gb _ (by decide)]; rfl
     refine Ta (xs := (zs l).map V.int) hp (Ab (i := 1) e1) ?_
     exact q _ s1
theorem qm (T : Txt mg) (U : Up K mg "marks_of" Ff ["folk", "friends"]) : Ce P w K mg base := by
 have sc := Ml
 refine Callee.of (k := 0) U sc (fun vs H Q E h => ?_) (fun f cdv A outer s H vs Q E hr h => ?_)
 . obtain ⟨g, fo, fr', c, fv, rfl, _⟩ := h; rfl
 . obtain ⟨g, fo, fr', c, fv, rfl, NM, hc, hfo, hfr, hfl, q⟩ := h
   have hu := hr.units
   have lrc : (List.range c).length = c := List.length_range
   have hfo' : H fo = some (.lst ((List.range c).map g)) := hfo
   conv in (Ha _) => whnf
   with_reducible refine ⟨_, (ka (Ea (Te ["friends"] ["name"] [1] (by with_unfolding_all rfl) ‹rfl› ‹rfl› (piLK (K := K) ‹rfl› (pv 0)) (by decide) ‹rfl› (by decide) ‹⟨rfl, trivial⟩› (by with_unfolding_all rfl) (fun _ => ‹⟨cap1 rfl rfl rfl rfl, trivial⟩›) (fun _ _ _ _ => (Aa (i := 1) ‹show List.Nodup (["friends", "name"] : List Str) from by decide +kernel› ‹rfl› ‹Or.inl rfl› ‹.inr rfl›)) (fun _ _ _ _ => Lb) (fun _ _ _ _ => (Cd (inK (K := K) ‹rfl›) (pv 1) (pv 0) ‹rfl›))))), ?_⟩
   rw [show L2.start ["folk", "friends"] [V.ref fo, V.ref fr'] = [some (V.ref fo), some (V.ref fr')] from rfl]
   left
   refine pe (a := fo) (xs := (List.range c).map g) [some (.ref fr')] (fun i ys H' => H' = H /\ i <= c /\ ys = (List.range i).map fun a => V.bl (inV (g a) fv)) rfl (by rw [List.length_map, sizeLine_eq, lrc]; omega) ⟨rfl, Nat.zero_le _, rfl⟩ (fun i ys H' _ h => by obtain ⟨e, _⟩ := h; subst e; exact SqL.of hfo') (fun i ys H' h => by
    obtain ⟨_, _, e⟩ := h
    rw [e, List.length_map, List.length_range]; exact Nat.le_refl _) ?_ ?_
   . rintro i v ys z H' hv ⟨rfl, _, rfl⟩
     obtain ⟨a, ha, rfl⟩ := getG hv
     have hil : i < c := by have := (List.getElem?_eq_some_iff.mp ha).1; rw [lrc] at this; exact this
     have ea : a = i := by rw [List.getElem?_range hil] at ha; exact (Option.some.inj ha).symm
     subst ea
     left
     refine Jo (NM.flat a) hfl hfr ?_
     refine ⟨⟨rfl, by omega, ?_⟩, _, rfl⟩
     rw [List.range_succ, List.map_append]
     rfl
   . rintro ys H' ⟨rfl, _, rfl⟩ D hD
     rw [List.length_map, lrc]
     exact q D _ hD ((Same.refl H').new hD) ja
theorem jg (T : Txt mg) (U : Up K mg "friends_among" xc ["marks", "places"]) : Fb P w K mg base := by
 have sc := fg
 refine Callee.of (k := 0) U sc (fun vs H Q E h => ?_) (fun f cdv A outer s H vs Q E hr h => ?_)
 . obtain ⟨m, p, c, F, l, rfl, _⟩ := h; rfl
 . obtain ⟨m, p, c, F, l, rfl, hm, hp, hl, h5, q⟩ := h
   have hu := hr.units
   have hm' : H m = some (.lst ((List.range c).map fun a => V.bl (F a))) := hm
   have hp' : H p = some (.lst ((zs l).map V.int)) := hp
   conv in (Ha _) => whnf
   with_reducible refine ⟨_, (ka (Ea (Ga (lenK (K := K) ‹rfl›) ‹rfl› ‹T.b_len› Va (aa (Te ["marks"] ["place"] [0] (by with_unfolding_all rfl) ‹rfl› ‹rfl› (piLK (K := K) ‹rfl› (pv 1)) (by decide) ‹rfl› (by decide) ‹⟨rfl, trivial⟩› (by with_unfolding_all rfl) (fun _ => ‹⟨cap1 rfl rfl rfl rfl, trivial⟩›) (fun _ _ _ _ => (Aa (i := 1) ‹show List.Nodup (["marks", "place"] : List Str) from by decide +kernel› ‹rfl› ‹Or.inl rfl› ‹.inr rfl›)) (fun _ _ _ _ => (Vd (truK (K := K) ‹rfl› (Na (ixK (K := K) ‹rfl›) (pv 0) (pv 1) ‹fun _ _ => rfl›)))) (fun _ _ _ _ => (pv 1))) da)))), ?_⟩
   rw [show L2.start ["marks", "places"] [V.ref m, V.ref p] = [some (V.ref m), some (V.ref p)] from rfl]
   left
   refine pe (a := p) (xs := (zs l).map V.int) [some (.ref m)] (fun i ys H' => H' = H /\ ys = (zs ((l.take i).filter F)).map V.int) rfl (by rw [ua, sizeLine_eq]; omega) ⟨rfl, rfl⟩ (fun i ys H' _ h => by obtain ⟨e, _⟩ := h; subst e; exact SqL.of hp') (fun i ys H' h => by
    obtain ⟨_, e⟩ := h
    rw [e, ua]
    exact Nat.le_trans (List.length_filter_le _ _) (by rw [List.length_take]; omega)) ?_ ?_
   . rintro i v ys z H' hv ⟨rfl, rfl⟩
     obtain ⟨a, ha, rfl⟩ := Za hv
     have tn := BR.Ja ha
     have hac := hl a (List.mem_of_getElem? ha)
     left
     refine Ta hm' (v := .bl (F a)) (Pb (by rw [List.getElem?_map, List.getElem?_range hac]; rfl)) ?_
     left
     cases u : F a with
     | true =>
      left
      refine ⟨⟨rfl, ?_⟩, _, rfl⟩
      rw [tn, List.filter_append, show ([a].filter F) = [a] by simp [u], <- lst_snoc]
     | false =>
      left
      refine ⟨⟨rfl, ?_⟩, _, rfl⟩
      rw [tn, List.filter_append, show ([a].filter F) = [] by simp [u], List.append_nil]
   . rintro ys H' ⟨rfl, rfl⟩ D hD
     rw [ua, List.take_length]
     left
     rw [ua]
     have eon : (l.filter F).length = BR.fr F l := by unfold BR.fr; rw [List.countP_eq_length_filter]
     rw [eon]
     exact q _ ((Same.refl H').new hD)
theorem Bk (T : Txt mg) (U : Up K mg "seated_by" Je ["marks", "seats", "who"]) : Ye P w K mg base := by
 have sc := sk
 refine Callee.of (k := 0) U sc (fun vs H Q E h => ?_) (fun f cdv A outer s H vs Q E hr h => ?_)
 . obtain ⟨m, c, n, F, t, rfl, _⟩ := h; rfl
 . obtain ⟨m, c, n, F, t, rfl, hm, hc, hn, q⟩ := h
   have hu := hr.units
   have lrc : (List.range c).length = c := List.length_range
   have hm' : H m = some (.lst ((List.range c).map fun a => V.bl (F a))) := hm
   conv in (Ha _) => whnf
   with_reducible refine ⟨_, (ba (xa (i := 3) ‹sc.nd› ‹rfl› ‹Or.inr rfl› (Cd (eqK (K := K) ‹rfl› ‹hu›) (pv 2) Ra ‹Ca _›)) (ba (oi ["ours"] ["place", "friend"] [3] (Aa (i := 4) ‹sc.nd› ‹rfl› ‹Or.inl rfl›) (by with_unfolding_all rfl) ‹rfl› ‹rfl› (Zd ‹rfl› ‹T.b_enumerate› (aa (pv 0) da)) (by decide) ‹rfl› (by decide) ‹⟨rfl, trivial⟩› (by with_unfolding_all rfl) (fun _ => ‹⟨cap1 rfl rfl rfl rfl, trivial⟩›) (fun _ _ _ _ => (fe (K := K) (n := 2) ‹rfl› ‹rfl› (Pa (Aa (i := 1) ‹show List.Nodup (["ours", "place", "friend"] : List Str) from by decide +kernel› ‹rfl› ‹Or.inl rfl› ‹.inr rfl›) (Pa (Aa (i := 2) ‹show List.Nodup (["ours", "place", "friend"] : List Str) from by decide +kernel› ‹rfl› ‹Or.inl rfl› ‹.inr rfl›) Eb)))) (fun _ _ _ _ => (Vd (va (eqK (K := K) ‹rfl› ‹hu›) (pv 2) (pv 0) ‹Ca _›))) (fun _ _ _ _ => (pv 1))) (ba (oi ["ours"] ["place", "friend"] [3] (Aa (i := 5) ‹sc.nd› ‹rfl› ‹Or.inl rfl›) (by with_unfolding_all rfl) ‹rfl› ‹rfl› (Zd ‹rfl› ‹T.b_enumerate› (aa (pv 0) da)) (by decide) ‹rfl› (by decide) ‹⟨rfl, trivial⟩› (by with_unfolding_all rfl) (fun _ => ‹⟨cap1 rfl rfl rfl rfl, trivial⟩›) (fun _ _ _ _ => (fe (K := K) (n := 2) ‹rfl› ‹rfl› (Pa (Aa (i := 1) ‹show List.Nodup (["ours", "place", "friend"] : List Str) from by decide +kernel› ‹rfl› ‹Or.inl rfl› ‹.inr rfl›) (Pa (Aa (i := 2) ‹show List.Nodup (["ours", "place", "friend"] : List Str) from by decide +kernel› ‹rfl› ‹Or.inl rfl› ‹.inr rfl›) Eb)))) (fun _ _ _ _ => (Vd (va (neK (K := K) ‹rfl› ‹hu›) (pv 2) (pv 0) ‹Ca _›))) (fun _ _ _ _ => (pv 1))) (ka (Ea (Ga (sortedK (K := K) ‹rfl›) ‹rfl› ‹T.b_sorted› vt (aa (xg (slK (K := K) ‹rfl›) (Ma (addK (K := K) ‹rfl›) (pv 4) (pv 5)) qj (oj (pv 1))) da))))))), ?_⟩
   rw [show L2.start ["marks", "seats", "who", "ours", "own", "others"] [V.ref m, V.int n, V.str (if t then "friends" else "foes")] = [some (V.ref m), some (V.int n), some (V.str (if t then "friends" else "foes")), none, none, none] from rfl]
   left
   rw [show decide ((if t = true then PySem.Str.ofString "friends" else PySem.Str.ofString "foes") = PySem.Str.ofString "friends") = t by cases t <;> decide +kernel]
   refine compE (a := m) (xs := (List.range c).map fun a => V.bl (F a)) [some (.bl t)] (fun i ys H' => Same H H' /\ i <= c /\ ys = (zs ((List.range i).filter fun a => F a == t)).map V.int) rfl (by rw [List.length_map, sizeLine_eq, lrc]; omega) ⟨Same.refl H, Nat.zero_le _, rfl⟩ (fun i ys H' _ h => h.1 _ _ hm') (fun i ys H' h => by
    obtain ⟨_, _, e⟩ := h
    rw [e, ua]
    exact Nat.le_trans (List.length_filter_le _ _) (by rw [List.length_range]; exact Nat.le_refl _)) ?_ ?_
   . rintro i x ys z1 z2 H' T0 hx ⟨s, hi, rfl⟩ hT
     obtain ⟨a, ha, rfl⟩ := getG hx
     have hil : i < c := by have := (List.getElem?_eq_some_iff.mp ha).1; rw [lrc] at this; exact this
     have ea : a = i := by rw [List.getElem?_range hil] at ha; exact (Option.some.inj ha).symm
     subst ea
     left
     cases u : (F a == t) with
     | true =>
      left
      refine ⟨⟨s.new hT, by omega, ?_⟩, _, _, rfl⟩
      rw [List.range_succ, List.filter_append, List.filter_cons_of_pos (by exact u), List.filter_nil, <- lst_snoc]
     | false =>
      left
      refine ⟨⟨s.new hT, by omega, ?_⟩, _, _, rfl⟩
      rw [List.range_succ, List.filter_append, List.filter_cons_of_neg (by rw [u]; decide), List.filter_nil, List.append_nil]
   . rintro ys H1 ⟨s1, _, rfl⟩ D1 hD1
     rw [List.length_map, lrc]
     have t1 := s1.new (o := .lst ((zs ((List.range c).filter fun a => F a == t)).map V.int)) hD1
     have w1 : upd H1 D1 (.lst ((zs ((List.range c).filter fun a => F a == t)).map V.int)) D1 = some (.lst ((zs ((List.range c).filter fun a => F a == t)).map V.int)) := ja
     generalize upd H1 D1 (.lst ((zs ((List.range c).filter fun a => F a == t)).map V.int)) = H2 at t1 w1 ⊢
     left
     refine compE (a := m) (xs := (List.range c).map fun a => V.bl (F a)) [some (.bl t)] (fun i ys H' => Same H2 H' /\ i <= c /\ ys = (zs ((List.range i).filter fun a => !(F a == t))).map V.int) rfl (by rw [List.length_map, sizeLine_eq, lrc]; omega) ⟨Same.refl H2, Nat.zero_le _, rfl⟩ (fun i ys H' _ h => (t1.tr h.1) _ _ hm') (fun i ys H' h => by
      obtain ⟨_, _, e⟩ := h
      rw [e, ua]
      exact Nat.le_trans (List.length_filter_le _ _) (by rw [List.length_range]; exact Nat.le_refl _)) ?_ ?_
     . rintro i x ys z1 z2 H' T0 hx ⟨s, hi, rfl⟩ hT
       obtain ⟨a, ha, rfl⟩ := getG hx
       have hil : i < c := by have := (List.getElem?_eq_some_iff.mp ha).1; rw [lrc] at this; exact this
       have ea : a = i := by rw [List.getElem?_range hil] at ha; exact (Option.some.inj ha).symm
       subst ea
       left
       rw [show (F a != t) = !(F a == t) from rfl]
       cases u : (F a == t) with
       | true =>
        left
        refine ⟨⟨s.new hT, by omega, ?_⟩, _, _, rfl⟩
        rw [List.range_succ, List.filter_append, List.filter_cons_of_neg (by rw [u]; decide), List.filter_nil, List.append_nil]
       | false =>
        left
        refine ⟨⟨s.new hT, by omega, ?_⟩, _, _, rfl⟩
        rw [List.range_succ, List.filter_append, List.filter_cons_of_pos (by rw [u]; decide), List.filter_nil, <- lst_snoc]
     . rintro ys H3 ⟨s3, _, rfl⟩ D2 hD2
       rw [List.length_map, lrc]
       have t3 := (t1.tr s3).new (o := .lst ((zs ((List.range c).filter fun a => !(F a == t))).map V.int)) hD2
       have w2 : upd H3 D2 (.lst ((zs ((List.range c).filter fun a => !(F a == t))).map V.int)) D2 = some (.lst ((zs ((List.range c).filter fun a => !(F a == t))).map V.int)) := ja
       have w12 := rb (o := .lst ((zs ((List.range c).filter fun a => !(F a == t))).map V.int)) (oa (s3 _ _ w1) hD2) (s3 _ _ w1)
       generalize upd H3 D2 (.lst ((zs ((List.range c).filter fun a => !(F a == t))).map V.int)) = H4 at t3 w2 w12 ⊢
       have g1 := List.length_filter_le (fun a => F a == t) (List.range c)
       have g2 := List.length_filter_le (fun a => !(F a == t)) (List.range c)
       left
       refine Pe w12 w2 (by rw [ua, ua, sizeLine_eq]; omega) ?_
       intro D3 hD3
       rw [show (zs ((List.range c).filter fun a => F a == t)).map V.int ++ (zs ((List.range c).filter fun a => !(F a == t))).map V.int = (zs (((List.range c).filter fun a => F a == t) ++ ((List.range c).filter fun a => !(F a == t)))).map V.int by unfold zs; rw [List.map_append, List.map_append]]
       have t4 := t3.new (o := .lst ((zs (((List.range c).filter fun a => F a == t) ++ ((List.range c).filter fun a => !(F a == t)))).map V.int)) hD3
       have w4 : upd H4 D3 (.lst ((zs (((List.range c).filter fun a => F a == t) ++ ((List.range c).filter fun a => !(F a == t)))).map V.int)) D3 = some (.lst ((zs (((List.range c).filter fun a => F a == t) ++ ((List.range c).filter fun a => !(F a == t)))).map V.int)) := ja
       generalize upd H4 D3 (.lst ((zs (((List.range c).filter fun a => F a == t) ++ ((List.range c).filter fun a => !(F a == t)))).map V.int)) = H5 at t4 w4 ⊢
       left
       refine ah w4 ?_
       intro D4 hD4
       rw [Ys, show ((zs (((List.range c).filter fun a => F a == t) ++ ((List.range c).filter fun a => !(F a == t)))).map V.int).take n = (zs ((((List.range c).filter fun a => F a == t) ++ ((List.range c).filter fun a => !(F a == t))).take n)).map V.int by unfold zs; rw [List.map_take, List.map_take]]
       left
       refine cu (ns := zs ((((List.range c).filter fun a => F a == t) ++ ((List.range c).filter fun a => !(F a == t))).take n)) ja (by rw [Qu, List.length_take]; omega) ?_
       intro D5 ms hD5 pm pw
       have e := Il pm pw
       subst e
       have t5 := t4.new (o := .lst ((zs ((((List.range c).filter fun a => F a == t) ++ ((List.range c).filter fun a => !(F a == t))).take n)).map V.int)) hD4
       exact q D5 _ (t5.free hD5) (t5.new hD5) ja
theorem lg (T : Txt mg) (U : Up K mg "bench_undrawn" Ac ["marks", "bench", "step"]) (C_side : wo P w K mg base) (C_friends_among : Fb P w K mg base) (C_seated_by : Ye P w K mg base) : Rb P w K mg base := by
 have sc := ig
 refine Callee.of (k := 1) U sc (fun vs H Q E h => ?_) (fun f cdv A outer s H vs Q E hr h => ?_)
 . obtain ⟨m, b, p, c, F, l, r, rfl, _⟩ := h; rfl
 . obtain ⟨m, b, p, c, F, l, r, rfl, B, q1, q2⟩ := h
   have hu := hr.units
   have hb' : H b = some (.lst ((zs l).map V.int)) := B.bn
   have cc := B.cc
   have ll := B.ll
   have frl := BR.We F l
   cases r with
   | lot n =>
    have hp' : H p = some (.tup [.str "lot", .int n]) := B.st
    conv in (Ha _) => whnf
    with_reducible refine ⟨_, (ba (Sa (va (eqK (K := K) ‹rfl› ‹hu›) (Na (ixK (K := K) ‹rfl›) (pv 2) qa ‹fun _ _ => rfl›) Ra ‹Ca _›) (ka (Ea sf)) Ka) (ba (xa (i := 3) ‹sc.nd› ‹rfl› ‹Or.inl rfl› (pe_c ‹C_side› ‹hr.mono (by decide)› ‹rfl› (aa (Ga (lenK (K := K) ‹rfl›) ‹rfl› ‹T.b_len› Va (aa (pv 1) da)) (aa (pe_c ‹C_friends_among› ‹hr.mono (by decide)› ‹rfl› (aa (pv 0) (aa (pv 1) da))) (aa (Na (ixK (K := K) ‹rfl›) (pv 2) qa ‹fun _ _ => rfl›) da))))) (ba (Sa (va (neK (K := K) ‹rfl› ‹hu›) (pv 3) Ra ‹Ca _›) (ka (Ea (pe_c ‹C_seated_by› ‹hr.mono (by decide)› ‹rfl› (aa (pv 0) (aa (Na (ixK (K := K) ‹rfl›) (pv 2) qa ‹fun _ _ => rfl›) (aa (pv 3) da)))))) Ka) (ba (Sa (va (eqK (K := K) ‹rfl› ‹hu›) (Na (ixK (K := K) ‹rfl›) (pv 2) qa ‹fun _ _ => rfl›) Ra ‹Ca _›) (ka (Ea (Zb (Wo (K := K) ‹rfl›) ‹rfl› ‹T.b_list› Xe (aa (pv 1) da)))) Ka) (ka (Ea sf)))))), ?_⟩
    rw [show L2.start ["marks", "bench", "step", "who"] [V.ref m, V.ref b, V.ref p] = [some (V.ref m), some (V.ref b), some (V.ref p), none] from rfl]
    left
    refine za (fun _ => ?_) (fun z => absurd rfl z)
    left
    exact q1 rfl _ (Same.refl H)
   | vote n q w =>
    have hp' : H p = some (.tup [.str "vote", .int n, .int q, .str (wdS w)]) := B.st
    obtain ⟨f1, f2, f3, f4, f5, f6, f7⟩ := B.ft
    conv in (Ha _) => whnf
    with_reducible refine ⟨_, (ba (Sa (va (eqK (K := K) ‹rfl› ‹hu›) (Na (ixK (K := K) ‹rfl›) (pv 2) qa ‹fun _ _ => rfl›) Ra ‹Ca _›) (ka (Ea sf)) Ka) (ba (xa (i := 3) ‹sc.nd› ‹rfl› ‹Or.inl rfl› (pe_c ‹C_side› ‹hr.mono (by decide)› ‹rfl› (aa (Ga (lenK (K := K) ‹rfl›) ‹rfl› ‹T.b_len› Va (aa (pv 1) da)) (aa (pe_c ‹C_friends_among› ‹hr.mono (by decide)› ‹rfl› (aa (pv 0) (aa (pv 1) da))) (aa (Na (ixK (K := K) ‹rfl›) (pv 2) qa ‹fun _ _ => rfl›) da))))) (ba (Sa (va (neK (K := K) ‹rfl› ‹hu›) (pv 3) Ra ‹Ca _›) (ka (Ea (pe_c ‹C_seated_by› ‹hr.mono (by decide)› ‹rfl› (aa (pv 0) (aa (Na (ixK (K := K) ‹rfl›) (pv 2) qa ‹fun _ _ => rfl›) (aa (pv 3) da)))))) Ka) (ba (Sa (va (eqK (K := K) ‹rfl› ‹hu›) (Na (ixK (K := K) ‹rfl›) (pv 2) qa ‹fun _ _ => rfl›) Ra ‹Ca _›) (ka (Ea (Zb (Wo (K := K) ‹rfl›) ‹rfl› ‹T.b_list› Xe (aa (pv 1) da)))) Ka) (ka (Ea sf)))))), ?_⟩
    rw [show L2.start ["marks", "bench", "step", "who"] [V.ref m, V.ref b, V.ref p] = [some (V.ref m), some (V.ref b), some (V.ref p), none] from rfl]
    left
    refine za (fun z => absurd z (by decide)) (fun _ => ?_)
    left
    rw [ua]
    refine Mg B.ma B.bn B.lt (by omega) fun H1 s1 => ?_
    have hp1 := s1 _ _ hp'
    have hb1 := s1 _ _ hb'
    left
    refine Wm frl ?_
    left
    by_cases hA : q <= BR.fr F l
    . have e : jf l.length (BR.fr F l) q = (if true = true then PySem.Str.ofString "friends" else PySem.Str.ofString "foes") := by unfold jf; rw [if_pos hA]; rfl
      rw [e]
      refine ag (fun _ => ?_) (fun z => absurd z (by decide))
      left
      refine gi (t := true) (s1 _ _ B.ma) cc f2 fun z H2 hz s2 h2 => ?_
      exact q2 _ (if_pos hA) z H2 (s1.free hz) (s1.tr s2) h2
    . by_cases hB : q <= l.length - BR.fr F l
      . have e : jf l.length (BR.fr F l) q = (if false = true then PySem.Str.ofString "friends" else PySem.Str.ofString "foes") := by unfold jf; rw [if_neg hA, if_pos hB]; rfl
        rw [e]
        refine ag (fun _ => ?_) (fun z => absurd z (by decide))
        left
        refine gi (t := false) (s1 _ _ B.ma) cc f2 fun z H2 hz s2 h2 => ?_
        exact q2 _ ((if_neg hA).trans (if_pos hB)) z H2 (s1.free hz) (s1.tr s2) h2
      . have e : jf l.length (BR.fr F l) q = PySem.Str.ofString "hung" := by unfold jf; rw [if_neg hA, if_neg hB]
        rw [e]
        refine ag (fun z => absurd rfl z) (fun _ => ?_)
        left
        cases w with
        | stay =>
         refine za (fun _ => ?_) (fun z => absurd rfl z)
         left
         refine Kf (xs := (zs l).map V.int) (SqL.of hb1) ?_
         intro z hz
         exact q2 l ((if_neg hA).trans ((if_neg hB).trans (if_pos rfl))) z _ (s1.free hz) (s1.new hz) ja
        | council =>
         refine za (fun z => absurd z (by decide)) (fun _ => ?_)
         left
         exact q1 ((if_neg hA).trans ((if_neg hB).trans (if_neg (by decide)))) _ s1
        | bench =>
         refine za (fun z => absurd z (by decide)) (fun _ => ?_)
         left
         exact q1 ((if_neg hA).trans ((if_neg hB).trans (if_neg (by decide)))) _ s1
theorem mh (T : Txt mg) (U : Up K mg "drawn_out_of" Qc ["marks", "bench", "step"]) : Xb P w K mg base := by
 have sc := Vg
 refine Callee.of (k := 0) U sc (fun vs H Q E h => ?_) (fun f cdv A outer s H vs Q E hr h => ?_)
 . obtain ⟨m, b, p, c, F, l, r, rfl, _⟩ := h; rfl
 . obtain ⟨m, b, p, c, F, l, r, rfl, B, q⟩ := h
   have hu := hr.units
   have hb' : H b = some (.lst ((zs l).map V.int)) := B.bn
   have hm' : H m = some (.lst ((List.range c).map fun a => V.bl (F a))) := B.ma
   have cc := B.cc
   cases r with
   | lot n =>
    have hp' : H p = some (.tup [.str "lot", .int n]) := B.st
    conv in (Ha _) => whnf
    with_reducible refine ⟨_, (ba (Sa (PW.pt (qf (va (eqK (K := K) ‹rfl› ‹hu›) (Na (ixK (K := K) ‹rfl›) (pv 2) qa ‹fun _ _ => rfl›) Ra ‹Ca _›) (Bd (va (eqK (K := K) ‹rfl› ‹hu›) (Na (ixK (K := K) ‹rfl›) (pv 2) qa ‹fun _ _ => rfl›) Ra ‹Ca _›)))) (ka (Ea (Ic ‹rfl› ‹rfl› ‹T.b_list› ‹rfl› ‹T.b_range› (aa (Ga (lenK (K := K) ‹rfl›) ‹rfl› ‹T.b_len› Va (aa (pv 0) da)) da)))) Ka) (ka (Ea (Zb (Wo (K := K) ‹rfl›) ‹rfl› ‹T.b_list› Xe (aa (pv 1) da))))), ?_⟩
    rw [show L2.start ["marks", "bench", "step"] [V.ref m, V.ref b, V.ref p] = [some (V.ref m), some (V.ref b), some (V.ref p)] from rfl]
    left
    refine za (fun z => absurd z (by decide)) (fun _ => ?_)
    left
    refine Kf (xs := (zs l).map V.int) (SqL.of hb') ?_
    intro z hz
    exact q z _ hz ((Same.refl H).new hz) ja
   | vote n q2 w =>
    have hp' : H p = some (.tup [.str "vote", .int n, .int q2, .str (wdS w)]) := B.st
    conv in (Ha _) => whnf
    with_reducible refine ⟨_, (ba (Sa (PW.pt (qf (va (eqK (K := K) ‹rfl› ‹hu›) (Na (ixK (K := K) ‹rfl›) (pv 2) qa ‹fun _ _ => rfl›) Ra ‹Ca _›) (Bd (va (eqK (K := K) ‹rfl› ‹hu›) (Na (ixK (K := K) ‹rfl›) (pv 2) qa ‹fun _ _ => rfl›) Ra ‹Ca _›)))) (ka (Ea (Ic ‹rfl› ‹rfl› ‹T.b_list› ‹rfl› ‹T.b_range› (aa (Ga (lenK (K := K) ‹rfl›) ‹rfl› ‹T.b_len› Va (aa (pv 0) da)) da)))) Ka) (ka (Ea (Zb (Wo (K := K) ‹rfl›) ‹rfl› ‹T.b_list› Xe (aa (pv 1) da))))), ?_⟩
    rw [show L2.start ["marks", "bench", "step"] [V.ref m, V.ref b, V.ref p] = [some (V.ref m), some (V.ref b), some (V.ref p)] from rfl]
    left
    refine za (fun _ => ?_) (fun z => absurd rfl z)
    left
    cases w with
    | council =>
     refine za (fun _ => ?_) (fun z => absurd rfl z)
     left
     refine r_LR ?_
     left
     rw [List.length_map, List.length_range]
     refine ⟨c, rfl, by omega, fun z hz => ?_⟩
     exact q z _ hz ((Same.refl H).new hz) ja
    | bench =>
     refine za (fun z => absurd z (by decide)) (fun _ => ?_)
     left
     refine Kf (xs := (zs l).map V.int) (SqL.of hb') ?_
     intro z hz
     exact q z _ hz ((Same.refl H).new hz) ja
    | stay =>
     refine za (fun z => absurd z (by decide)) (fun _ => ?_)
     left
     refine Kf (xs := (zs l).map V.int) (SqL.of hb') ?_
     intro z hz
     exact q z _ hz ((Same.refl H).new hz) ja
theorem Lr (T : Txt mg) (U : Up K mg "weight" Xi ["left", "few", "had", "weights"]) (C_behind_lot : Kc P w K mg base) : Eg P w K mg base := by
 have sc := Kq
 refine Callee.of (k := 2) U sc (fun vs H Q E h => ?_) (fun f cdv A outer s H vs Q E hr h => ?_)
 . obtain ⟨le, wa, few, had, bs, W, rfl, _⟩ := h; rfl
 . obtain ⟨le, wa, few, had, bs, W, rfl, hle, hwa, hb, hf, hi, hW, q⟩ := h
   have hu := hr.units
   have hwa' : H wa = some (.lst ((zs W).map V.int)) := hwa
   have cle : bs.countP (· == true) <= bs.length := List.countP_le_length
   conv in (Ha _) => whnf
   with_reducible refine ⟨_, (ba (xa (i := 4) ‹sc.nd› ‹rfl› ‹Or.inl rfl› qa) (ba (jb PassesOwn.never ‹rfl› (Zd ‹rfl› ‹T.b_enumerate› (aa (pe_c ‹C_behind_lot› ‹hr.mono (by decide)› ‹rfl› (aa (Ga (lenK (K := K) ‹rfl›) ‹rfl› ‹T.b_len› Va (aa (pv 0) da)) (aa (md ‹PySem.F.plainAttrs_list› ‹PySem.F.slot_list_count› ‹PySem.F.type_list_count› ‹yg› (pv 0) (aa Tc da)) (aa (pv 1) da)))) da)) (fe (K := K) (n := 2) ‹rfl› ‹rfl› (Pa (Aa (i := 5) ‹sc.nd› ‹rfl› ‹Or.inl rfl›) (Pa (Aa (i := 6) ‹sc.nd› ‹rfl› ‹Or.inl rfl›) Eb))) (ka (jd (i := 4) ‹sc.nd› ‹rfl› ‹Or.inl rfl› (Ma ub (pv 6) (Na (ixK (K := K) ‹rfl›) (pv 3) (Ma (addK (K := K) ‹rfl›) (pv 2) (pv 5)) ‹fun _ _ => rfl›)) dg))) (ka (Ea (pv 4))))), ?_⟩
   rw [show L2.start ["left", "few", "had", "weights", "found", "more", "many"] [V.ref le, V.int few, V.int had, V.ref wa] = [some (V.ref le), some (V.int few), some (V.int had), some (V.ref wa), none, none, none] from rfl]
   left
   rw [List.length_map]
   refine mj hle ?_
   left
   refine Mi hb cle hf fun pb H1 hpb s1 h1 => ?_
   have h1' : H1 pb = some (.lst ((zs (lotN bs.length (bs.countP (· == true)) few)).map V.int)) := h1
   have ll := zu bs.length (bs.countP (· == true)) few
   left
   refine forE (a := pb) (xs := (zs (lotN bs.length (bs.countP (· == true)) few)).map V.int) (fun i σ' H' => ∃ o1 o2 : Option V, Same H1 H' /\ σ' = [some (.ref le), some (.int few), some (.int had), some (.ref wa), some (.int ((sm i fun t => (lotN bs.length (bs.countP (· == true)) few).getD t 0 * W.getD (had + t) 0 : Nat) : Int)), o1, o2]) ⟨none, none, Same.refl _, rfl⟩ (fun i σ' H' _ h => by obtain ⟨_, _, s, _⟩ := h; exact s _ _ h1') ?_ ?_
   . rintro i x σ' H' T0 hx ⟨o1, o2, s, rfl⟩ hT
     obtain ⟨v, hv, rfl⟩ := Za hx
     have hil : i < few + 1 := by have := (List.getElem?_eq_some_iff.mp hv).1; omega
     obtain ⟨w0, hw0⟩ : ∃ w, W[had + i]? = some w := ⟨W[had + i]'(by omega), by simp⟩
     have b1 := mx cle hb v (List.mem_of_getElem? hv)
     have b2 := hW w0 (List.mem_of_getElem? hw0)
     have sT := s.new (o := .tup [.int (i : Int), .int (v : Int)]) hT
     have hTT : upd H' T0 (.tup [.int (i : Int), .int (v : Int)]) T0 = some (.tup [.int (i : Int), .int (v : Int)]) := ja
     generalize upd H' T0 (.tup [.int (i : Int), .int (v : Int)]) = HX at sT hTT ⊢
     have hwX := (s1.tr sT) _ _ hwa'
     left
     refine Ta hwX (v := .int (w0 : Int)) (by rw [show (had : Int) + (i : Int) = ((had + i : Nat) : Int) by rw [Int.natCast_add]]; exact Ab hw0) ?_
     left
     refine pf (.of 512 60000 (by rw [Int.natAbs_natCast]; exact b1) (by rw [Int.natAbs_natCast]; exact b2)) ?_
     left
     refine ⟨some (.int (i : Int)), some (.int (v : Int)), sT, ?_⟩
     have e : (sm (i + 1) fun t => (lotN bs.length (bs.countP (· == true)) few).getD t 0 * W.getD (had + t) 0) = (sm i fun t => (lotN bs.length (bs.countP (· == true)) few).getD t 0 * W.getD (had + t) 0) + v * w0 := by
      show _ + (lotN bs.length (bs.countP (· == true)) few).getD i 0 * W.getD (had + i) 0 = _
      rw [getD_some hv, getD_some hw0]
     rw [e, Int.natCast_add, Int.natCast_mul]
     rfl
   . rintro σ' H' ⟨o1, o2, s, rfl⟩
     left
     rw [ua, ll]
     exact q H' (s1.tr s)
theorem Rh (T : Txt mg) (U : Up K mg "pick_within" vd ["marks", "few", "weights", "k"]) (C_weight : Eg P w K mg base) : Gd P w K mg base := by
 have sc := Lh
 refine Callee.of (k := 3) U sc (fun vs H Q E h => ?_) (fun f cdv A outer s H vs Q E hr h => ?_)
 . obtain ⟨m, wa, n, k, F, q, W, rfl, _⟩ := h; rfl
 . obtain ⟨m, wa, n, k, F, q, W, rfl, hm, hwa, hq, hn, hW, hWb, hk, qq⟩ := h
   have hu := hr.units
   conv in (Ha _) => whnf
   with_reducible refine ⟨_, (ba (xa (i := 4) ‹sc.nd› ‹rfl› ‹Or.inl rfl› (ab da)) (ba (xa (i := 5) ‹sc.nd› ‹rfl› ‹Or.inl rfl› qa) (ba (jb PassesOwn.never ‹rfl› (Zd ‹rfl› ‹T.b_enumerate› (aa (pv 0) da)) (fe (K := K) (n := 2) ‹rfl› ‹rfl› (Pa (Aa (i := 6) ‹sc.nd› ‹rfl› ‹Or.inl rfl›) (Pa (Aa (i := 7) ‹sc.nd› ‹rfl› ‹Or.inl rfl›) Eb))) (ka (Sa (va (ltK (K := K) ‹rfl› ‹hu›) (Ga (lenK (K := K) ‹rfl›) ‹rfl› ‹T.b_len› Va (aa (pv 4) da)) (pv 1) ‹Ca _›) (ba (xa (i := 8) ‹sc.nd› ‹rfl› ‹Or.inl rfl› (uj (truK (K := K) ‹rfl› (pv 7)) (Ma (addK (K := K) ‹rfl›) (pv 5) qa) (pv 5))) (ba (xa (i := 9) ‹sc.nd› ‹rfl› ‹Or.inl rfl› (pe_c ‹C_weight› ‹hr.mono (by decide)› ‹rfl› (aa (xg (slK (K := K) ‹rfl›) (pv 0) (oj (Ma (addK (K := K) ‹rfl›) (pv 6) qa)) qj) (aa (Ma Ya (Ma Ya (pv 1) (Ga (lenK (K := K) ‹rfl›) ‹rfl› ‹T.b_len› Va (aa (pv 4) da))) qa) (aa (pv 8) (aa (pv 2) da)))))) (ka (Sa (va (ltK (K := K) ‹rfl› ‹hu›) (pv 3) (pv 9) ‹Ca _›) (ba (ib (md ‹PySem.F.plainAttrs_list› ‹PySem.F.slot_list_append› ‹PySem.F.type_list_append› ‹cb› (pv 4) (aa (pv 6) da))) (ka (xa (i := 5) ‹sc.nd› ‹rfl› ‹Or.inl rfl› (pv 8)))) (ka (jd (i := 3) ‹sc.nd› ‹rfl› ‹Or.inl rfl› (pv 9) Wn)))))) Ka))) (ka (Ea (kd (aa (Zb (Su (K := K) ‹rfl›) ‹rfl› ‹T.b_tuple› Tj (aa (pv 4) da)) (aa (pv 3) da)))))))), ?_⟩
   rw [show L2.start ["marks", "few", "weights", "k", "places", "had", "place", "friend", "taking", "having"] [V.ref m, V.int n, V.ref wa, V.int k] = [some (V.ref m), some (V.int n), some (V.ref wa), some (V.int k), none, none, none, none, none, none] from rfl]
   left
   intro pa hpa
   have nm : m ≠ pa := oa hm hpa
   have nwa : wa ≠ pa := oa hwa hpa
   left
   refine forE (a := m) (xs := (q.map F).map V.bl) (fun i σ' H' => ∃ (pl : List Nat) (X kk : Nat) (o1 o2 o3 o4 : Option V), PW F W q n k i pl X kk /\ i <= q.length /\ Fr1 pa H H' /\ H' pa = some (.lst ((zs pl).map V.int)) /\ σ' = [some (.ref m), some (.int n), some (.ref wa), some (.int (kk : Nat)), some (.ref pa), some (.int ((BR.fr F (pl.map fun j => q.getD j 0) : Nat) : Int)), o1, o2, o3, o4]) ⟨[], 0, k, none, none, none, none, PW.init hk, Nat.zero_le _, (Fr1.refl pa H).upd, ja, rfl⟩ (fun i σ' H' _ h => by obtain ⟨_, _, _, _, _, _, _, _, _, f, _⟩ := h; exact f.get hm nm) ?_ ?_
   . rintro i x σ' H' T0 hx ⟨pl, X0, kk, o1, o2, o3, o4, pw, _, fr, hpl, rfl⟩ hT
     obtain ⟨bo, hbo, rfl⟩ := getB hx
     have hil : i < q.length := by have := (List.getElem?_eq_some_iff.mp hbo).1; rw [List.length_map] at this; exact this
     have etk : tkB (q.map F) i = bo.toNat := by unfold tkB; rw [List.getD_eq_getElem?_getD, hbo]; rfl
     have ple := pw.len
     have frl : BR.fr F (pl.map fun j => q.getD j 0) <= pl.length := by have := We F (pl.map fun j => q.getD j 0); rw [List.length_map] at this; exact this
     have frX := fr.new (o := .tup [.int (i : Int), .bl bo]) hT
     have uT := (Same.refl H').new (o := .tup [.int (i : Int), .bl bo]) hT
     have hTT : upd H' T0 (.tup [.int (i : Int), .bl bo]) T0 = some (.tup [.int (i : Int), .bl bo]) := ja
     generalize upd H' T0 (.tup [.int (i : Int), .bl bo]) = HX at frX uT hTT ⊢
     have hpX := uT _ _ hpl
     have hmX := frX.get hm nm
     have hwX := frX.get hwa nwa
     left
     rw [ua]
     refine za (fun z => ?_) (fun z => ?_)
     . have z' : pl.length < n := by omega
       left
       cases bo
       . have etk : tkB (q.map F) i = 0 := etk
         left
         refine ah hmX ?_
         rw [show (i : Int) + 1 = ((i + 1 : Nat) : Int) by rw [Int.natCast_add]; rfl, xf (by rw [List.length_map, List.length_map]; omega), <- List.map_drop]
         intro np hnp
         have sN := frX.new (o := .lst (((q.map F).drop (i + 1)).map V.bl)) hnp
         have uN := (Same.refl HX).new (o := .lst (((q.map F).drop (i + 1)).map V.bl)) hnp
         have wN : upd HX np (.lst (((q.map F).drop (i + 1)).map V.bl)) np = some (.lst (((q.map F).drop (i + 1)).map V.bl)) := ja
         generalize upd HX np (.lst (((q.map F).drop (i + 1)).map V.bl)) = HN at sN uN wN ⊢
         have hpN := uN _ _ hpX
         left
         rw [ua, show ((n : Nat) : Int) - ((pl.length : Nat) : Int) - 1 = ((n - pl.length - 1 : Nat) : Int) by omega]
         refine Sm wN (uN _ _ hwX) (by rw [List.length_drop, List.length_map]; omega) (by omega) (by omega) hWb fun HM sM => ?_
         have ehv := pw.Av hil z'
         rw [etk, Nat.add_zero (BR.fr F (pl.map fun j => q.getD j 0))] at ehv
         rw [ehv]
         have frM := sN.same sM
         have hpM := sM _ _ hpN
         left
         refine za (fun u => ?_) (fun u => ?_)
         . have pw2 := pw.take hil z' (by omega)
           left
           refine gb hpM (by rw [ua, sizeLine_eq]; omega) ?_
           left
           refine ⟨pl ++ [i], X0, kk, some (.int (i : Int)), some (.bl false), some (.int ((BR.fr F (pl.map fun j => q.getD j 0) : Nat) : Int)), some (.int ((sm (MB.ch (q.length - (i + 1)) (n - pl.length - 1)) fun y => gW F W q n (X0 + y) : Nat) : Int)), pw2, by omega, frM.upd, by rw [ja, lst_snoc], ?_⟩
           rw [zi, <- tk_fr hil, etk]
           rfl
         . have pw2 := pw.skip hil z' (by omega)
           left
           refine ⟨pl, _, _, some (.int (i : Int)), some (.bl false), some (.int ((BR.fr F (pl.map fun j => q.getD j 0) : Nat) : Int)), some (.int ((sm (MB.ch (q.length - (i + 1)) (n - pl.length - 1)) fun y => gW F W q n (X0 + y) : Nat) : Int)), pw2, by omega, frM, hpM, ?_⟩
           rw [Int.natCast_sub (by omega)]
           rfl
       . have etk : tkB (q.map F) i = 1 := etk
         left
         refine ah hmX ?_
         rw [show (i : Int) + 1 = ((i + 1 : Nat) : Int) by rw [Int.natCast_add]; rfl, xf (by rw [List.length_map, List.length_map]; omega), <- List.map_drop]
         intro np hnp
         have sN := frX.new (o := .lst (((q.map F).drop (i + 1)).map V.bl)) hnp
         have uN := (Same.refl HX).new (o := .lst (((q.map F).drop (i + 1)).map V.bl)) hnp
         have wN : upd HX np (.lst (((q.map F).drop (i + 1)).map V.bl)) np = some (.lst (((q.map F).drop (i + 1)).map V.bl)) := ja
         generalize upd HX np (.lst (((q.map F).drop (i + 1)).map V.bl)) = HN at sN uN wN ⊢
         have hpN := uN _ _ hpX
         left
         rw [ua, show ((n : Nat) : Int) - ((pl.length : Nat) : Int) - 1 = ((n - pl.length - 1 : Nat) : Int) by omega, show ((BR.fr F (pl.map fun j => q.getD j 0) : Nat) : Int) + 1 = ((BR.fr F (pl.map fun j => q.getD j 0) + 1 : Nat) : Int) by rw [Int.natCast_add]; rfl]
         refine Sm wN (uN _ _ hwX) (by rw [List.length_drop, List.length_map]; omega) (by omega) (by omega) hWb fun HM sM => ?_
         have ehv := pw.Av hil z'
         rw [etk] at ehv
         rw [ehv]
         have frM := sN.same sM
         have hpM := sM _ _ hpN
         left
         refine za (fun u => ?_) (fun u => ?_)
         . have pw2 := pw.take hil z' (by omega)
           left
           refine gb hpM (by rw [ua, sizeLine_eq]; omega) ?_
           left
           refine ⟨pl ++ [i], X0, kk, some (.int (i : Int)), some (.bl true), some (.int (((BR.fr F (pl.map fun j => q.getD j 0) : Nat) : Int) + 1)), some (.int ((sm (MB.ch (q.length - (i + 1)) (n - pl.length - 1)) fun y => gW F W q n (X0 + y) : Nat) : Int)), pw2, by omega, frM.upd, by rw [ja, lst_snoc], ?_⟩
           rw [zi, <- tk_fr hil, etk]
           rfl
         . have pw2 := pw.skip hil z' (by omega)
           left
           refine ⟨pl, _, _, some (.int (i : Int)), some (.bl true), some (.int (((BR.fr F (pl.map fun j => q.getD j 0) : Nat) : Int) + 1)), some (.int ((sm (MB.ch (q.length - (i + 1)) (n - pl.length - 1)) fun y => gW F W q n (X0 + y) : Nat) : Int)), pw2, by omega, frM, hpM, ?_⟩
           rw [Int.natCast_sub (by omega)]
           rfl
     . left
       refine ⟨pl, X0, kk, some (.int (i : Int)), some (.bl bo), o3, o4, pw.out hil (by omega), by omega, frX, hpX, rfl⟩
   . rintro σ' H' ⟨pl, X0, kk, o1, o2, o3, o4, pw, _, fr, hpl, rfl⟩
     rw [List.length_map, List.length_map] at pw
     obtain ⟨e1, e2, e3, e4, e5⟩ := pw.last
     have S0 : Same H H' := fun b o hb => fr.get hb (oa hb hpa)
     left
     refine En hpl ?_
     intro pt hpt
     have s1 := S0.new (o := .tup ((zs pl).map V.int)) hpt
     have w1 : upd H' pt (.tup ((zs pl).map V.int)) pt = some (.tup ((zs pl).map V.int)) := ja
     generalize upd H' pt (.tup ((zs pl).map V.int)) = H1 at s1 w1 ⊢
     left
     intro t ht
     refine qq t pt _ X0 e1 e3 (by rw [<- e4]; exact e5) (s1.free ht) (s1.new ht) ?_ ?_
     . rw [La (oa w1 ht), w1, e2]; rfl
     . rw [ja, <- e4]
theorem jh (T : Txt mg) (U : Up K mg "weight_ahead" Nc ["marks", "places", "weights"]) (C_weight : Eg P w K mg base) : Yc P w K mg base := by
 have sc := Sg
 refine Callee.of (k := 3) U sc (fun vs H Q E h => ?_) (fun f cdv A outer s H vs Q E hr h => ?_)
 . obtain ⟨m, pa, wa, bs, pl, W, rfl, _⟩ := h; rfl
 . obtain ⟨m, pa, wa, bs, pl, W, rfl, hm, hpa, hwa, hb, hpl, hW, hWb, q⟩ := h
   have hu := hr.units
   have hpa' : H pa = some (.tup ((zs pl).map V.int)) := hpa
   conv in (Ha _) => whnf
   with_reducible refine ⟨_, (ba (xa (i := 3) ‹sc.nd› ‹rfl› ‹Or.inl rfl› qa) (ba (xa (i := 4) ‹sc.nd› ‹rfl› ‹Or.inl rfl› qa) (ba (xa (i := 5) ‹sc.nd› ‹rfl› ‹Or.inl rfl› qa) (ba (jb PassesOwn.never ‹rfl› (Zd ‹rfl› ‹T.b_enumerate› (aa (pv 0) da)) (fe (K := K) (n := 2) ‹rfl› ‹rfl› (Pa (Aa (i := 6) ‹sc.nd› ‹rfl› ‹Or.inl rfl›) (Pa (Aa (i := 7) ‹sc.nd› ‹rfl› ‹Or.inl rfl›) Eb))) (ka (Sa (va (ltK (K := K) ‹rfl› ‹hu›) (pv 5) (Ga (lenK (K := K) ‹rfl›) ‹rfl› ‹T.b_len› Va (aa (pv 1) da)) ‹Ca _›) (ba (xa (i := 8) ‹sc.nd› ‹rfl› ‹Or.inl rfl› (uj (truK (K := K) ‹rfl› (pv 7)) (Ma (addK (K := K) ‹rfl›) (pv 4) qa) (pv 4))) (ka (Sa (va (eqK (K := K) ‹rfl› ‹hu›) (Na (ixK (K := K) ‹rfl›) (pv 1) (pv 5) ‹fun _ _ => rfl›) (pv 6) ‹Ca _›) (ba (jd (i := 5) ‹sc.nd› ‹rfl› ‹Or.inl rfl› qa dg) (ka (xa (i := 4) ‹sc.nd› ‹rfl› ‹Or.inl rfl› (pv 8)))) (ka (jd (i := 3) ‹sc.nd› ‹rfl› ‹Or.inl rfl› (pe_c ‹C_weight› ‹hr.mono (by decide)› ‹rfl› (aa (xg (slK (K := K) ‹rfl›) (pv 0) (oj (Ma (addK (K := K) ‹rfl›) (pv 6) qa)) qj) (aa (Ma Ya (Ma Ya (Ga (lenK (K := K) ‹rfl›) ‹rfl› ‹T.b_len› Va (aa (pv 1) da)) (pv 5)) qa) (aa (pv 8) (aa (pv 2) da))))) dg))))) Ka))) (ka (Ea (pv 3))))))), ?_⟩
   rw [show L2.start ["marks", "places", "weights", "found", "had", "picked", "place", "friend", "taking"] [V.ref m, V.ref pa, V.ref wa] = [some (V.ref m), some (V.ref pa), some (V.ref wa), none, none, none, none, none, none] from rfl]
   left
   refine forE (a := m) (xs := bs.map V.bl) (fun i σ' H' => ∃ o1 o2 o3 : Option V, Same H H' /\ σ' = [some (.ref m), some (.ref pa), some (.ref wa), some (.int ((waS bs pl W i).1 : Nat)), some (.int ((waS bs pl W i).2.1 : Nat)), some (.int ((waS bs pl W i).2.2 : Nat)), o1, o2, o3]) ⟨none, none, none, Same.refl _, rfl⟩ (fun i σ' H' _ h => by obtain ⟨_, _, _, s, _⟩ := h; exact s _ _ hm) ?_ ?_
   . rintro i x σ' H' T0 hx ⟨o1, o2, o3, s, rfl⟩ hT
     obtain ⟨bo, hbo, rfl⟩ := getB hx
     have hil : i < bs.length := (List.getElem?_eq_some_iff.mp hbo).1
     have etk : tkB bs i = bo.toNat := by unfold tkB; rw [List.getD_eq_getElem?_getD, hbo]; rfl
     have wh := yp bs pl W i
     have sT := s.new (o := .tup [.int (i : Int), .bl bo]) hT
     have hTT : upd H' T0 (.tup [.int (i : Int), .bl bo]) T0 = some (.tup [.int (i : Int), .bl bo]) := ja
     generalize upd H' T0 (.tup [.int (i : Int), .bl bo]) = HX at sT hTT ⊢
     have hpX := sT _ _ hpa'
     have hmX := sT _ _ hm
     have hwX := sT _ _ hwa
     left
     rw [ua]
     refine za (fun z => ?_) (fun z => ?_)
     . have z' : (waS bs pl W i).2.2 < pl.length := by omega
       obtain ⟨y0, hy0⟩ : ∃ y, pl[(waS bs pl W i).2.2]? = some y := ⟨pl[(waS bs pl W i).2.2], by simp⟩
       left
       cases bo
       . have etk : tkB bs i = 0 := etk
         left
         refine Bc hpX (Ab hy0) ?_
         left
         refine za (fun u => ?_) (fun u => ?_)
         . left
           have e := Bi (W := W) z' (by rw [getD_some hy0]; omega)
           rw [etk] at e
           refine ⟨some (.int (i : Int)), some (.bl false), some (.int (((waS bs pl W i).2.1 : Nat) : Int)), sT, ?_⟩
           rw [e]
           rfl
         . left
           refine ah hmX ?_
           rw [show (i : Int) + 1 = ((i + 1 : Nat) : Int) by rw [Int.natCast_add]; rfl, xf (by rw [List.length_map]; omega), <- List.map_drop]
           intro np hnp
           have sN := sT.new (o := .lst ((bs.drop (i + 1)).map V.bl)) hnp
           have wN : upd HX np (.lst ((bs.drop (i + 1)).map V.bl)) np = some (.lst ((bs.drop (i + 1)).map V.bl)) := ja
           generalize upd HX np (.lst ((bs.drop (i + 1)).map V.bl)) = HN at sN wN ⊢
           have hpN := sN _ _ hpa'
           left
           rw [ua, show ((pl.length : Nat) : Int) - ((waS bs pl W i).2.2 : Nat) - 1 = ((pl.length - (waS bs pl W i).2.2 - 1 : Nat) : Int) by omega]
           refine Sm wN (sN _ _ hwa) (by rw [List.length_drop]; omega) (by omega) (by omega) hWb fun HM sM => ?_
           left
           have e := Ai (W := W) z' (by rw [getD_some hy0]; omega)
           rw [etk] at e
           refine ⟨some (.int (i : Int)), some (.bl false), some (.int (((waS bs pl W i).2.1 : Nat) : Int)), sN.tr sM, ?_⟩
           rw [e]
           rfl
       . have etk : tkB bs i = 1 := etk
         left
         refine Bc hpX (Ab hy0) ?_
         left
         refine za (fun u => ?_) (fun u => ?_)
         . left
           have e := Bi (W := W) z' (by rw [getD_some hy0]; omega)
           rw [etk] at e
           refine ⟨some (.int (i : Int)), some (.bl true), some (.int ((((waS bs pl W i).2.1 : Nat) : Int) + 1)), sT, ?_⟩
           rw [e]
           rfl
         . left
           refine ah hmX ?_
           rw [show (i : Int) + 1 = ((i + 1 : Nat) : Int) by rw [Int.natCast_add]; rfl, xf (by rw [List.length_map]; omega), <- List.map_drop]
           intro np hnp
           have sN := sT.new (o := .lst ((bs.drop (i + 1)).map V.bl)) hnp
           have wN : upd HX np (.lst ((bs.drop (i + 1)).map V.bl)) np = some (.lst ((bs.drop (i + 1)).map V.bl)) := ja
           generalize upd HX np (.lst ((bs.drop (i + 1)).map V.bl)) = HN at sN wN ⊢
           have hpN := sN _ _ hpa'
           left
           rw [ua, show ((pl.length : Nat) : Int) - ((waS bs pl W i).2.2 : Nat) - 1 = ((pl.length - (waS bs pl W i).2.2 - 1 : Nat) : Int) by omega, show (((waS bs pl W i).2.1 : Nat) : Int) + 1 = (((waS bs pl W i).2.1 + 1 : Nat) : Int) by rw [Int.natCast_add]; rfl]
           refine Sm wN (sN _ _ hwa) (by rw [List.length_drop]; omega) (by omega) (by omega) hWb fun HM sM => ?_
           left
           have e := Ai (W := W) z' (by rw [getD_some hy0]; omega)
           rw [etk] at e
           refine ⟨some (.int (i : Int)), some (.bl true), some (.int ((((waS bs pl W i).2.1 : Nat) : Int) + 1)), sN.tr sM, ?_⟩
           rw [e]
           rfl
     . left
       refine ⟨some (.int (i : Int)), some (.bl bo), o3, sT, ?_⟩
       rw [xp (by omega)]
       rfl
   . rintro σ' H' ⟨o1, o2, o3, s, rfl⟩
     left
     rw [List.length_map]
     exact q H' s
theorem Th (T : Txt mg) (U : Up K mg "good_or_ill" zd ["count", "friends", "row", "good"]) (C_draws_behind : Zc P w K mg base) (C_worths : Dg P w K mg base) : Jd P w K mg base := by
 have sc := Nh
 refine Callee.of (k := 8) U sc (fun vs H Q E h => ?_) (fun f cdv A outer s H vs Q E hr h => ?_)
 . obtain ⟨c, f, a, ps, rs, t, rfl, _⟩ := h; rfl
 . obtain ⟨c, f, a, ps, rs, t, rfl, ⟨R, hw, hf⟩, q⟩ := h
   have hu := hr.units
   have ln := R.ln
   conv in (Ha _) => whnf
   with_reducible refine ⟨_, (ba (xa (i := 4) ‹sc.nd› ‹rfl› ‹Or.inl rfl› (pe_c ‹C_worths› ‹hr.mono (by decide)› ‹rfl› (aa (pv 0) (aa (pv 1) (aa (pv 2) da))))) (ba (Sa (truK (K := K) ‹rfl› (pv 3)) (ka (Ea (pv 4))) Ka) (ka (Ea (pe_lcc [] ["here", "many"] [] "many" (by with_unfolding_all rfl) ‹rfl› (Nn ‹rfl› ‹T.b_zip› (aa (pv 4) (aa (pe_c ‹C_draws_behind› ‹hr.mono (by decide)› ‹rfl› (aa (pv 0) (aa (pv 2) da))) da))) ‹fun _ => by with_unfolding_all rfl› ‹rfl› (by decide) ‹trivial› (by with_unfolding_all rfl) (fun _ => ‹trivial›) (fun _ _ _ _ => (fe (K := K) (n := 2) ‹rfl› ‹rfl› (Pa (Aa (i := 0) ‹show List.Nodup (["here", "many"] : List Str) from by decide +kernel› ‹rfl› ‹Or.inl rfl› ‹.inr rfl›) (Pa (Aa (i := 1) ‹show List.Nodup (["here", "many"] : List Str) from by decide +kernel› ‹rfl› ‹Or.inr rfl› ‹.inl (by with_unfolding_all rfl)›) Eb)))) (fun _ _ _ _ => Lb) (fun _ _ _ _ => (Te ["many"] ["worth"] [1] (by with_unfolding_all rfl) ‹rfl› ‹rfl› (piLK (K := K) ‹rfl› (pv 0)) (by decide) ‹rfl› (by decide) ‹⟨rfl, trivial⟩› (by with_unfolding_all rfl) (fun _ => ‹⟨cap1 rfl rfl rfl rfl, trivial⟩›) (fun _ _ _ _ => (Aa (i := 1) ‹show List.Nodup (["many", "worth"] : List Str) from by decide +kernel› ‹rfl› ‹Or.inl rfl› ‹.inr rfl›)) (fun _ _ _ _ => Lb) (fun _ _ _ _ => (Ma Ya (pv 0) (pv 1)))))))))), ?_⟩
   rw [show L2.start ["count", "friends", "row", "good", "found"] [V.int c, V.int f, V.ref a, V.bl t] = [some (V.int c), some (V.int f), some (V.ref a), some (V.bl t), none] from rfl]
   left
   refine Rm ⟨R, hw, hf⟩ fun wa H1 wq hwa s1 LW _ => ?_
   left
   cases t with
   | true =>
    left
    rw [Di] at q
    exact q wa H1 wq s1 LW
   | false =>
    left
    refine Wv (R.same s1) fun pb H2 hpb s2 h2 => ?_
    have LW2 := LW.same s2
    have wl := cf c f rs
    left
    refine Iu (a1 := wa) (a2 := pb) (xs := wq.map V.ref) (ws := (zs (sfx (drs c c rs))).map V.int) [] (fun i ys H' => Same H2 H' /\ ∃ ts : List Addr, ys = ts.map V.ref /\ ts.length = i /\ ∀ (j : Nat) (p : Addr), ts[j]? = some p -> ∃ l, (wXs false c f rs)[j]? = some l /\ H' p = some (lstN l)) rfl (by rw [List.length_map, LW2.ln, wl, sizeLine_eq]; omega) ⟨Same.refl H2, [], rfl, rfl, fun j p z => by simp at z⟩
     (fun i ys H' _ _ ⟨s, _⟩ => ⟨s _ _ LW2.ls, s _ _ h2⟩) (fun i ys H' ⟨_, ts, e, e2, _⟩ => by rw [e, List.length_map, e2]; exact Nat.le_refl _) ?_ ?_
    . rintro i x w ys z1 z2 H' T hx hw2 ⟨s, ts, rfl, tl, tg⟩ hT
      obtain ⟨wp, w0, rfl, hwpi, hw0, hwo⟩ := LW2.get hx
      obtain ⟨m, hm, rfl⟩ := Za hw2
      have hi' : i < rs.length := by rw [<- wl]; exact (List.getElem?_eq_some_iff.mp hw0).1
      obtain ⟨r0, hr0⟩ : ∃ r, rs[i]? = some r := ⟨_, List.getElem?_eq_getElem hi'⟩
      have ew : w0 = wB c f r0.n (rs.drop (i + 1)) := by
       rw [Mv hr0] at hw0
       exact (Option.some.inj hw0).symm
      have em : m = Ba (drs c r0.n (rs.drop (i + 1))) := by
       rw [Hl (by rw [wb]; exact hi'), eo, BR.Ja hr0, Wa] at hm
       exact (Option.some.inj hm).symm
      have ftd : FitR c r0.n (rs.drop (i + 1)) := by
       have := (FitR.app.mp (show FitR c c (rs.take (i + 1) ++ rs.drop (i + 1)) from by rw [List.take_append_drop]; exact R.ft)).2
       rw [BR.Ja hr0, Wa] at this
       exact this
      have bd : ∀ x ∈ w0, x <= m := by rw [ew, em]; exact xo hf ftd
      have hw' : Qa r0.n (rs.drop (i + 1)) = 1 := by
       have e2 : rs = rs.take (i + 1) ++ rs.drop (i + 1) := (List.take_append_drop _ _).symm
       have e3 := hw
       rw [e2, qb, BR.Ja hr0, Wa] at e3
       exact e3
      have w0l : w0.length = r0.n + 1 := by rw [ew]; exact Yh hw'
      have r0c : r0.n <= c := by
       have := (zb (R.ft.take (i + 1)) R.c1 (Nat.le_refl _)).2
       rw [BR.Ja hr0, Wa] at this
       exact this
      have c2 := R.c2
      have s' := s.new (o := .tup [.ref wp, .int m]) hT
      have hwo' := s' _ _ hwo
      have mlt : m < 2 ^ 60000 := by
       rw [em]
       have h2 := Vb (b := 512) (drs c r0.n (rs.drop (i + 1))) (qd ftd r0c (by omega))
       rw [wb, List.length_drop] at h2
       exact Nat.lt_of_lt_of_le h2 (Nat.pow_le_pow_right (by decide) (by omega))
      have sT := (Same.refl H').new (o := .tup [.ref wp, .int m]) hT
      left
      generalize upd H' T (.tup [.ref wp, .int m]) = H3 at s' hwo' sT ⊢
      refine pe (a := wp) (xs := (zs w0).map V.int) [some (.int m)] (fun j ys Hk => Hk = H3 /\ ys = (zs ((w0.map fun w => m - w).take j)).map V.int) rfl (by rw [ua, sizeLine_eq]; omega) ⟨rfl, rfl⟩ (fun j ys Hk _ h => by obtain ⟨e, _⟩ := h; subst e; exact SqL.of hwo') (fun j ys Hk h => by
       obtain ⟨_, e⟩ := h
       rw [e, ua, List.length_take]; omega) ?_ ?_
      . rintro j x ys z Hk hj ⟨e, rfl⟩
        subst e
        obtain ⟨v, hv, rfl⟩ := Za hj
        have vm := bd v (List.mem_of_getElem? hv)
        left
        refine ⟨⟨rfl, ?_⟩, _, rfl⟩
        have hl2 : (w0.map fun w => m - w)[j]? = some (m - v) := by rw [List.getElem?_map, hv]; rfl
        rw [BR.Ja hl2, <- lst_snoc, Int.natCast_sub vm]
      . rintro ys Hk ⟨e, rfl⟩ D hD
        subst e
        refine ⟨⟨s'.new hD, ts ++ [D], by rw [List.map_append]; rfl, by rw [List.length_append, tl]; rfl, fun j p hj => ?_⟩, _, _, rfl⟩
        by_cases hjl : j < ts.length
        . rw [List.getElem?_append_left hjl] at hj
          obtain ⟨l, e1, e2⟩ := tg j p hj
          exact ⟨l, e1, (sT.new hD) _ _ e2⟩
        . have hj' := (List.getElem?_eq_some_iff.mp hj).1
          rw [List.length_append, List.length_singleton] at hj'
          have ej : j = ts.length := by omega
          subst ej
          rw [List.getElem?_append_right (Nat.le_refl _), Nat.sub_self] at hj
          have ep : D = p := by simpa using hj
          subst ep
          refine ⟨_, Ei (by rw [tl]; exact hr0), ?_⟩
          rw [ja, List.take_of_length_le (by rw [List.length_map, ua]; exact Nat.le_refl _), tl]
          show _ = some (lstN (if false = true then _ else _))
          rw [if_neg Bool.false_ne_true, ew, em]
          rfl
    . rintro ys Hk ⟨s, ts, rfl, tl, tg⟩ D hD
      refine q D _ ts ((s1.tr s2).tr (s.new hD)) ⟨ja, fun i p hp => ?_, ?_⟩
      . obtain ⟨l, e1, e2⟩ := tg i p hp
        exact ⟨l, e1, (Same.refl Hk).new hD _ _ e2⟩
      . rw [tl, List.length_map, ua, LW2.ln, wl, Fl, wb, ml, Nat.min_self]
theorem om (T : Txt mg) (U : Up K mg "need_one" Ef ["marks", "row", "k", "good"]) (C_draws : Pm P w K mg base) (C_friendly_many : Fc P w K mg base) : Vf P w K mg base := by
 have sc := Ll
 refine Callee.of (k := 9) U sc (fun vs H Q E h => ?_) (fun f cdv A outer s H vs Q E hr h => ?_)
 . obtain ⟨m, a, c, k, ps, rs, F, t, rfl, _⟩ := h; rfl
 . obtain ⟨m, a, c, k, ps, rs, F, t, rfl, hm, R, hw, hk, q⟩ := h
   have hu := hr.units
   have lrc : (List.range c).length = c := List.length_range
   have hm' := hm
   rw [Bs] at hm'
   have f0c : BR.fr F (List.range c) <= c := by have := We F (List.range c); rw [lrc] at this; exact this
   have efr := frM_wB f0c hw
   have wbd := xo f0c R.ft
   conv in (Ha _) => whnf
   with_reducible refine ⟨_, (ba (xa (i := 4) ‹sc.nd› ‹rfl› ‹Or.inl rfl› (pe_c ‹C_friendly_many› ‹hr.mono (by decide)› ‹rfl› (aa (Ga (lenK (K := K) ‹rfl›) ‹rfl› ‹T.b_len› Va (aa (pv 0) da)) (aa (md ‹PySem.F.plainAttrs_list› ‹PySem.F.slot_list_count› ‹PySem.F.type_list_count› ‹yg› (pv 0) (aa Tc da)) (aa (pv 1) da))))) (Yb (Sa (rf (truK (K := K) ‹rfl› (pv 3))) (ka (xa (i := 4) ‹sc.nd› ‹rfl› ‹Or.inl rfl› (Ma Ya (pe_c ‹C_draws› ‹hr.mono (by decide)› ‹rfl› (aa (Ga (lenK (K := K) ‹rfl›) ‹rfl› ‹T.b_len› Va (aa (pv 0) da)) (aa (pv 1) da))) (pv 4)))) Ka) (ka (Sa (PW.pt (Nd (va (ltK (K := K) ‹rfl› ‹hu›) (pv 2) qa ‹Ca _›) (Cc (va yj (pv 2) (pv 4) ‹Ca _›)))) (ka nc) Ka)))), ?_⟩
   rw [show L2.start ["marks", "row", "k", "good", "many"] [V.ref m, V.ref a, V.int k, V.bl t] = [some (V.ref m), some (V.ref a), some (V.int k), some (V.bl t), none] from rfl]
   left
   rw [List.length_map, List.length_map, lrc]
   refine mj hm' ?_
   rw [Bg]
   left
   refine Vv ⟨R, hw, f0c⟩ fun H1 s1 => ?_
   have hm1 := s1 _ _ hm'
   left
   have eall : allD c rs = Ba (drs c c rs) := rfl
   refine mf (fun σ' H' => Same H1 H' /\ σ' = [some (.ref m), some (.ref a), some (.int k), some (.bl t), some (.int ((wv t c (BR.fr F (List.range c)) c rs (BR.fr F (List.range c)) : Nat) : Int))]) ?_ ?_
   . cases t with
     | true =>
      left
      refine ⟨Same.refl _, ?_⟩
      rw [efr]
      rfl
     | false =>
      left
      rw [List.length_map, List.length_map, lrc]
      refine Lg (R.same s1) fun H2 s2 => ?_
      left
      refine ⟨s2, ?_⟩
      have wle : frM c (BR.fr F (List.range c)) rs <= allD c rs := by
       rw [efr]
       cases w : (wB c (BR.fr F (List.range c)) c rs)[BR.fr F (List.range c)]? with
       | none => rw [List.getD_eq_getElem?_getD, w]; exact Nat.zero_le _
       | some x => rw [getD_some w]; exact wbd x (List.mem_of_getElem? w)
      have ewv : wv false c (BR.fr F (List.range c)) c rs (BR.fr F (List.range c)) = allD c rs - frM c (BR.fr F (List.range c)) rs := by rw [efr]; rfl
      rw [ewv, Int.natCast_sub wle]
      rfl
   . rintro σ' H' ⟨s2, rfl⟩
     left
     refine za (fun z => absurd z (by omega)) (fun _ => ?_)
     left
     refine za (fun z => absurd z (by omega)) (fun _ => ?_)
     left
     exact q _ (s1.tr s2)
theorem Ue (T : Txt mg) (U : Up K mg "number_among_all" Kb ["folk", "friends", "row", "k", "good"]) (C_number_of : Ze P w K mg base) (C_draws_row : Tb P w K mg base) (C_marks_of : Ce P w K mg base) (C_friends_among : Fb P w K mg base) (C_bench_undrawn : Rb P w K mg base) (C_drawn_out_of : Xb P w K mg base) (C_pick_within : Gd P w K mg base) (C_good_or_ill : Jd P w K mg base) (C_need_one : Vf P w K mg base) : Bb P w K mg base := by
 have sc := Ie
 refine Callee.of (k := 10) U sc (fun vs H Q E h => ?_) (fun f cdv A outer s H vs Q E hr h => ?_)
 . obtain ⟨g, fo, fr', a, c, fv, ps, rs, k, t, rfl, _⟩ := h; rfl
 . obtain ⟨g, fo, fr', a, c, fv, ps, rs, k, t, rfl, NM, hfo, hfr, hfl, R, hw, hA, hk, q⟩ := h
   have hu := hr.units
   obtain ⟨F0, eF⟩ : ∃ F : Nat -> Bool, (fun a => inV (g a) fv) = F := ⟨_, rfl⟩
   rw [eF] at q hk
   have c1 := R.c1
   have c2 := R.c2
   have ln := R.ln
   have rl := R.rw.ln
   have lrc : (List.range c).length = c := List.length_range
   have hfo' : H fo = some (.lst ((List.range c).map g)) := hfo
   obtain ⟨f0, ef⟩ : ∃ f, BR.fr F0 (List.range c) = f := ⟨_, rfl⟩
   have f0c : f0 <= c := by have := We F0 (List.range c); rw [lrc, ef] at this; exact this
   conv in (Ha _) => whnf
   with_reducible refine ⟨_, (ba (xa (i := 5) ‹sc.nd› ‹rfl› ‹Or.inr rfl› (pe_c ‹C_marks_of› ‹hr.mono (by decide)› ‹rfl› (aa (pv 0) (aa (pv 1) da)))) (ba (ib (pe_c ‹C_need_one› ‹hr.mono (by decide)› ‹rfl› (aa (pv 5) (aa (pv 2) (aa (pv 3) (aa (pv 4) da)))))) (ba (xa (i := 6) ‹sc.nd› ‹rfl› ‹Or.inl rfl› (Ic ‹rfl› ‹rfl› ‹T.b_list› ‹rfl› ‹T.b_range› (aa (Ga (lenK (K := K) ‹rfl›) ‹rfl› ‹T.b_len› Va (aa (pv 0) da)) da))) (ba (xa (i := 7) ‹sc.nd› ‹rfl› ‹Or.inl rfl› qa) (ba (xa (i := 8) ‹sc.nd› ‹rfl› ‹Or.inl rfl› (pe_c ‹C_good_or_ill› ‹hr.mono (by decide)› ‹rfl› (aa (Ga (lenK (K := K) ‹rfl›) ‹rfl› ‹T.b_len› Va (aa (pv 0) da)) (aa (md ‹PySem.F.plainAttrs_list› ‹PySem.F.slot_list_count› ‹PySem.F.type_list_count› ‹yg› (pv 5) (aa Tc da)) (aa (pv 2) (aa (pv 4) da)))))) (ba (jb PassesOwn.never ‹rfl› (Er ‹rfl› ‹T.b_zip› (aa (pv 2) (aa (pe_c ‹C_draws_row› ‹hr.mono (by decide)› ‹rfl› (aa (Ga (lenK (K := K) ‹rfl›) ‹rfl› ‹T.b_len› Va (aa (pv 0) da)) (aa (pv 2) da))) (aa (pv 8) da)))) (fe (K := K) (n := 3) ‹rfl› ‹rfl› (Pa (Aa (i := 9) ‹sc.nd› ‹rfl› ‹Or.inl rfl›) (Pa (Aa (i := 10) ‹sc.nd› ‹rfl› ‹Or.inl rfl›) (Pa (Aa (i := 11) ‹sc.nd› ‹rfl› ‹Or.inl rfl›) Eb)))) (ba (xa (i := 12) ‹sc.nd› ‹rfl› ‹Or.inl rfl› (pe_c ‹C_bench_undrawn› ‹hr.mono (by decide)› ‹rfl› (aa (pv 5) (aa (pv 6) (aa (pv 9) da))))) (Yb (Sa (va wj (pv 12) sf ‹Ca _›) (ba (xa (i := 13) ‹sc.nd› ‹rfl› ‹Or.inr rfl› (pe_c ‹C_drawn_out_of› ‹hr.mono (by decide)› ‹rfl› (aa (pv 5) (aa (pv 6) (aa (pv 9) da))))) (ba (Xd (pe_c ‹C_pick_within› ‹hr.mono (by decide)› ‹rfl› (aa (Te ["marks"] ["place"] [5] (by with_unfolding_all rfl) ‹rfl› ‹rfl› (piLK (K := K) ‹rfl› (pv 13)) (by decide) ‹rfl› (by decide) ‹⟨rfl, trivial⟩› (by with_unfolding_all rfl) (fun _ => ‹⟨cap1 rfl rfl rfl rfl, trivial⟩›) (fun _ _ _ _ => (Aa (i := 1) ‹show List.Nodup (["marks", "place"] : List Str) from by decide +kernel› ‹rfl› ‹Or.inl rfl› ‹.inr rfl›)) (fun _ _ _ _ => Lb) (fun _ _ _ _ => (Na (ixK (K := K) ‹rfl›) (pv 0) (pv 1) ‹fun _ _ => rfl›))) (aa (Na (ixK (K := K) ‹rfl›) (pv 9) qa ‹fun _ _ => rfl›) (aa (pv 11) (aa (pv 3) da))))) (fe (K := K) (n := 2) ‹rfl› ‹rfl› (Pa (Aa (i := 14) ‹sc.nd› ‹rfl› ‹Or.inl rfl›) (Pa (Aa (i := 3) ‹sc.nd› ‹rfl› ‹Or.inl rfl›) Eb)))) (ba (xa (i := 15) ‹sc.nd› ‹rfl› ‹Or.inl rfl› (pe_c ‹C_number_of› ‹hr.mono (by decide)› ‹rfl› (aa (Ga (lenK (K := K) ‹rfl›) ‹rfl› ‹T.b_len› Va (aa (pv 13) da)) (aa (pv 14) da)))) (ka (oi ["pool"] ["place"] [13] (Aa (i := 6) ‹sc.nd› ‹rfl› ‹Or.inl rfl›) (by with_unfolding_all rfl) ‹rfl› ‹rfl› (piTK (K := K) ‹rfl› (pv 14)) (by decide) ‹rfl› (by decide) ‹⟨rfl, trivial⟩› (by with_unfolding_all rfl) (fun _ => ‹⟨cap1 rfl rfl rfl rfl, trivial⟩›) (fun _ _ _ _ => (Aa (i := 1) ‹show List.Nodup (["pool", "place"] : List Str) from by decide +kernel› ‹rfl› ‹Or.inl rfl› ‹.inr rfl›)) (fun _ _ _ _ => Lb) (fun _ _ _ _ => (Na (ixK (K := K) ‹rfl›) (pv 0) (pv 1) ‹fun _ _ => rfl›))))))) (ba (Xd (Ga Pk ‹rfl› ‹T.b_divmod› Vk (aa (pv 3) (aa (Na (ixK (K := K) ‹rfl›) (pv 11) (pe_c ‹C_friends_among› ‹hr.mono (by decide)› ‹rfl› (aa (pv 5) (aa (pv 12) da))) ‹fun _ _ => rfl›) da))) (fe (K := K) (n := 2) ‹rfl› ‹rfl› (Pa (Aa (i := 15) ‹sc.nd› ‹rfl› ‹Or.inl rfl›) (Pa (Aa (i := 3) ‹sc.nd› ‹rfl› ‹Or.inl rfl›) Eb)))) (ka (xa (i := 6) ‹sc.nd› ‹rfl› ‹Or.inl rfl› (pv 12))))) (ka (xa (i := 7) ‹sc.nd› ‹rfl› ‹Or.inl rfl› (Ma (addK (K := K) ‹rfl›) (Ma ub (pv 7) (pv 10)) (pv 15))))))) (ka (Ea (pv 7))))))))), ?_⟩
   rw [show L2.start ["folk", "friends", "row", "k", "good", "marks", "bench", "number", "later", "step", "many", "weights", "undrawn", "pool", "places", "own"] [V.ref fo, V.ref fr', V.ref a, V.int k, V.bl t] = [some (V.ref fo), some (V.ref fr'), some (V.ref a), some (V.int k), some (V.bl t), none, none, none, none, none, none, none, none, none, none, none] from rfl]
   left
   refine jk NM (by omega) hfo hfr hfl fun m H2 hm s2 h2 => ?_
   rw [eF] at h2
   have h2' := h2
   rw [Bs] at h2'
   have hfo2 := s2 _ _ hfo'
   left
   refine kq h2 (R.same s2) hw hk fun H3 s3 => ?_
   have S3 := s2.tr s3
   have hfo3 := S3 _ _ hfo'
   left
   refine r_LR ?_
   left
   rw [List.length_map, lrc]
   refine ⟨c, rfl, by omega, fun b0 hb0 => ?_⟩
   rw [Dp]
   have s4 := (Same.refl H3).new (o := .lst ((zs (List.range c)).map V.int)) hb0
   have w4 : upd H3 b0 (.lst ((zs (List.range c)).map V.int)) b0 = some (lstN (List.range c)) := ja
   generalize upd H3 b0 (.lst ((zs (List.range c)).map V.int)) = H4 at s4 w4 ⊢
   have S4 := S3.tr s4
   have hfo4 := S4 _ _ hfo'
   have h24 := s4 _ _ (s3 _ _ h2')
   left
   rw [List.length_map, lrc]
   refine mj h24 ?_
   rw [Bg, ef]
   left
   refine Uv ⟨R.same S4, hw, f0c⟩ fun la H5 wq s5 LW => ?_
   have S5 := S4.tr s5
   have hfo5 := S5 _ _ hfo'
   left
   rw [List.length_map, lrc]
   refine Jb (R.same S5) fun pn H6 hpn s6 h6 => ?_
   have S6 := S5.tr s6
   have LW6 := LW.same s6
   have dl := wb c rs c
   have wl := ml t c f0 rs
   rw [<- ef] at LW6 wl
   left
   refine forZ3 (a1 := a) (a2 := pn) (a3 := la) (xs := ps.map V.ref) (ys := (zs (drs c c rs)).map V.int) (zs := wq.map V.ref) rs.length (by rw [List.length_map, rl]) (by rw [ua, dl]) (by rw [List.length_map, LW6.ln, wl]) (fun i σ' H' => ∃ (bb : Addr) (l : List Nat) (M kk : Nat) (o1 o2 o3 o4 o5 o6 o7 : Option V), NA t c F0 rs k i l M kk /\ Same H6 H' /\ H' bb = some (lstN l) /\ σ' = [some (.ref fo), some (.ref fr'), some (.ref a), some (.int (kk : Nat)), some (.bl t), some (.ref m), some (.ref bb), some (.int (M : Nat)), some (.ref la), o1, o2, o3, o4, o5, o6, o7]) ⟨b0, List.range c, 0, k, none, none, none, none, none, none, none, NA.init hk, Same.refl _, s6 _ _ (s5 _ _ w4), rfl⟩ (fun i σ' H' _ h => by
    obtain ⟨_, _, _, _, _, _, _, _, _, _, _, _, fr, _⟩ := h
    exact ⟨fr _ _ (S6 _ _ R.rw.ls), fr _ _ h6, fr _ _ LW6.ls⟩) ?_ ?_
   . rintro i x y zz σ' H' T0 hx hy hz ⟨bb, l, M, kk, o1, o2, o3, o4, o5, o6, o7, na, fr, hbb, rfl⟩ hT
     obtain ⟨p, r0, rfl, hpi, hr0, ho⟩ := R.rw.get hx
     obtain ⟨mm, hm', rfl⟩ := Za hy
     obtain ⟨wp, w0, rfl, hwpi, hw0, hwo⟩ := LW6.get hz
     have hi' : i < rs.length := (List.getElem?_eq_some_iff.mp hr0).1
     have fit := R.ft.at hr0
     have lb := zb (R.ft.take i) c1 (Nat.le_refl _)
     have em : mm = dr c (Qa c (rs.take i)) r0 := Pj hr0 hm'
     have mlt := qd R.ft (Nat.le_refl _) (by omega) mm (List.mem_of_getElem? hm')
     have nll := na.ll
     rw [<- nll] at fit em
     have ew : w0 = wX t c (BR.fr F0 (List.range c)) r0.n (rs.drop (i + 1)) := by
      rw [Ei hr0] at hw0
      exact (Option.some.inj hw0).symm
     have ed : rs.drop i = r0 :: rs.drop (i + 1) := by
      rw [List.drop_eq_getElem_cons hi']
      congr 1
      rw [List.getElem?_eq_getElem hi'] at hr0
      exact Option.some.inj hr0
     have ftd : FitR c l.length (r0 :: rs.drop (i + 1)) := by rw [nll, <- ed]; exact (FitR.app.mp (by rw [List.take_append_drop]; exact R.ft)).2
     have hw' : Qa r0.n (rs.drop (i + 1)) = 1 := by
      have e2 : rs = rs.take (i + 1) ++ rs.drop (i + 1) := (List.take_append_drop _ _).symm
      have e3 := hw
      rw [e2, qb, BR.Ja hr0, Wa] at e3
      exact e3
     have wlen : w0.length = r0.n + 1 := by rw [ew]; exact wX_len hw'
     have wat : ∀ on, on <= r0.n -> w0.getD on 0 = wv t c (BR.fr F0 (List.range c)) r0.n (rs.drop (i + 1)) on := fun on ho => by rw [ew]; exact wX_at hw' ho
     have wfew : ∀ x ∈ w0, x < 2 ^ 60000 := fun x hx => by
      rw [ew] at hx
      have h1 := wX_bd (by rw [ef]; exact f0c) ftd.2 x hx
      have h2 := Vb (b := 512) (drs c r0.n (rs.drop (i + 1))) (qd ftd.2 (ftd.1.le (by omega)) (by omega))
      rw [wb, List.length_drop] at h2
      exact Nat.lt_of_le_of_lt h1 (Nat.lt_of_lt_of_le h2 (Nat.pow_le_pow_right (by decide) (by omega)))
     have npos := fit.pos
     have hMb : M < 2 ^ 60000 := by
      have h1 := na.mb
      have p0 : 0 < Ba (drs c l.length (rs.drop i)) := by rw [ed]; exact Yd _ (Rf ftd (by omega))
      have h2 : M * 1 <= M * Ba (drs c l.length (rs.drop i)) := Nat.mul_le_mul_left _ p0
      have h3 := Vb (b := 512) (drs c c rs) (qd R.ft (Nat.le_refl _) (by omega))
      rw [wb] at h3
      have h4 : (2 : Nat) ^ (512 * rs.length + 1) <= 2 ^ 60000 := Nat.pow_le_pow_right (by decide) (by omega)
      have h5 : allD c rs = Ba (drs c c rs) := rfl
      exact Nat.lt_of_lt_of_le (show M < 2 ^ (512 * rs.length + 1) by omega) h4
     have hgz : ∀ z, z < dr c l.length r0 -> w0.getD (BR.fr F0 (pl c F0 l r0 z)) 0 = wv t c (BR.fr F0 (List.range c)) r0.n (rs.drop (i + 1)) (BR.fr F0 (pl c F0 l r0 z)) := fun z hz => wat _ (by
      have h1 := We F0 (pl c F0 l r0 z)
      rw [ic fit hz] at h1
      exact h1)
     have hkk : kk < sm (dr c l.length r0) fun z => w0.getD (BR.fr F0 (pl c F0 l r0 z)) 0 := by
      have h1 := na.kb
      rw [ed] at h1
      have h2 := Nu (t := t) (F := F0) (l := l) ftd (by omega) hw'
      have h3 := Em (t := t) (F := F0) (l := l) (x := 0) (y := 0) ftd (by omega) hw' (Md (by omega) fit) (Nat.zero_le _)
      have h4 : cx t c F0 l (r0 :: rs.drop (i + 1)) (Ba (drs c l.length (r0 :: rs.drop (i + 1)))) = sm (dr c l.length r0) fun z => wv t c (BR.fr F0 (List.range c)) r0.n (rs.drop (i + 1)) (BR.fr F0 (pl c F0 l r0 z)) := cx_all ftd (by omega) hw'
      rw [Oa hgz, <- h4, h2]
      exact h1
     have sT := (Same.refl H').new (o := .tup [.ref p, .int (mm : Int), .ref wp]) hT
     have hTT : upd H' T0 (.tup [.ref p, .int (mm : Int), .ref wp]) T0 = some (.tup [.ref p, .int (mm : Int), .ref wp]) := ja
     generalize upd H' T0 (.tup [.ref p, .int (mm : Int), .ref wp]) = HX at sT hTT ⊢
     have SX := fr.tr sT
     have BMX : BM HX m bb p c F0 l r0 := ⟨SX _ _ (s6 _ _ (s5 _ _ (s4 _ _ (s3 _ _ h2)))), sT _ _ hbb, SX _ _ (S6 _ _ ho), na.lt, by omega, by omega, fit⟩
     have hwX := SX _ _ hwo
     left
     refine Qp BMX (fun hn HY sY => ?_) (fun z0 hz0 pz HY hpz sY hY => ?_)
     . left
       refine mf (fun σ' HZ => ∃ (bb' : Addr) (x : Nat) (o4 o5 o6 : Option V), x < dr c l.length r0 /\ (sm x fun z => wv t c (BR.fr F0 (List.range c)) r0.n (rs.drop (i + 1)) (BR.fr F0 (pl c F0 l r0 z))) <= kk /\ kk - (sm x fun z => wv t c (BR.fr F0 (List.range c)) r0.n (rs.drop (i + 1)) (BR.fr F0 (pl c F0 l r0 z))) < wv t c (BR.fr F0 (List.range c)) r0.n (rs.drop (i + 1)) (BR.fr F0 (pl c F0 l r0 x)) /\ Same HX HZ /\ HZ bb' = some (lstN (pl c F0 l r0 x)) /\ σ' = [some (.ref fo), some (.ref fr'), some (.ref a), some (.int ((kk - (sm x fun z => wv t c (BR.fr F0 (List.range c)) r0.n (rs.drop (i + 1)) (BR.fr F0 (pl c F0 l r0 z))) : Nat) : Int)), some (.bl t), some (.ref m), some (.ref bb'), some (.int (M : Nat)), some (.ref la), some (.ref p), some (.int (mm : Int)), some (.ref wp), o4, o5, o6, some (.int (x : Int))]) ?_ ?_
       . left
         obtain ⟨_, ed2⟩ := Mf (x := 0) hn
         refine Zm (BMX.same sY) fun po HZ hpo sZ hZ => ?_
         have hZ' : HZ po = some (.lst ((zs (pool c l r0)).map V.int)) := hZ
         have pol := Kn (c := c) (by omega : l.length <= c) r0
         have plt : ∀ a ∈ pool c l r0, a < c := ur na.lt
         obtain ⟨xs, e1, e2⟩ := rn_n r0
         have tZ := sY.tr sZ
         have hst : HZ p = some (.tup xs) := by rw [<- e1]; exact tZ _ _ BMX.st
         have hmZ : HZ m = some (.lst ((List.range c).map fun a => V.bl (F0 a))) := tZ _ _ BMX.ma
         left
         refine pe (a := po) (xs := (zs (pool c l r0)).map V.int) [some (.ref m)] (fun i ys H' => H' = HZ /\ ys = (((pool c l r0).take i).map F0).map V.bl) rfl (by rw [ua, sizeLine_eq]; omega) ⟨rfl, rfl⟩ (fun i ys H' _ h => by obtain ⟨e, _⟩ := h; subst e; exact SqL.of hZ') (fun i ys H' h => by
          obtain ⟨_, e⟩ := h
          rw [e, List.length_map, List.length_map, List.length_take]; omega) ?_ ?_
         . rintro i2 v ys z H9 hv ⟨rfl, rfl⟩
           obtain ⟨a2, ha2, rfl⟩ := Za hv
           have tn := BR.Ja ha2
           have hal := plt a2 (List.mem_of_getElem? ha2)
           left
           refine Ta hmZ (v := .bl (F0 a2)) (Pb (by rw [List.getElem?_map, List.getElem?_range hal]; rfl)) ?_
           refine ⟨⟨rfl, ?_⟩, _, rfl⟩
           rw [tn, List.map_append, List.map_append]
           rfl
         . rintro ys H9 ⟨rfl, rfl⟩ D6 hD6
           rw [ua, List.take_length]
           have tD := tZ.new (o := .lst (((pool c l r0).map F0).map V.bl)) hD6
           have uD := (Same.refl H9).new (o := .lst (((pool c l r0).map F0).map V.bl)) hD6
           have wD : upd H9 D6 (.lst (((pool c l r0).map F0).map V.bl)) D6 = some (.lst (((pool c l r0).map F0).map V.bl)) := ja
           generalize upd H9 D6 (.lst (((pool c l r0).map F0).map V.bl)) = HD at tD uD wD ⊢
           left
           refine Bc (uD _ _ hst) e2 ?_
           left
           have egw : ∀ z, gW F0 w0 (pool c l r0) r0.n z = w0.getD (BR.fr F0 (pl c F0 l r0 z)) 0 := fun z => by unfold gW; rw [(Mf (x := z) hn).1]
           refine bq (q := pool c l r0) (F := F0) wD (tD _ _ hwX) (by omega) (by omega) wlen wfew (by rw [<- ed2, Oa (fun z _ => egw z)]; exact hkk) fun tt pt HE x hx1 hx2 hx3 htt sE hpt hwt => ?_
           rw [Oa (fun z _ => egw z)] at hx2 hx3 hwt
           rw [egw] at hx3
           rw [<- ed2] at hx1
           rw [Oa (fun z hz => hgz z (by omega))] at hx2 hx3 hwt
           rw [hgz x hx1] at hx3
           have ep := (Mf (x := x) hn).1
           have hZE := sE _ _ (uD _ _ hZ')
           have nle : r0.n <= (pool c l r0).length := by
            rcases Nat.lt_or_ge (pool c l r0).length r0.n with y | y
            . have := MB.Od y; omega
            . exact y
           have hxp : x < MB.ch (pool c l r0).length r0.n := by rw [<- ed2]; exact hx1
           have hbd : ∀ a ∈ pkL (List.range (pool c l r0).length) r0.n x, a < (pool c l r0).length := fun a ha => List.mem_range.mp ((Dc _ _ _).subset ha)
           have pln := fc (List.range (pool c l r0).length) r0.n x (by rw [List.length_range]; exact nle) (by rw [List.length_range]; exact hxp)
           left
           rw [ua]
           have hpt2 := hpt
           rw [<- Mn] at hpt2
           have ris := (MB.lu (n := (pool c l r0).length) (p := 0) hxp).2
           rw [Nat.zero_add] at ris
           refine Bo hpt2 (by omega) ris ?_
           rw [MB.kx hxp]
           have hpt' : HE pt = some (.tup ((zs (pkL (List.range (pool c l r0).length) r0.n x)).map V.int)) := hpt
           left
           refine compT (a := pt) (xs := (zs (pkL (List.range (pool c l r0).length) r0.n x)).map V.int) [some (.ref po)] (fun i ys H' => H' = HE /\ ys = (zs (((pkL (List.range (pool c l r0).length) r0.n x).take i).map fun i => (pool c l r0).getD i 0)).map V.int) rfl (by rw [ua, sizeLine_eq]; omega) ⟨rfl, rfl⟩ (fun i ys H' _ h => by obtain ⟨e, _⟩ := h; subst e; exact SqT.of hpt') (fun i ys H' h => by
            obtain ⟨_, e⟩ := h
            rw [e, ua, List.length_map, List.length_take]; omega) ?_ ?_
           . rintro i3 v ys z H9' hv ⟨rfl, rfl⟩
             obtain ⟨a3, ha3, rfl⟩ := Za hv
             have tn := BR.Ja ha3
             have hal := hbd a3 (List.mem_of_getElem? ha3)
             obtain ⟨y3, hy3⟩ : ∃ y, (pool c l r0)[a3]? = some y := ⟨_, List.getElem?_eq_getElem hal⟩
             left
             refine Ta (xs := (zs (pool c l r0)).map V.int) hZE (Ab hy3) ?_
             refine ⟨⟨rfl, ?_⟩, _, rfl⟩
             rw [tn, List.map_append, lst_snoc]
             rw [show [a3].map (fun i => (pool c l r0).getD i 0) = [y3] by show [(pool c l r0).getD a3 0] = [y3]; rw [getD_some hy3]]
           . rintro ys H9' ⟨rfl, rfl⟩ D7 hD7
             rw [ua, List.take_length, Be, <- ep]
             have S7 := (tD.tr sE).new (o := .lst ((zs (pl c F0 l r0 x)).map V.int)) hD7
             left
             exact ⟨D7, x, some .non, some (.ref po), some (.ref pt), hx1, hx2, hx3, S7, ja, rfl⟩
       . rintro σ3 HZ ⟨bb', x, o4, o5, o6, hx1, hx2, hx3, sZ, hbz, rfl⟩
         have nb := na.mb
         left
         refine pf (.of 60000 512 (by rw [Int.natAbs_natCast]; exact hMb) (by rw [Int.natAbs_natCast]; exact mlt)) ?_
         left
         have na2 := na.step R.ft c1 hw hr0 hx1 hx2 hx3
         refine ⟨bb', pl c F0 l r0 x, M * mm + x, _, some (.ref p), some (.int (mm : Int)), some (.ref wp), o4, o5, o6, some (.int (x : Int)), by rw [em]; exact na2, SX.tr sZ, hbz, ?_⟩
         rw [Int.natCast_add, Int.natCast_mul]
         rfl
     . left
       refine mf (fun σ' HZ => ∃ (bb' : Addr) (x : Nat) (o4 o5 o6 : Option V), x < dr c l.length r0 /\ (sm x fun z => wv t c (BR.fr F0 (List.range c)) r0.n (rs.drop (i + 1)) (BR.fr F0 (pl c F0 l r0 z))) <= kk /\ kk - (sm x fun z => wv t c (BR.fr F0 (List.range c)) r0.n (rs.drop (i + 1)) (BR.fr F0 (pl c F0 l r0 z))) < wv t c (BR.fr F0 (List.range c)) r0.n (rs.drop (i + 1)) (BR.fr F0 (pl c F0 l r0 x)) /\ Same HX HZ /\ HZ bb' = some (lstN (pl c F0 l r0 x)) /\ σ' = [some (.ref fo), some (.ref fr'), some (.ref a), some (.int ((kk - (sm x fun z => wv t c (BR.fr F0 (List.range c)) r0.n (rs.drop (i + 1)) (BR.fr F0 (pl c F0 l r0 z))) : Nat) : Int)), some (.bl t), some (.ref m), some (.ref bb'), some (.int (M : Nat)), some (.ref la), some (.ref p), some (.int (mm : Int)), some (.ref wp), o4, o5, o6, some (.int (x : Int))]) ?_ ?_
       . have ez : ∀ z, pl c F0 l r0 z = z0 := fun z => xr hz0
         have zl : z0.length = r0.n := by rw [<- ez 0]; exact ic fit (Md (by omega) fit)
         have zlt : ∀ a ∈ z0, a < c := by rw [<- ez 0]; exact fun a ha => yr na.lt a ha
         have frl : BR.fr F0 z0 <= z0.length := We F0 z0
         obtain ⟨wn, hwn⟩ : ∃ v, w0[BR.fr F0 z0]? = some v := ⟨w0[BR.fr F0 z0]'(by omega), by simp⟩
         have ewn : wv t c (BR.fr F0 (List.range c)) r0.n (rs.drop (i + 1)) (BR.fr F0 z0) = wn := by rw [<- wat _ (by omega), getD_some hwn]
         have esm : ∀ x, (sm x fun z => wv t c (BR.fr F0 (List.range c)) r0.n (rs.drop (i + 1)) (BR.fr F0 (pl c F0 l r0 z))) = x * wn := fun x => by
          rw [Oa (g := fun _ => wn) fun z _ => by rw [ez z, ewn], rg]
         rw [Oa hgz, esm] at hkk
         have wpos : 0 < wn := by
          rcases Nat.eq_zero_or_pos wn with y | y
          . rw [y, Nat.mul_zero] at hkk; omega
          . exact y
         have wnb : wn < 2 ^ 8999 := by
          have hf' : BR.fr F0 (List.range c) <= c := by rw [ef]; exact f0c
          have h1 := wX_bd (t := t) hf' ftd.2 wn (by rw [<- ew]; exact List.mem_of_getElem? hwn)
          have h2 := na.mb
          rw [ed] at h2
          have h3 : Ba (drs c l.length (r0 :: rs.drop (i + 1))) = dr c l.length r0 * Ba (drs c r0.n (rs.drop (i + 1))) := rfl
          have h4 : 1 * Ba (drs c r0.n (rs.drop (i + 1))) <= dr c l.length r0 * Ba (drs c r0.n (rs.drop (i + 1))) := Nat.mul_le_mul_right _ (Md (by omega) fit)
          exact Nat.lt_of_le_of_lt (show wn <= allD c rs by omega) hA
         have hxd : kk / wn < dr c l.length r0 := Nat.div_lt_of_lt_mul (by rw [Nat.mul_comm]; exact hkk)
         left
         refine Mg (sY _ _ BMX.ma) hY zlt (by omega) fun HZ sZ => ?_
         have hwZ : HZ wp = some (.lst ((zs w0).map V.int)) := sZ _ _ (sY _ _ hwX)
         left
         refine Ta hwZ (Ab hwn) ?_
         left
         refine Gn (qg.of 8999 (by omega) (by rw [Int.natAbs_natCast]; exact wnb) (by decide)) ?_
         intro td htd
         have sD := (sY.tr sZ).new (o := .tup [.int ((kk : Int) / (wn : Int)), .int ((kk : Int) % (wn : Int))]) htd
         have wD : upd HZ td (.tup [.int ((kk : Int) / (wn : Int)), .int ((kk : Int) % (wn : Int))]) td = some (.tup [.int ((kk : Int) / (wn : Int)), .int ((kk : Int) % (wn : Int))]) := ja
         have zD := rb (o := .tup [.int ((kk : Int) / (wn : Int)), .int ((kk : Int) % (wn : Int))]) (oa (sZ _ _ hY) htd) (sZ _ _ hY)
         generalize upd HZ td (.tup [.int ((kk : Int) / (wn : Int)), .int ((kk : Int) % (wn : Int))]) = HD at sD wD zD ⊢
         left
         have dm := Nat.div_add_mod kk wn
         have ek : kk - kk / wn * wn = kk % wn := by rw [Nat.mul_comm] at dm; omega
         refine ⟨pz, kk / wn, some (.ref pz), o5, o6, hxd, by rw [esm]; exact Nat.div_mul_le_self kk wn, by rw [esm, ek, ez, ewn]; exact Nat.mod_lt _ wpos, sD, by rw [ez]; exact zD, ?_⟩
         rw [esm, ek, Int.natCast_emod, Int.natCast_ediv]
         rfl
       . rintro σ3 HZ ⟨bb', x, o4, o5, o6, hx1, hx2, hx3, sZ, hbz, rfl⟩
         have nb := na.mb
         left
         refine pf (.of 60000 512 (by rw [Int.natAbs_natCast]; exact hMb) (by rw [Int.natAbs_natCast]; exact mlt)) ?_
         left
         have na2 := na.step R.ft c1 hw hr0 hx1 hx2 hx3
         refine ⟨bb', pl c F0 l r0 x, M * mm + x, _, some (.ref p), some (.int (mm : Int)), some (.ref wp), o4, o5, o6, some (.int (x : Int)), by rw [em]; exact na2, SX.tr sZ, hbz, ?_⟩
         rw [Int.natCast_add, Int.natCast_mul]
         rfl
   . rintro σ' H' ⟨bb, l, M, kk, o1, o2, o3, o4, o5, o6, o7, na, fr, hbb, rfl⟩
     obtain ⟨e1, e2, e3⟩ := na.last R.ft hw
     left
     exact q M H' e1 e2 e3 (S6.tr fr)
theorem um (T : Txt mg) (U : Up K mg "friendly" Jf ["folk", "friends", "row", "k"]) (C_number_among_all : Bb P w K mg base) : Xf P w K mg base := by
 have sc := Pl
 refine Callee.of (k := 11) U sc (fun vs H Q E h => ?_) (fun f cdv A outer s H vs Q E hr h => ?_)
 . obtain ⟨v1, v2, v3, v4, rfl, _⟩ := h; rfl
 . obtain ⟨v1, v2, v3, v4, rfl, h⟩ := h
   have hu := hr.units
   obtain ⟨g, fo, fr', a, c, fv, ps, rs, k, t0, e, _⟩ := id h
   obtain ⟨rfl, rfl, rfl, rfl⟩ : v1 = .ref fo /\ v2 = .ref fr' /\ v3 = .ref a /\ v4 = .int k := by cases e; exact ⟨rfl, rfl, rfl, rfl⟩
   conv in (Ha _) => whnf
   with_reducible refine ⟨_, (ka (Ea (pe_c ‹C_number_among_all› ‹hr.mono (by decide)› ‹rfl› (aa (pv 0) (aa (pv 1) (aa (pv 2) (aa (pv 3) (aa Tc da)))))))), ?_⟩
   rw [show L2.start ["folk", "friends", "row", "k"] [V.ref fo, V.ref fr', V.ref a, V.int k] = [some (V.ref fo), some (V.ref fr'), some (V.ref a), some (V.int k)] from rfl]
   left
   exact h
theorem Bj (T : Txt mg) (U : Up K mg "unfriendly" Sd ["folk", "friends", "row", "k"]) (C_number_among_all : Bb P w K mg base) : ve P w K mg base := by
 have sc := Ti
 refine Callee.of (k := 11) U sc (fun vs H Q E h => ?_) (fun f cdv A outer s H vs Q E hr h => ?_)
 . obtain ⟨v1, v2, v3, v4, rfl, _⟩ := h; rfl
 . obtain ⟨v1, v2, v3, v4, rfl, h⟩ := h
   have hu := hr.units
   obtain ⟨g, fo, fr', a, c, fv, ps, rs, k, t0, e, _⟩ := id h
   obtain ⟨rfl, rfl, rfl, rfl⟩ : v1 = .ref fo /\ v2 = .ref fr' /\ v3 = .ref a /\ v4 = .int k := by cases e; exact ⟨rfl, rfl, rfl, rfl⟩
   conv in (Ha _) => whnf
   with_reducible refine ⟨_, (ka (Ea (pe_c ‹C_number_among_all› ‹hr.mono (by decide)› ‹rfl› (aa (pv 0) (aa (pv 1) (aa (pv 2) (aa (pv 3) (aa Tc da)))))))), ?_⟩
   rw [show L2.start ["folk", "friends", "row", "k"] [V.ref fo, V.ref fr', V.ref a, V.int k] = [some (V.ref fo), some (V.ref fr'), some (V.ref a), some (V.int k)] from rfl]
   left
   exact h
theorem km (T : Txt mg) (U : Up K mg "place_of" Df ["folk", "friends", "row", "number"]) (C_pick : Bt P w K mg base) (C_parted : Yj P w K mg base) (C_worths : Dg P w K mg base) (C_marks_of : Ce P w K mg base) (C_friends_among : Fb P w K mg base) (C_bench_undrawn : Rb P w K mg base) (C_drawn_out_of : Xb P w K mg base) (C_weight_ahead : Yc P w K mg base) : Tf P w K mg base := by
 have sc := Kl
 refine Callee.of (k := 8) U sc (fun vs H Q E h => ?_) (fun f cdv A outer s H vs Q E hr h => ?_)
 . obtain ⟨g, fo, fr', a, c, fv, ps, rs, N, rfl, _⟩ := h; rfl
 . obtain ⟨g, fo, fr', a, c, fv, ps, rs, N, rfl, NM, hfo, hfr, hfl, R, hw, hN, q⟩ := h
   have hu := hr.units
   obtain ⟨F0, eF⟩ : ∃ F : Nat -> Bool, (fun a => inV (g a) fv) = F := ⟨_, rfl⟩
   have eF' : ∀ x, inV (g x) fv = F0 x := fun x => congrFun eF x
   rw [eF] at q
   simp only [eF'] at q
   have c1 := R.c1
   have c2 := R.c2
   have ln := R.ln
   have rl := R.rw.ln
   have lrc : (List.range c).length = c := List.length_range
   have rlt : ∀ a ∈ List.range c, a < c := fun a h => List.mem_range.mp h
   have hfo' : H fo = some (.lst ((List.range c).map g)) := hfo
   obtain ⟨f0, ef⟩ : ∃ f, BR.fr F0 (List.range c) = f := ⟨_, rfl⟩
   have f0c : f0 <= c := by rw [<- ef]; unfold BR.fr; exact Nat.le_trans List.countP_le_length (by rw [lrc]; exact Nat.le_refl _)
   rw [ef] at q
   conv in (Ha _) => whnf
   with_reducible refine ⟨_, (ba (xa (i := 4) ‹sc.nd› ‹rfl› ‹Or.inr rfl› (pe_c ‹C_marks_of› ‹hr.mono (by decide)› ‹rfl› (aa (pv 0) (aa (pv 1) da)))) (ba (xa (i := 5) ‹sc.nd› ‹rfl› ‹Or.inl rfl› (Ic ‹rfl› ‹rfl› ‹T.b_list› ‹rfl› ‹T.b_range› (aa (Ga (lenK (K := K) ‹rfl›) ‹rfl› ‹T.b_len› Va (aa (pv 0) da)) da))) (ba (xa (i := 6) ‹sc.nd› ‹rfl› ‹Or.inl rfl› qa) (ba (xa (i := 7) ‹sc.nd› ‹rfl› ‹Or.inl rfl› (pe_c ‹C_worths› ‹hr.mono (by decide)› ‹rfl› (aa (Ga (lenK (K := K) ‹rfl›) ‹rfl› ‹T.b_len› Va (aa (pv 0) da)) (aa (md ‹PySem.F.plainAttrs_list› ‹PySem.F.slot_list_count› ‹PySem.F.type_list_count› ‹yg› (pv 4) (aa Tc da)) (aa (pv 2) da))))) (ba (jb PassesOwn.never ‹rfl› (Er ‹rfl› ‹T.b_zip› (aa (pv 2) (aa (pe_c ‹C_parted› ‹hr.mono (by decide)› ‹rfl› (aa (Ga (lenK (K := K) ‹rfl›) ‹rfl› ‹T.b_len› Va (aa (pv 0) da)) (aa (pv 2) (aa (pv 3) da)))) (aa (pv 7) da)))) (fe (K := K) (n := 3) ‹rfl› ‹rfl› (Pa (Aa (i := 8) ‹sc.nd› ‹rfl› ‹Or.inl rfl›) (Pa (Aa (i := 9) ‹sc.nd› ‹rfl› ‹Or.inl rfl›) (Pa (Aa (i := 10) ‹sc.nd› ‹rfl› ‹Or.inl rfl›) Eb)))) (ba (xa (i := 11) ‹sc.nd› ‹rfl› ‹Or.inl rfl› (pe_c ‹C_bench_undrawn› ‹hr.mono (by decide)› ‹rfl› (aa (pv 4) (aa (pv 5) (aa (pv 8) da))))) (ka (Sa (va wj (pv 11) sf ‹Ca _›) (ba (xa (i := 12) ‹sc.nd› ‹rfl› ‹Or.inr rfl› (pe_c ‹C_drawn_out_of› ‹hr.mono (by decide)› ‹rfl› (aa (pv 4) (aa (pv 5) (aa (pv 8) da))))) (ba (xa (i := 13) ‹sc.nd› ‹rfl› ‹Or.inl rfl› (pe_c ‹C_pick› ‹hr.mono (by decide)› ‹rfl› (aa (Ga (lenK (K := K) ‹rfl›) ‹rfl› ‹T.b_len› Va (aa (pv 12) da)) (aa (Na (ixK (K := K) ‹rfl›) (pv 8) qa ‹fun _ _ => rfl›) (aa (pv 9) da))))) (ba (jd (i := 6) ‹sc.nd› ‹rfl› ‹Or.inl rfl› (pe_c ‹C_weight_ahead› ‹hr.mono (by decide)› ‹rfl› (aa (Te ["marks"] ["place"] [4] (by with_unfolding_all rfl) ‹rfl› ‹rfl› (piLK (K := K) ‹rfl› (pv 12)) (by decide) ‹rfl› (by decide) ‹⟨rfl, trivial⟩› (by with_unfolding_all rfl) (fun _ => ‹⟨cap1 rfl rfl rfl rfl, trivial⟩›) (fun _ _ _ _ => (Aa (i := 1) ‹show List.Nodup (["marks", "place"] : List Str) from by decide +kernel› ‹rfl› ‹Or.inl rfl› ‹.inr rfl›)) (fun _ _ _ _ => Lb) (fun _ _ _ _ => (Na (ixK (K := K) ‹rfl›) (pv 0) (pv 1) ‹fun _ _ => rfl›))) (aa (pv 13) (aa (pv 10) da)))) dg) (ka (oi ["pool"] ["place"] [12] (Aa (i := 5) ‹sc.nd› ‹rfl› ‹Or.inl rfl›) (by with_unfolding_all rfl) ‹rfl› ‹rfl› (piTK (K := K) ‹rfl› (pv 13)) (by decide) ‹rfl› (by decide) ‹⟨rfl, trivial⟩› (by with_unfolding_all rfl) (fun _ => ‹⟨cap1 rfl rfl rfl rfl, trivial⟩›) (fun _ _ _ _ => (Aa (i := 1) ‹show List.Nodup (["pool", "place"] : List Str) from by decide +kernel› ‹rfl› ‹Or.inl rfl› ‹.inr rfl›)) (fun _ _ _ _ => Lb) (fun _ _ _ _ => (Na (ixK (K := K) ‹rfl›) (pv 0) (pv 1) ‹fun _ _ => rfl›))))))) (ba (jd (i := 6) ‹sc.nd› ‹rfl› ‹Or.inl rfl› (Ma ub (pv 9) (Na (ixK (K := K) ‹rfl›) (pv 10) (pe_c ‹C_friends_among› ‹hr.mono (by decide)› ‹rfl› (aa (pv 4) (aa (pv 11) da))) ‹fun _ _ => rfl›)) dg) (ka (xa (i := 5) ‹sc.nd› ‹rfl› ‹Or.inl rfl› (pv 11)))))))) (ba (Sa (truK (K := K) ‹rfl› (Na (ixK (K := K) ‹rfl›) (pv 4) (Na (ixK (K := K) ‹rfl›) (pv 5) qa ‹fun _ _ => rfl›) ‹fun _ _ => rfl›)) (ka (Ea (kd (aa Tc (aa (pv 6) da))))) Ka) (ka (Ea (kd (aa Tc (aa (Ma Ya (pv 3) (pv 6)) da))))))))))), ?_⟩
   rw [show L2.start ["folk", "friends", "row", "number", "marks", "bench", "ahead", "later", "step", "own", "weights", "undrawn", "pool", "places"] [V.ref fo, V.ref fr', V.ref a, V.int N] = [some (V.ref fo), some (V.ref fr'), some (V.ref a), some (V.int N), none, none, none, none, none, none, none, none, none, none] from rfl]
   left
   refine jk NM (by omega) hfo hfr hfl fun m H2 hm s2 h2 => ?_
   rw [eF] at h2
   have h2' := h2
   rw [Bs] at h2'
   have hfo2 := s2 _ _ hfo'
   left
   refine r_LR ?_
   left
   rw [List.length_map, lrc]
   refine ⟨c, rfl, by omega, fun b0 hb0 => ?_⟩
   rw [Dp]
   have s3 := (Same.refl H2).new (o := .lst ((zs (List.range c)).map V.int)) hb0
   have w3 : upd H2 b0 (.lst ((zs (List.range c)).map V.int)) b0 = some (lstN (List.range c)) := ja
   generalize upd H2 b0 (.lst ((zs (List.range c)).map V.int)) = H3 at s3 w3 ⊢
   have S3 := s2.tr s3
   have hfo3 := S3 _ _ hfo'
   have h23 := s3 _ _ h2'
   left
   rw [List.length_map, lrc]
   refine mj h23 ?_
   rw [Bg, ef]
   left
   refine Rm ⟨R.same S3, hw, f0c⟩ fun la H4 wq hla s4 LW _ => ?_
   have S4 := S3.tr s4
   have hfo4 := S4 _ _ hfo'
   left
   rw [List.length_map, lrc]
   refine dq (R.same S4) hN fun pn H5 hpn s5 h5 => ?_
   have S5 := S4.tr s5
   have LW5 := LW.same s5
   have dl := wb c rs c
   have gl := me (drs c c rs) N
   have wl := cf c f0 rs
   left
   refine forZ3 (a1 := a) (a2 := pn) (a3 := la) (xs := ps.map V.ref) (ys := (zs (Uc (drs c c rs) N)).map V.int) (zs := wq.map V.ref) rs.length (by rw [List.length_map, rl]) (by rw [ua, gl, dl]) (by rw [List.length_map, LW5.ln, wl]) (fun i σ' H' => ∃ (bb : Addr) (o1 o2 o3 o4 o5 o6 : Option V), i <= rs.length /\ Same H5 H' /\ H' bb = some (lstN (plB c F0 (List.range c) rs N i)) /\ σ' = [some (.ref fo), some (.ref fr'), some (.ref a), some (.int N), some (.ref m), some (.ref bb), some (.int ((ahT c f0 F0 rs N i : Nat) : Int)), some (.ref la), o1, o2, o3, o4, o5, o6]) ⟨b0, none, none, none, none, none, none, Nat.zero_le _, Same.refl _, s5 _ _ (s4 _ _ w3), rfl⟩ (fun i σ' H' _ h => by
    obtain ⟨_, _, _, _, _, _, _, _, fr, _⟩ := h
    exact ⟨fr _ _ (S5 _ _ R.rw.ls), fr _ _ h5, fr _ _ LW5.ls⟩) ?_ ?_
   . rintro i x y zz σ' H' T0 hx hy hz ⟨bb, o1, o2, o3, o4, o5, o6, _, fr, hbb, rfl⟩ hT
     obtain ⟨p, r0, rfl, hpi, hr0, ho⟩ := R.rw.get hx
     obtain ⟨xd, hdg, rfl⟩ := Za hy
     obtain ⟨wp, w0, rfl, hwpi, hw0, hwo⟩ := LW5.get hz
     have hi' : i < rs.length := (List.getElem?_eq_some_iff.mp hr0).1
     obtain ⟨nx, nl⟩ := vg (F := F0) (N := N) (i := i) lrc R.ft (Nat.le_refl _) hr0
     have fit := R.ft.at hr0
     have lb := zb (R.ft.take i) c1 (Nat.le_refl _)
     obtain ⟨mm, hm'⟩ : ∃ m, (drs c c rs)[i]? = some m := ⟨(drs c c rs)[i]'(by omega), by simp⟩
     have em : mm = dr c (Qa c (rs.take i)) r0 := Pj hr0 hm'
     have hdig := qh (n := N) hm'
     rw [hdg] at hdig
     have exd := Option.some.inj hdig
     have m0 := Md lb.2 fit
     have hxm : xd < mm := by rw [exd]; exact Nat.mod_lt _ (by rw [em]; exact m0)
     have mlt := qd R.ft (Nat.le_refl _) (by omega) mm (List.mem_of_getElem? hm')
     rw [<- em, <- exd] at nx
     rw [<- nl] at fit em
     have hBl : ∀ a ∈ plB c F0 (List.range c) rs N i, a < c := zr rlt
     have wfew := Et f0c c1 (by omega) R.ft ln hw0
     have wlen : w0.length = r0.n + 1 := by
      have e := hw0
      rw [ze (b := c) hi', BR.Ja hr0, Wa] at e
      rw [<- Option.some.inj e]
      refine Yh ?_
      have e2 : rs = rs.take (i + 1) ++ rs.drop (i + 1) := (List.take_append_drop _ _).symm
      have e3 := hw
      rw [e2, qb, BR.Ja hr0, Wa] at e3
      exact e3
     have eah := ahJ_at (F := F0) hr0 hdg hw0
     have eT : ahT c f0 F0 rs N (i + 1) = ahT c f0 F0 rs N i + ahd c F0 (plB c F0 (List.range c) rs N i) r0 xd w0 := by
      show ahT c f0 F0 rs N i + ahJ c f0 F0 rs N i = _
      rw [eah]
     have eB := Ln nx
     rw [eT, eB]
     generalize hB : plB c F0 (List.range c) rs N i = B at *
     have sT := (Same.refl H').new (o := .tup [.ref p, .int (xd : Int), .ref wp]) hT
     have hTT : upd H' T0 (.tup [.ref p, .int (xd : Int), .ref wp]) T0 = some (.tup [.ref p, .int (xd : Int), .ref wp]) := ja
     generalize upd H' T0 (.tup [.ref p, .int (xd : Int), .ref wp]) = HX at sT hTT ⊢
     have SX := fr.tr sT
     have BMX : BM HX m bb p c F0 B r0 := ⟨SX _ _ (s5 _ _ (s4 _ _ (s3 _ _ h2))), sT _ _ hbb, SX _ _ (S5 _ _ ho), hBl, by omega, by omega, fit⟩
     have hwX := SX _ _ hwo
     have npos := fit.pos
     have pll := ic (F := F0) (x := xd) fit (by rw [<- em]; exact hxm)
     left
     refine Qp BMX (fun hn HY sY => ?_) (fun z0 hz0 pz HY hpz sY hY => ?_)
     . obtain ⟨ep, ed⟩ := Mf (x := xd) hn
       left
       refine Zm (BMX.same sY) fun po HZ hpo sZ hZ => ?_
       have hZ' : HZ po = some (.lst ((zs (pool c B r0)).map V.int)) := hZ
       have pol := Kn (c := c) (by omega : B.length <= c) r0
       obtain ⟨xs, e1, e2⟩ := rn_n r0
       have hst : HZ p = some (.tup xs) := by rw [<- e1]; exact (sY.tr sZ) _ _ BMX.st
       have hxp : xd < MB.ch (pool c B r0).length r0.n := by rw [<- ed, <- em]; exact hxm
       left
       rw [ua]
       refine Bc hst e2 ?_
       left
       refine Jt (by omega) hxp fun pt HP hpt sP hP => ?_
       rw [Mn] at hP
       have hP' : HP pt = some (.tup ((zs (pkL (List.range (pool c B r0).length) r0.n xd)).map V.int)) := hP
       have nle : r0.n <= (pool c B r0).length := by
        rcases Nat.lt_or_ge (pool c B r0).length r0.n with y | y
        . have := MB.Od y; omega
        . exact y
       have hbd : ∀ a ∈ pkL (List.range (pool c B r0).length) r0.n xd, a < (pool c B r0).length := fun a ha => List.mem_range.mp ((Dc _ _ _).subset ha)
       have pln := fc (List.range (pool c B r0).length) r0.n xd (by rw [List.length_range]; exact nle) (by rw [List.length_range]; exact hxp)
       have plt : ∀ a ∈ pool c B r0, a < c := ur hBl
       have tP := sY.tr (sZ.tr sP)
       have hZP := sP _ _ hZ'
       have hmP : HP m = some (.lst ((List.range c).map fun a => V.bl (F0 a))) := tP _ _ BMX.ma
       left
       refine pe (a := po) (xs := (zs (pool c B r0)).map V.int) [some (.ref m)] (fun i ys H' => H' = HP /\ ys = (((pool c B r0).take i).map F0).map V.bl) rfl (by rw [ua, sizeLine_eq]; omega) ⟨rfl, rfl⟩ (fun i ys H' _ h => by obtain ⟨e, _⟩ := h; subst e; exact SqL.of hZP) (fun i ys H' h => by
        obtain ⟨_, e⟩ := h
        rw [e, List.length_map, List.length_map, List.length_take]; omega) ?_ ?_
       . rintro i2 v ys z H9 hv ⟨rfl, rfl⟩
         obtain ⟨a2, ha2, rfl⟩ := Za hv
         have tn := BR.Ja ha2
         have hal := plt a2 (List.mem_of_getElem? ha2)
         left
         refine Ta hmP (v := .bl (F0 a2)) (Pb (by rw [List.getElem?_map, List.getElem?_range hal]; rfl)) ?_
         refine ⟨⟨rfl, ?_⟩, _, rfl⟩
         rw [tn, List.map_append, List.map_append]
         rfl
       . rintro ys H9 ⟨rfl, rfl⟩ D6 hD6
         rw [ua, List.take_length]
         have tD := tP.new (o := .lst (((pool c B r0).map F0).map V.bl)) hD6
         have uD := (Same.refl H9).new (o := .lst (((pool c B r0).map F0).map V.bl)) hD6
         have wD : upd H9 D6 (.lst (((pool c B r0).map F0).map V.bl)) D6 = some (.lst (((pool c B r0).map F0).map V.bl)) := ja
         generalize upd H9 D6 (.lst (((pool c B r0).map F0).map V.bl)) = HD at tD uD wD ⊢
         left
         refine Rv wD (uD _ _ hP) (tD _ _ hwX) (by rw [List.length_map]; omega) (by omega) (by omega) wfew fun HE sE => ?_
         rw [List.length_map]
         have hPE := sE _ _ (uD _ _ hP')
         have hZE := sE _ _ (uD _ _ hZP)
         left
         refine compT (a := pt) (xs := (zs (pkL (List.range (pool c B r0).length) r0.n xd)).map V.int) [some (.ref po)] (fun i ys H' => H' = HE /\ ys = (zs (((pkL (List.range (pool c B r0).length) r0.n xd).take i).map fun i => (pool c B r0).getD i 0)).map V.int) rfl (by rw [ua, sizeLine_eq]; omega) ⟨rfl, rfl⟩ (fun i ys H' _ h => by obtain ⟨e, _⟩ := h; subst e; exact SqT.of hPE) (fun i ys H' h => by
          obtain ⟨_, e⟩ := h
          rw [e, ua, List.length_map, List.length_take]; omega) ?_ ?_
         . rintro i3 v ys z H9' hv ⟨rfl, rfl⟩
           obtain ⟨a3, ha3, rfl⟩ := Za hv
           have tn := BR.Ja ha3
           have hal := hbd a3 (List.mem_of_getElem? ha3)
           obtain ⟨y3, hy3⟩ : ∃ y, (pool c B r0)[a3]? = some y := ⟨_, List.getElem?_eq_getElem hal⟩
           left
           refine Ta (xs := (zs (pool c B r0)).map V.int) hZE (Ab hy3) ?_
           refine ⟨⟨rfl, ?_⟩, _, rfl⟩
           rw [tn, List.map_append, lst_snoc]
           rw [show [a3].map (fun i => (pool c B r0).getD i 0) = [y3] by show [(pool c B r0).getD a3 0] = [y3]; rw [getD_some hy3]]
         . rintro ys H9' ⟨rfl, rfl⟩ D7 hD7
           rw [ua, List.take_length, Be, <- ep]
           have S7 := (SX.tr (tD.tr sE)).new (o := .lst ((zs (pl c F0 B r0 xd)).map V.int)) hD7
           left
           refine ⟨D7, some (.ref p), some (.int (xd : Int)), some (.ref wp), some .non, some (.ref po), some (.ref pt), by omega, S7, ja, ?_⟩
           rw [vo hn, Int.natCast_add]
           rfl
     . have ez := xr (x := xd) hz0
       have zl : z0.length = r0.n := by rw [<- ez]; exact pll
       have zlt : ∀ a ∈ z0, a < c := by rw [<- ez]; exact fun a ha => yr hBl a ha
       left
       refine Mg (sY _ _ BMX.ma) hY zlt (by omega) fun HZ sZ => ?_
       have frl : BR.fr F0 z0 <= z0.length := by unfold BR.fr; exact List.countP_le_length
       obtain ⟨wv, hwv⟩ : ∃ v, w0[BR.fr F0 z0]? = some v := ⟨w0[BR.fr F0 z0]'(by omega), by simp⟩
       have hwZ : HZ wp = some (.lst ((zs w0).map V.int)) := sZ _ _ (sY _ _ hwX)
       left
       refine Ta hwZ (Ab hwv) ?_
       left
       refine pf (.of 512 60000 (by rw [Int.natAbs_natCast]; omega) (by rw [Int.natAbs_natCast]; exact wfew wv (List.mem_of_getElem? hwv))) ?_
       left
       refine ⟨pz, some (.ref p), some (.int (xd : Int)), some (.ref wp), some (.ref pz), o5, o6, by omega, SX.tr (sY.tr sZ), ?_, ?_⟩
       . rw [ez]; exact sZ _ _ hY
       . rw [zt hz0, getD_some hwv, Int.natCast_add, Int.natCast_mul]
         rfl
   . rintro σ' H' ⟨bb, o1, o2, o3, o4, o5, o6, _, fr, hbb, rfl⟩
     rw [Ar] at hbb
     have ll := sj (F := F0) rs (List.range c) N c lrc R.ft (Nat.le_refl _)
     rw [hw] at ll
     obtain ⟨h0, e0⟩ : ∃ h0, Ec (List.range c) (plA c F0 (List.range c) rs N) = [h0] := List.length_eq_one_iff.mp ll
     rw [e0] at hbb
     have hbb' : H' bb = some (.lst [V.int (h0 : Int)]) := hbb
     have h0c : h0 < c := by
      have := zr (F := F0) (rs := rs) (N := N) (i := rs.length) rlt h0
      rw [Ar, e0] at this
      exact this (by simp)
     have hmP : H' m = some (.lst ((List.range c).map fun a => V.bl (F0 a))) := fr _ _ (s5 _ _ (s4 _ _ (s3 _ _ h2)))
     left
     refine Ta hmP (v := .bl (F0 h0)) (Pb (by rw [List.getElem?_map, List.getElem?_range h0c]; rfl)) ?_
     left
     have S6 := S5.tr fr
     cases u : F0 h0 with
     | true =>
      left
      intro t ht
      refine q h0 t _ e0 (S6.free ht) (S6.new ht) ?_
      rw [ja, u, if_pos rfl]
     | false =>
      left
      intro t ht
      refine q h0 t _ e0 (S6.free ht) (S6.new ht) ?_
      rw [ja, u, if_neg (by decide)]
theorem Oo (T : Txt mg) (U : Up K mg "_law_begin" Yg ["_law_script"]) : Eh P w K mg base := by
 have sc := Ho
 refine Callee.of (k := 0) U sc (fun vs H Q E h => ?_) (fun f cdv A outer s H vs Q E hr h => ?_)
 . obtain ⟨a, ns, rfl, _⟩ := h; rfl
 . obtain ⟨a, ns, rfl, hS, k⟩ := h
   have hu := hr.units
   conv in (Ha _) => whnf
   with_reducible refine ⟨_, (ka (Ea (ab (aa (Zb (Wo (K := K) ‹rfl›) ‹rfl› ‹T.b_list› Xe (aa (pv 0) da)) (aa qa (aa qa (aa qa da))))))), ?_⟩
   rw [show L2.start ["_law_script"] [V.ref a] = [some (V.ref a)] from rfl]
   left
   refine Kf (xs := ns.map V.int) hS ?_
   intro l hl
   left
   intro d hd
   have hld : l ≠ d := oa ja hd
   have s1 : Same H (upd H l (.lst (ns.map V.int))) := (Same.refl H).new hl
   refine k d l _ (s1.free hd) hl ⟨ns, 0, 0, 17, ja, by walk_at "hp", hld, by decide⟩ (s1.new hd)
theorem Qr (T : Txt mg) (U : Up K mg "_law_take" bj ["_law_draw", "_law_many"]) : De P w K mg base := by
 have sc := Oq
 refine Callee.of (k := 0) U sc (fun vs H Q E h => ?_) (fun f cdv A outer s H vs Q E hr h => ?_)
 . obtain ⟨d, l, m, rfl, _⟩ := h; rfl
 . obtain ⟨d, l, m, rfl, ⟨ns, i, c, r, hd, hl, hne, hi⟩, hm, hb, k⟩ := h
   have hu := hr.units
   conv in (Ha _) => whnf
   with_reducible refine ⟨_, (Yb (Sa (PW.pt (qf (va (ltK (K := K) ‹rfl› ‹hu›) (Na (ixK (K := K) ‹rfl›) (pv 0) qa ‹fun _ _ => rfl›) (pv 1) ‹Ca _›) (Bd (va (ltK (K := K) ‹rfl› ‹hu›) (Na (ixK (K := K) ‹rfl›) (pv 0) qa ‹fun _ _ => rfl›) (Ga (lenK (K := K) ‹rfl›) ‹rfl› ‹T.b_len› Va (aa (Na (ixK (K := K) ‹rfl›) (pv 0) qa ‹fun _ _ => rfl›) da)) ‹Ca _›)))) (ba (xa (i := 2) ‹sc.nd› ‹rfl› ‹Or.inl rfl› (Na (ixK (K := K) ‹rfl›) (Na (ixK (K := K) ‹rfl›) (pv 0) qa ‹fun _ _ => rfl›) (Na (ixK (K := K) ‹rfl›) (pv 0) qa ‹fun _ _ => rfl›) ‹fun _ _ => rfl›)) (ba (Xd (Ma (addK (K := K) ‹rfl›) (Na (ixK (K := K) ‹rfl›) (pv 0) qa ‹fun _ _ => rfl›) qa) (bg (pv 0) qa set_list)) (ba (Xd qa (bg (pv 0) qa set_list)) (ka (Sa (va yj (Ga Iv ‹rfl› ‹T.b_abs› Lv (aa (pv 2) da)) (Ma op_pow qa qa) ‹Ca _›) (ka (Xd (Ga Iv ‹rfl› ‹T.b_abs› Lv (aa (pv 2) da)) (bg (pv 0) qa set_list))) (ka (Xd (Ma si (Ma (addK (K := K) ‹rfl›) (Ma (addK (K := K) ‹rfl›) (Ma ub (Na (ixK (K := K) ‹rfl›) (pv 0) qa ‹fun _ _ => rfl›) qa) (Ma ub (Ma si (pv 2) qa) qa)) qa) qa) (bg (pv 0) qa set_list)))))))) Ka) (ba (Sa (va yj (Na (ixK (K := K) ‹rfl›) (pv 0) qa ‹fun _ _ => rfl›) (pv 1) ‹Ca _›) (ba (xa (i := 3) ‹sc.nd› ‹rfl› ‹Or.inl rfl› (Ma si (Na (ixK (K := K) ‹rfl›) (pv 0) qa ‹fun _ _ => rfl›) (pv 1))) (ba (Xd (Ma Nb (Na (ixK (K := K) ‹rfl›) (pv 0) qa ‹fun _ _ => rfl›) (pv 1)) (bg (pv 0) qa set_list)) (ka (Ea (pv 3))))) Ka) (ba (Xd (Ma si (Ma (addK (K := K) ‹rfl›) (Ma ub (Na (ixK (K := K) ‹rfl›) (pv 0) qa ‹fun _ _ => rfl›) qa) qa) qa) (bg (pv 0) qa set_list)) (ka (Ea (Ma si (Ma Nb (Na (ixK (K := K) ‹rfl›) (pv 0) qa ‹fun _ _ => rfl›) qa) (pv 1))))))), ?_⟩
   rw [show L2.start ["_law_draw", "_law_many", "_law_number", "_law_got"] [V.ref d, V.int m] = [some (V.ref d), some (V.int m), none, none] from rfl]
   refine mf (fun σ' H' => (∃ x, σ' = [some (.ref d), some (.int m), x, none]) /\ (∃ i' c' r' : Int, H' d = some (.lst [.ref l, .int i', .int c', .int r']) /\ 0 <= i') /\ Fr1 d H H') ?_ ?_
   . left
     refine za (fun h1 => ?_) (fun h1 => ?_)
     . left
       refine za (fun h2 => ?_) (fun h2 => ?_)
       . left
         rw [List.length_map] at h2
         refine Ta hl (Mu hi h2) ?_
         left
         refine za (fun h3 => ?_) (fun h3 => ?_)
         . left
           exact ⟨⟨_, rfl⟩, ⟨_, _, _, ja, by omega⟩, (((Fr1.refl d H).upd).upd).upd⟩
         . left
           exact ⟨⟨_, rfl⟩, ⟨_, _, _, ja, by omega⟩, (((Fr1.refl d H).upd).upd).upd⟩
       . left
         exact ⟨⟨_, rfl⟩, ⟨_, _, _, hd, by omega⟩, Fr1.refl d H⟩
     . left
       exact ⟨⟨_, rfl⟩, ⟨_, _, _, hd, by omega⟩, Fr1.refl d H⟩
   . rintro σ1 H1 ⟨⟨x, rfl⟩, ⟨i', c', r', hd1, hi1⟩, fr⟩
     obtain ⟨n, hn1, hn2⟩ := hb
     have hl1 : H1 l = some (.lst (ns.map V.int)) := fr.get hl hne
     left
     refine za (fun h1 => ?_) (fun h1 => ?_)
     . left
       refine r_rI ⟨hm, n, hn1, hn2⟩ ?_
       left
       refine k _ _ (Int.emod_nonneg _ (by omega)) (Int.emod_lt_of_pos _ hm) ⟨ns, i', _, r', ja, ?_, hne, hi1⟩ fr.upd
       walk_at "hp"
     . left
       refine k _ _ (Int.emod_nonneg _ (by omega)) (Int.emod_lt_of_pos _ hm) ⟨ns, i', c', _, ja, ?_, hne, hi1⟩ fr.upd
       walk_at "hp"
theorem uu (T : Txt mg) (U : Up K mg "_law_int" Ul ["_law_thing"]) : Nm P w K mg base := by
 have sc := Rt
 refine Callee.of (k := 0) U sc (fun vs H Q E h => ?_) (fun f cdv A outer s H vs Q E hr h => ?_)
 . obtain ⟨n, rfl, _⟩ := h; rfl
 . obtain ⟨n, rfl, k⟩ := h
   have hu := hr.units
   conv in (Ha _) => whnf
   with_reducible refine ⟨_, (ka (Ea (pe_and (Ga (isiK (K := K) ‹rfl›) ‹rfl› ‹T.b_isinstance› qc (aa (pv 0) (aa (vj ‹rfl› ‹T.b_int› bt_int (v := .ty "int") ‹rfl›) da))) (pe_one (pe_not (Ga (isiK (K := K) ‹rfl›) ‹rfl› ‹T.b_isinstance› qc (aa (pv 0) (aa (vj ‹rfl› ‹T.b_bool› wt (v := .ty "bool") ‹rfl›) da)))))))), ?_⟩
   rw [show L2.start ["_law_thing"] [V.int n] = [some (V.int n)] from rfl]
   left
   exact k
theorem Rr (T : Txt mg) (U : Up K mg "_law_step" cj ["_law_draw", "_law_count", "_law_bench", "_law_most"]) (C_l_take : De P w K mg base) : Zj P w K mg base := by
 have sc := Pq
 refine Callee.of (k := 1) U sc (fun vs H Q E h => ?_) (fun f cdv A outer s H vs Q E hr h => ?_)
 . obtain ⟨d, l, c, s, m, rfl, _⟩ := h; rfl
 . obtain ⟨d, l, c, s, m, rfl, D, s1, s2, s3, m1, m2, q⟩ := h
   have hu := hr.units
   conv in (Ha _) => whnf
   with_reducible refine ⟨_, (ba (xa (i := 4) ‹sc.nd› ‹rfl› ‹Or.inl rfl› (Na (ixK (K := K) ‹rfl›) (kd (aa Ra (aa Ra (aa Ra da)))) (pe_c ‹C_l_take› ‹hr.mono (by decide)› ‹rfl› (aa (pv 0) (aa qa da))) ‹fun _ _ => rfl›)) (ba (xa (i := 5) ‹sc.nd› ‹rfl› ‹Or.inl rfl› (Cd (eqK (K := K) ‹rfl› ‹hu›) (pe_c ‹C_l_take› ‹hr.mono (by decide)› ‹rfl› (aa (pv 0) (aa qa da))) qa ‹Ca _›)) (ba (xa (i := 6) ‹sc.nd› ‹rfl› ‹Or.inl rfl› (Ma (addK (K := K) ‹rfl›) (Ma (addK (K := K) ‹rfl›) (Ma Nb (pv 2) qa) qa) (pe_c ‹C_l_take› ‹hr.mono (by decide)› ‹rfl› (aa (pv 0) (aa (Ma Ya (pv 2) (Ma Nb (pv 2) qa)) da))))) (ba (xa (i := 7) ‹sc.nd› ‹rfl› ‹Or.inl rfl› (Ma (addK (K := K) ‹rfl›) qa (pe_c ‹C_l_take› ‹hr.mono (by decide)› ‹rfl› (aa (pv 0) (aa (Ga (vh ‹rfl›) ‹rfl› ‹T.b_min› Sk (aa (pv 2) (aa (pv 3) da))) da))))) (ba (Sa (truK (K := K) ‹rfl› (pv 5)) (ka (Ea (kd (aa Ra (aa (pv 7) da))))) Ka) (ba (Sa (va (eqK (K := K) ‹rfl› ‹hu›) (pv 4) Ra ‹Ca _›) (ka (xa (i := 7) ‹sc.nd› ‹rfl› ‹Or.inl rfl› (Ma (addK (K := K) ‹rfl›) qa (pe_c ‹C_l_take› ‹hr.mono (by decide)› ‹rfl› (aa (pv 0) (aa (Ga (vh ‹rfl›) ‹rfl› ‹T.b_min› Sk (aa (pv 1) (aa (pv 3) da))) da)))))) Ka) (ba (Sa (PW.pt (qf (va (eqK (K := K) ‹rfl› ‹hu›) (pv 4) Ra ‹Ca _›) (Bd (va (leK (K := K) ‹rfl› ‹hu›) (pv 2) qa ‹Ca _›)))) (ka (Ea (kd (aa Ra (aa (pv 2) (aa (pv 6) (aa (pv 4) da))))))) Ka) (ba (Sa (va (eqK (K := K) ‹rfl› ‹hu›) (pv 4) Ra ‹Ca _›) (ka (xa (i := 4) ‹sc.nd› ‹rfl› ‹Or.inl rfl› Ra)) Ka) (ka (Ea (kd (aa Ra (aa (pv 7) (aa (pv 6) (aa (pv 4) da))))))))))))))), ?_⟩
   rw [show L2.start ["_law_draw", "_law_count", "_law_bench", "_law_most", "_law_word", "_law_lot", "_law_needed", "_law_n"] [V.ref d, V.int c, V.int s, V.int m] = [some (V.ref d), some (V.int c), some (V.int s), some (V.int m), none, none, none, none] from rfl]
   left
   intro tp htp
   have D0 := D.new (o := .tup [.str "council", .str "bench", .str "stay"]) htp
   have fr0 : Fr1 d H (upd H tp (.tup [.str "council", .str "bench", .str "stay"])) := (Fr1.refl d H).new htp
   have ntp := (D.ne htp).1
   left
   refine Ub D0 (by omega) (by omega) fun g1 H1 g10 g11 D1 f1 => ?_
   obtain ⟨w, hw⟩ : ∃ w : Wd, atI [V.str "council", V.str "bench", V.str "stay"] g1 = some (.str (wdS w)) := by
    have : g1 = 0 \/ g1 = 1 \/ g1 = 2 := by omega
    rcases this with rfl | rfl | rfl
    . exact ⟨.council, rfl⟩
    . exact ⟨.bench, rfl⟩
    . exact ⟨.stay, rfl⟩
   refine Bc (f1.get ja ntp) hw ?_
   left
   refine Ub D1 (by omega) (by omega) fun g2 H2 g20 g21 D2 f2 => ?_
   left
   refine Ub D2 (by omega) (by omega) fun g3 H3 g30 g31 D3 f3 => ?_
   obtain ⟨nd, hnd, nd1, nd2⟩ : ∃ nd : Nat, (s : Int) / 2 + 1 + g3 = (nd : Int) /\ s < 2 * nd /\ nd <= s := ⟨((s : Int) / 2 + 1 + g3).toNat, by omega, by omega, by omega⟩
   left
   rw [hnd]
   have hmin : ∀ x : Nat, 1 <= x -> 0 < (if (m : Int) < (x : Int) then (m : Int) else (x : Int)) /\ (if (m : Int) < (x : Int) then (m : Int) else (x : Int)) <= x /\ (if (m : Int) < (x : Int) then (m : Int) else (x : Int)) <= 60 := fun x hx => by split <;> omega
   have hm1 := hmin s s1
   refine Ub D3 (by omega) (by omega) fun g4 H4 g40 g41 D4 f4 => ?_
   have fr4 := ((((fr0.trans f1).trans f2).trans f3).trans f4)
   obtain ⟨n0, hn0, n01, n02, n03⟩ : ∃ n0 : Nat, 1 + g4 = (n0 : Int) /\ 1 <= n0 /\ n0 <= s /\ n0 <= 60 := ⟨(1 + g4).toNat, by omega, by omega, by omega, by omega⟩
   left
   rw [hn0]
   refine za (fun h1 => ?_) (fun h1 => ?_)
   . left
     intro p hp
     exact q p _ (.lot n0) ⟨n01, n03, n02⟩ (D4.new hp) (fr4.new hp) ja
   . cases w with
     | council =>
      left
      refine za (fun _ => ?_) (fun z => absurd rfl z)
      left
      have hm2 := hmin c (by omega)
      refine Ub D4 (by omega) (by omega) fun g5 H5 g50 g51 D5 f5 => ?_
      obtain ⟨n1, hn1, n11, n12, n13⟩ : ∃ n1 : Nat, 1 + g5 = (n1 : Int) /\ 1 <= n1 /\ n1 <= c /\ n1 <= 60 := ⟨(1 + g5).toNat, by omega, by omega, by omega, by omega⟩
      left
      rw [hn1]
      refine za (fun z => absurd z (by decide)) (fun _ => ?_)
      left
      refine za (fun z => absurd z (by decide)) (fun _ => ?_)
      left
      intro p hp
      exact q p _ (.vote n1 nd .council) ⟨n11, n13, n12, nd1, nd2, fun z => (by cases z), fun z => (by cases z)⟩ (D5.new hp) ((fr4.trans f5).new hp) ja
     | bench =>
      left
      refine za (fun z => absurd z (by decide)) (fun _ => ?_)
      left
      refine za (fun z => absurd z (by decide)) (fun _ => ?_)
      left
      refine za (fun z => absurd z (by decide)) (fun _ => ?_)
      left
      intro p hp
      exact q p _ (.vote n0 nd .bench) ⟨n01, n03, by omega, nd1, nd2, fun _ => n02, fun z => (by cases z)⟩ (D4.new hp) (fr4.new hp) ja
     | stay =>
      left
      refine za (fun z => absurd z (by decide)) (fun _ => ?_)
      left
      refine za (fun _ => ?_) (fun z => absurd rfl z)
      left
      refine za (fun h5 => ?_) (fun h5 => ?_)
      . left
        intro p hp
        exact q p _ (.vote s nd .stay) ⟨s1, by omega, s2, nd1, nd2, fun z => (by cases z), fun _ => rfl⟩ (D4.new hp) (fr4.new hp) ja
      . left
        refine za (fun _ => ?_) (fun z => absurd rfl z)
        left
        intro p hp
        exact q p _ (.vote n0 nd .council) ⟨n01, n03, by omega, nd1, nd2, fun z => (by cases z), fun z => (by cases z)⟩ (D4.new hp) (fr4.new hp) ja
theorem Tr (T : Txt mg) (U : Up K mg "_law_last" gj ["_law_draw", "_law_bench"]) (C_l_take : De P w K mg base) : ak P w K mg base := by
 have sc := Rq
 refine Callee.of (k := 1) U sc (fun vs H Q E h => ?_) (fun f cdv A outer s H vs Q E hr h => ?_)
 . obtain ⟨d, l, c, s, rfl, _⟩ := h; rfl
 . obtain ⟨d, l, c, s, rfl, D, s1, s2, s3, q⟩ := h
   have hu := hr.units
   conv in (Ha _) => whnf
   with_reducible refine ⟨_, (ba (Sa (va (eqK (K := K) ‹rfl› ‹hu›) (pv 1) qa ‹Ca _›) (ka (Ea (ab da))) Ka) (ba (xa (i := 2) ‹sc.nd› ‹rfl› ‹Or.inl rfl› (Ma (addK (K := K) ‹rfl›) (Ma (addK (K := K) ‹rfl›) (Ma Nb (pv 1) qa) qa) (pe_c ‹C_l_take› ‹hr.mono (by decide)› ‹rfl› (aa (pv 0) (aa (Ma Ya (pv 1) (Ma Nb (pv 1) qa)) da))))) (ka (Ea (Na (ixK (K := K) ‹rfl›) (ab (aa ‹(ab (aa (kd (aa Ra (aa qa da))) da))› (aa ‹(ab (aa (kd (aa Ra (aa qa (aa (pv 2) (aa Ra da))))) da))› (aa ‹(ab (aa (kd (aa Ra (aa qa (aa (pv 2) (aa Ra da))))) da))› da)))) (pe_c ‹C_l_take› ‹hr.mono (by decide)› ‹rfl› (aa (pv 0) (aa qa da))) ‹fun _ _ => rfl›))))), ?_⟩
   rw [show L2.start ["_law_draw", "_law_bench", "_law_needed"] [V.ref d, V.int s] = [some (V.ref d), some (V.int s), none] from rfl]
   left
   refine za (fun h1 => ?_) (fun h1 => ?_)
   . left
     intro p hp
     exact q p _ [] [] trivial (show s = 1 by omega) (by decide) (D.new hp) ((Fr1.refl d H).new hp) hp ⟨ja, fun i p' z => by simp at z, rfl⟩
   . left
     refine Ub D (by omega) (by omega) fun g3 H3 g30 g31 D3 f3 => ?_
     obtain ⟨nd, hnd, nd1, nd2⟩ : ∃ nd : Nat, (s : Int) / 2 + 1 + g3 = (nd : Int) /\ s < 2 * nd /\ nd <= s := ⟨((s : Int) / 2 + 1 + g3).toNat, by omega, by omega, by omega⟩
     left
     rw [hnd]
     intro t1 ht1
     obtain ⟨G1, eG1, a1, S1⟩ : ∃ G, G = upd H3 t1 (.tup [.str "lot", .int 1]) /\ G t1 = some (rnO (.lot 1)) /\ Same H3 G := ⟨_, rfl, ja, (Same.refl H3).new ht1⟩
     rw [<- eG1]
     left
     intro l1 hl1
     obtain ⟨G2, eG2, a2, S2⟩ : ∃ G, G = upd G1 l1 (.lst [.ref t1]) /\ G l1 = some (.lst [.ref t1]) /\ Same G1 G := ⟨_, rfl, ja, (Same.refl G1).new hl1⟩
     rw [<- eG2]
     left
     intro t2 ht2
     obtain ⟨G3, eG3, a3, S3⟩ : ∃ G, G = upd G2 t2 (.tup [.str "vote", .int 1, .int nd, .str "council"]) /\ G t2 = some (rnO (.vote 1 nd .council)) /\ Same G2 G := ⟨_, rfl, ja, (Same.refl G2).new ht2⟩
     rw [<- eG3]
     left
     intro l2 hl2
     obtain ⟨G4, eG4, a4, S4⟩ : ∃ G, G = upd G3 l2 (.lst [.ref t2]) /\ G l2 = some (.lst [.ref t2]) /\ Same G3 G := ⟨_, rfl, ja, (Same.refl G3).new hl2⟩
     rw [<- eG4]
     left
     intro t3 ht3
     obtain ⟨G5, eG5, a5, S5⟩ : ∃ G, G = upd G4 t3 (.tup [.str "vote", .int 1, .int nd, .str "bench"]) /\ G t3 = some (rnO (.vote 1 nd .bench)) /\ Same G4 G := ⟨_, rfl, ja, (Same.refl G4).new ht3⟩
     rw [<- eG5]
     left
     intro l3 hl3
     obtain ⟨G6, eG6, a6, S6⟩ : ∃ G, G = upd G5 l3 (.lst [.ref t3]) /\ G l3 = some (.lst [.ref t3]) /\ Same G5 G := ⟨_, rfl, ja, (Same.refl G5).new hl3⟩
     rw [<- eG6]
     left
     intro l4 hl4
     obtain ⟨G7, eG7, a7, S7⟩ : ∃ G, G = upd G6 l4 (.lst [.ref l1, .ref l2, .ref l3]) /\ G l4 = some (.lst [.ref l1, .ref l2, .ref l3]) /\ Same G6 G := ⟨_, rfl, ja, (Same.refl G6).new hl4⟩
     rw [<- eG7]
     clear eG1 eG2 eG3 eG4 eG5 eG6 eG7
     have T2 := S1.tr S2
     have T3 := T2.tr S3
     have T4 := T3.tr S4
     have T5 := T4.tr S5
     have T6 := T5.tr S6
     have T7 := T6.tr S7
     have D4 := D3.same T7
     left
     refine Ub D4 (by omega) (by omega) fun g5 H5 g50 g51 D5 f5 => ?_
     have nd' : ∀ (p : Addr) (G : Hp), Same H3 G -> G p = none -> p ≠ d := fun p G S z => ((D3.same S).ne z).1
     have fr : Fr1 d H H5 := (f3.same T7).trans f5
     have fin : ∀ (p t : Addr) (r : Rn), Fit c s r -> r.n = 1 -> H3 p = none -> p ≠ d -> H5 p = some (.lst [.ref t]) -> H5 t = some (rnO r) -> Q (.ref p) H5 := fun p t r h1 h2 h3 h4 h5 h6 =>
      q p H5 [t] [r] ⟨h1, trivial⟩ h2 (by simp) D5 fr (f3.free h3 h4) ⟨h5, fun i p' z => by
       cases i with
       | zero => simp at z; subst z; exact ⟨r, rfl, h6⟩
       | succ i => simp at z, rfl⟩
     have n4 := nd' l4 G6 T6 hl4
     have g := (show g5 = 0 \/ g5 = 1 \/ g5 = 2 by omega)
     rcases g with rfl | rfl | rfl
     . refine Ta (f5.get a7 n4) rfl ?_
       refine fin l1 t1 (.lot 1) ⟨by decide, by decide, s1⟩ rfl (S1.free hl1) (nd' l1 G1 S1 hl1) (f5.get (S7 _ _ (S6 _ _ (S5 _ _ (S4 _ _ (S3 _ _ a2))))) (nd' l1 G1 S1 hl1)) (f5.get (S7 _ _ (S6 _ _ (S5 _ _ (S4 _ _ (S3 _ _ (S2 _ _ a1)))))) (nd' t1 H3 (Same.refl H3) ht1))
     . refine Ta (f5.get a7 n4) rfl ?_
       refine fin l2 t2 (.vote 1 nd .council) ⟨by decide, by decide, by omega, nd1, nd2, fun z => (by cases z), fun z => (by cases z)⟩ rfl (T3.free hl2) (nd' l2 G3 T3 hl2) (f5.get (S7 _ _ (S6 _ _ (S5 _ _ a4))) (nd' l2 G3 T3 hl2)) (f5.get (S7 _ _ (S6 _ _ (S5 _ _ (S4 _ _ a3)))) (nd' t2 G2 T2 ht2))
     . refine Ta (f5.get a7 n4) rfl ?_
       refine fin l3 t3 (.vote 1 nd .bench) ⟨by decide, by decide, by omega, nd1, nd2, fun z => (by omega), fun z => (by cases z)⟩ rfl (T5.free hl3) (nd' l3 G5 T5 hl3) (f5.get (S7 _ _ a6) (nd' l3 G5 T5 hl3)) (f5.get (S7 _ _ (S6 _ _ a5)) (nd' t3 G4 T4 ht3))
theorem Sh (T : Txt mg) (U : Up K mg "_law_whole_row" yd ["_law_draw", "_law_count", "_law_many", "_law_most"]) (C_l_take : De P w K mg base) (C_l_step : Zj P w K mg base) (C_l_last : ak P w K mg base) : Hd P w K mg base := by
 have sc := Mh
 refine Callee.of (k := 2) U sc (fun vs H Q E h => ?_) (fun f cdv A outer s H vs Q E hr h => ?_)
 . obtain ⟨d, l, c, k, m, rfl, _⟩ := h; rfl
 . obtain ⟨d, l, c, k, m, rfl, D, c1, c2, k1, m1, m2, q⟩ := h
   have hu := hr.units
   conv in (Ha _) => whnf
   with_reducible refine ⟨_, (ba (xa (i := 4) ‹sc.nd› ‹rfl› ‹Or.inl rfl› (pv 1)) (ba (xa (i := 5) ‹sc.nd› ‹rfl› ‹Or.inl rfl› (ab da)) (ba (jb PassesOwn.never ‹rfl› (Cb ‹rfl› ‹T.b_range› (aa (pe_c ‹C_l_take› ‹hr.mono (by decide)› ‹rfl› (aa (pv 0) (aa (Ma (addK (K := K) ‹rfl›) (pv 2) qa) da))) da)) (Aa (i := 6) ‹sc.nd› ‹rfl› ‹Or.inl rfl›) (ba (ib (md ‹PySem.F.plainAttrs_list› ‹PySem.F.slot_list_append› ‹PySem.F.type_list_append› ‹cb› (pv 5) (aa (pe_c ‹C_l_step› ‹hr.mono (by decide)› ‹rfl› (aa (pv 0) (aa (pv 1) (aa (pv 4) (aa (pv 3) da))))) da))) (ka (xa (i := 4) ‹sc.nd› ‹rfl› ‹Or.inl rfl› (Na (ixK (K := K) ‹rfl›) (Na (ixK (K := K) ‹rfl›) (pv 5) (Qe wc qa) ‹fun _ _ => rfl›) qa ‹fun _ _ => rfl›))))) (ka (Ea (Ma (addK (K := K) ‹rfl›) (pv 5) (pe_c ‹C_l_last› ‹hr.mono (by decide)› ‹rfl› (aa (pv 0) (aa (pv 4) da))))))))), ?_⟩
   rw [show L2.start ["_law_draw", "_law_count", "_law_many", "_law_most", "_law_bench", "_law_row", "_law_k"] [V.ref d, V.int c, V.int k, V.int m] = [some (V.ref d), some (V.int c), some (V.int k), some (V.int m), none, none, none] from rfl]
   left
   intro a ha
   have D0 := D.new (o := .lst []) ha
   have nad := (D.ne ha).1
   have fr0 : Fr1 d H (upd H a (.lst [])) := (Fr1.refl d H).new ha
   left
   refine Ub D0 (by omega) (by omega) fun g1 H1 g10 g11 D1 f1 => ?_
   refine forR (fun i σ' H' => ∃ (ps : List Addr) (rs : List Rn) (x : Option V), RwAt H' a ps rs /\ FitR c c rs /\ rs.length = i /\ DrL H' d l /\ (∀ b o, H b = some o -> b ≠ d -> H' b = some o) /\ σ' = [some (.ref d), some (.int c), some (.int k), some (.int m), some (.int (Qa c rs : Nat)), some (.ref a), x]) (by omega) (by omega)
    ⟨[], [], none, ⟨f1.get ja nad, fun i p z => by simp at z, rfl⟩, trivial, rfl, D1, fr0.trans f1, rfl⟩ ?_ ?_
   . rintro i σ' H' hi ⟨ps, rs, x, F, ft, hl, D', fr, rfl⟩
     have lb := zb ft c1 (Nat.le_refl _)
     have hpl := F.ln
     left
     refine lj (xs := ps.map V.ref) F.ls ?_
     left
     refine Ht D' lb.1 lb.2 c2 m1 m2 fun p H2 r fit D2 f2 hp => ?_
     have F2 := F.fr1 Yl D' nad f2
     left
     refine gb (xs := ps.map V.ref) F2.ls (by rw [List.length_map, sizeLine_eq]; omega) ?_
     left
     have F3 := F2.push Yl hp
     have npa : a ≠ l := by
      obtain ⟨_, xs, z⟩ := D.some
      exact (oa z ha).symm
     have e1 : atI (ps.map V.ref ++ [V.ref p]) (-1) = some (.ref p) := Fd _ _
     refine Ta (xs := ps.map V.ref ++ [.ref p]) ja e1 ?_
     left
     obtain ⟨xs, e2, e3⟩ := rn_n r
     have hpa : p ≠ a := by rw [e2] at hp; exact Fj hp F2.ls Ji
     refine Bc (xs := xs) (by rw [La hpa, hp, e2]) e3 ?_
     left
     refine ⟨_, _, some (.int i), F3, ft.snoc fit, by rw [List.length_append, hl]; rfl, D2.upd nad npa, fun b o z n => ?_, ?_⟩
     . rw [La (oa z ha)]
       exact f2 b o (fr b o z n) n
     . rw [Wa]; rfl
   . rintro σ' H' ⟨ps, rs, x, F, ft, hl, D', fr, rfl⟩
     have lb := zb ft c1 (Nat.le_refl _)
     left
     refine Kt c D' lb.1 lb.2 c2 fun p H2 ps' rs' ft' hl' ln' D2 f2 hpn F' => ?_
     have F2 := F.fr1 Yl D' nad f2
     have l1 := F.ln
     have l2 := F'.ln
     refine Pe (xs := ps.map V.ref) (ys := ps'.map V.ref) F2.ls F'.ls (by rw [List.length_map, List.length_map, sizeLine_eq]; omega) fun p2 hp2 => ?_
     have fr2 : Fr1 d H H2 := fun b o z n => f2 b o (fr b o z n) n
     refine q p2 _ _ _ ⟨F2.cat F' hp2, c1, c2, FitR.app.mpr ⟨ft, ft'⟩, by rw [List.length_append]; omega⟩ (by rw [List.length_append]; omega) (by rw [qb]; exact hl') (D2.new hp2) (fr2.new hp2) (fr2.free hp2 (D2.ne hp2).1)
theorem Pr (T : Txt mg) (U : Up K mg "_law_ways" aj ["_law_many", "_law_few"]) : Fg P w K mg base := by
 have sc := Nq
 refine Callee.of (k := 0) U sc (fun vs H Q E h => ?_) (fun f cdv A outer s H vs Q E hr h => ?_)
 . obtain ⟨m, k, rfl, _⟩ := h; rfl
 . obtain ⟨m, k, rfl, hm, q⟩ := h
   have hu := hr.units
   conv in (Ha _) => whnf
   with_reducible refine ⟨_, (ba (Sa (PW.pt (Nd (va (ltK (K := K) ‹rfl› ‹hu›) (pv 1) qa ‹Ca _›) (Cc (va xj (pv 1) (pv 0) ‹Ca _›)))) (ka (Ea qa)) Ka) (ba (xa (i := 2) ‹sc.nd› ‹rfl› ‹Or.inl rfl› qa) (ba (xa (i := 3) ‹sc.nd› ‹rfl› ‹Or.inl rfl› qa) (ba (jb PassesOwn.never ‹rfl› (Cb ‹rfl› ‹T.b_range› (aa (pv 1) da)) (Aa (i := 4) ‹sc.nd› ‹rfl› ‹Or.inl rfl›) (ba (xa (i := 2) ‹sc.nd› ‹rfl› ‹Or.inl rfl› (Ma ub (pv 2) (Ma Ya (pv 0) (pv 4)))) (ka (xa (i := 3) ‹sc.nd› ‹rfl› ‹Or.inl rfl› (Ma ub (pv 3) (Ma (addK (K := K) ‹rfl›) (pv 4) qa)))))) (ka (Ea (Ma Nb (pv 2) (pv 3)))))))), ?_⟩
   rw [show L2.start ["_law_many", "_law_few", "_law_top", "_law_bottom", "_law_k"] [V.int m, V.int k] = [some (V.int m), some (V.int k), none, none, none] from rfl]
   left
   refine za (fun h1 => ?_) (fun h1 => ?_)
   . left
     rw [MB.Jm (.inl h1)] at q
     exact q
   . left
     refine za (fun h2 => ?_) (fun h2 => ?_)
     . left
       rw [MB.Jm (.inr h2)] at q
       exact q
     . left
       refine forR (fun i σ' H' => H' = H /\ ∃ x, σ' = [some (.int m), some (.int k), some (.int (MB.fall m.toNat i)), some (.int (MB.fac i)), x]) (by omega) (by omega) ⟨rfl, none, rfl⟩ ?_ ?_
       . rintro i σ' H' hi ⟨rfl, x, rfl⟩
         left
         refine ⟨rfl, some (.int i), ?_⟩
         have e1 : (MB.fall m.toNat i : Int) * (m - (i : Int)) = ((MB.fall m.toNat (i + 1) : Nat) : Int) := by
          rw [show MB.fall m.toNat (i + 1) = MB.fall m.toNat i * (m.toNat - i) from rfl, Int.natCast_mul]
          congr 1
          omega
         have e2 : (MB.fac i : Int) * ((i : Int) + 1) = ((MB.fac (i + 1) : Nat) : Int) := by
          rw [show MB.fac (i + 1) = MB.fac i * (i + 1) from rfl, Int.natCast_mul]
          rfl
         rw [e1, e2]
         rfl
       . rintro σ' H' ⟨rfl, x, rfl⟩
         left
         have hp := MB.Cm k.toNat
         refine r_rI (.of (9 * k.toNat + 1) (by omega) ?_ (by omega)) ?_
         . have := MB.Dv k.toNat (by omega)
           rw [Int.natAbs_natCast]
           exact this
         left
         rw [MB.W_in (by omega), <- MB.Lk] at q
         exact q
theorem Mo (T : Txt mg) (U : Up K mg "_law_seats" Xg ["_law_count", "_law_row"]) : Dh P w K mg base := by
 have sc := Fo
 refine Callee.of (k := 0) U sc (fun vs H Q E h => ?_) (fun f cdv A outer s H vs Q E hr h => ?_)
 . obtain ⟨c, a, ps, rs, rfl, _⟩ := h; rfl
 . obtain ⟨c, a, ps, rs, rfl, R, q⟩ := h
   have hu := hr.units
   have ln := R.ln
   have rl := R.rw.ln
   conv in (Ha _) => whnf
   with_reducible refine ⟨_, (ka (Ea (Ma (addK (K := K) ‹rfl›) (ab (aa (pv 0) da)) (Te [] ["_law_step_here"] [] (by with_unfolding_all rfl) ‹rfl› ‹rfl› (piLK (K := K) ‹rfl› (pv 1)) (by decide) ‹rfl› (by decide) ‹trivial› (by with_unfolding_all rfl) (fun _ => ‹trivial›) (fun _ _ _ _ => (Aa (i := 0) ‹show List.Nodup (["_law_step_here"] : List Str) from by decide +kernel› ‹rfl› ‹Or.inl rfl› ‹.inr rfl›)) (fun _ _ _ _ => Lb) (fun _ _ _ _ => (Na (ixK (K := K) ‹rfl›) (pv 0) qa ‹fun _ _ => rfl›)))))), ?_⟩
   rw [show L2.start ["_law_count", "_law_row"] [V.int c, V.ref a] = [some (V.int c), some (V.ref a)] from rfl]
   left
   intro f hf
   have s1 : Same H (upd H f (.lst [.int c])) := (Same.refl H).new hf
   have R1 := R.same s1
   have hf1 : (upd H f (.lst [.int c])) f = some (.lst [.int c]) := ja
   generalize upd H f (.lst [.int c]) = H1 at s1 R1 hf1 ⊢
   left
   refine pe (a := a) (xs := ps.map V.ref) [] (fun i ys H' => H' = H1 /\ ys = (zs (szs (rs.take i))).map V.int) rfl (by rw [List.length_map, sizeLine_eq]; omega) ⟨rfl, rfl⟩
    (fun i ys H' _ ⟨e, _⟩ => by subst e; exact SqL.of R1.rw.ls) (fun i ys H' ⟨_, e⟩ => by rw [e, ua]; unfold szs; rw [List.length_map, List.length_take]; omega) ?_ ?_
   . rintro i x ys z H' hi ⟨rfl, rfl⟩
     obtain ⟨p2, r, rfl, _, hr', ho⟩ := R1.rw.get hi
     obtain ⟨xs, e1, e2⟩ := rn_n r
     left
     refine Bc (xs := xs) (by rw [<- e1]; exact ho) e2 ?_
     refine ⟨⟨rfl, ?_⟩, _, rfl⟩
     rw [BR.Ja hr', lst_snoc]
     unfold szs
     rw [List.map_append]; rfl
   . rintro ys H' ⟨rfl, rfl⟩ D hD
     rw [List.length_map, rl, List.take_length]
     have hfD : f ≠ D := oa hf1 hD
     refine Pe (xs := [.int c]) (ys := (zs (szs rs)).map V.int) (rb hfD hf1) ja (by rw [ua, sizeLine_eq]; unfold szs; rw [List.length_map]; simp only [List.length_cons, List.length_nil]; omega) fun p2 hp2 => ?_
     have s2 := s1.new (o := .lst ((zs (szs rs)).map V.int)) hD
     exact q p2 _ (s2.free hp2) (s2.new hp2) ja
theorem tm (T : Txt mg) (U : Up K mg "_law_bounds" Hf ["_law_count", "_law_row"]) (C_l_ways : Fg P w K mg base) (C_l_seats : Dh P w K mg base) : Ee P w K mg base := by
 have sc := Ol
 refine Callee.of (k := 1) U sc (fun vs H Q E h => ?_) (fun f cdv A outer s H vs Q E hr h => ?_)
 . obtain ⟨c, a, ps, rs, rfl, _⟩ := h; rfl
 . obtain ⟨c, a, ps, rs, rfl, R, q⟩ := h
   have hu := hr.units
   have ln := R.ln
   have c2 := R.c2
   have rl := R.rw.ln
   conv in (Ha _) => whnf
   with_reducible refine ⟨_, (ba (xa (i := 2) ‹sc.nd› ‹rfl› ‹Or.inl rfl› (pe_c ‹C_l_seats› ‹hr.mono (by decide)› ‹rfl› (aa (pv 0) (aa (pv 1) da)))) (ba (xa (i := 3) ‹sc.nd› ‹rfl› ‹Or.inl rfl› (ab da)) (ba (jb PassesOwn.never ‹rfl› (Cb ‹rfl› ‹T.b_range› (aa (Ga (lenK (K := K) ‹rfl›) ‹rfl› ‹T.b_len› Va (aa (pv 1) da)) da)) (Aa (i := 4) ‹sc.nd› ‹rfl› ‹Or.inl rfl›) (ba (xa (i := 5) ‹sc.nd› ‹rfl› ‹Or.inl rfl› qa) (Yb (Sa (PW.pt (Nd (va (eqK (K := K) ‹rfl› ‹hu›) (Na (ixK (K := K) ‹rfl›) (Na (ixK (K := K) ‹rfl›) (pv 1) (pv 4) ‹fun _ _ => rfl›) qa ‹fun _ _ => rfl›) Ra ‹Ca _›) (Cc (va (eqK (K := K) ‹rfl› ‹hu›) (Na (ixK (K := K) ‹rfl›) (Na (ixK (K := K) ‹rfl›) (pv 1) (pv 4) ‹fun _ _ => rfl›) qa ‹fun _ _ => rfl›) Ra ‹Ca _›)))) (ka (xa (i := 5) ‹sc.nd› ‹rfl› ‹Or.inl rfl› (pe_c ‹C_l_ways› ‹hr.mono (by decide)› ‹rfl› (aa (Na (ixK (K := K) ‹rfl›) (pv 2) (pv 4) ‹fun _ _ => rfl›) (aa (Na (ixK (K := K) ‹rfl›) (Na (ixK (K := K) ‹rfl›) (pv 1) (pv 4) ‹fun _ _ => rfl›) qa ‹fun _ _ => rfl›) da))))) (ka (Sa (va (eqK (K := K) ‹rfl› ‹hu›) (Na (ixK (K := K) ‹rfl›) (Na (ixK (K := K) ‹rfl›) (pv 1) (pv 4) ‹fun _ _ => rfl›) qa ‹fun _ _ => rfl›) Ra ‹Ca _›) (ka (xa (i := 5) ‹sc.nd› ‹rfl› ‹Or.inl rfl› (pe_c ‹C_l_ways› ‹hr.mono (by decide)› ‹rfl› (aa (pv 0) (aa (Na (ixK (K := K) ‹rfl›) (Na (ixK (K := K) ‹rfl›) (pv 1) (pv 4) ‹fun _ _ => rfl›) qa ‹fun _ _ => rfl›) da))))) Ka))) (ka (ib (md ‹PySem.F.plainAttrs_list› ‹PySem.F.slot_list_append› ‹PySem.F.type_list_append› ‹cb› (pv 3) (aa (pv 5) da))))))) (ka (Ea (pv 3)))))), ?_⟩
   rw [show L2.start ["_law_count", "_law_row", "_law_seats_here", "_law_found", "_law_k", "_law_many"] [V.int c, V.ref a] = [some (V.int c), some (V.ref a), none, none, none, none] from rfl]
   left
   refine ff R fun p H1 hp s1 hp1 => ?_
   have R1 := R.same s1
   left
   intro f hf
   left
   have haf : a ≠ f := oa R1.rw.ls hf
   have hpf : p ≠ f := oa hp1 hf
   refine ni (xs := ps.map V.ref) (rb haf R1.rw.ls) ?_
   rw [List.length_map, rl]
   refine forR (fun i σ' H' => ∃ x y : Option V, Fr1 f H1 H' /\ H' f = some (lstN (drs c c (rs.take i))) /\ σ' = [some (.int c), some (.ref a), some (.ref p), some (.ref f), x, y]) (by omega) (by omega) ⟨none, none, (Fr1.refl f H1).upd, ja, rfl⟩ ?_ ?_
   . rintro i σ' H' hi ⟨x1, y1, fr, hf', rfl⟩
     have hi' : i < rs.length := by omega
     obtain ⟨p2, r, hat, hr', ho⟩ := R1.rw.ix hi'
     have ho' : H' p2 = some (rnO r) := fr.get ho (oa ho hf)
     have ha' : H' a = some (.lst (ps.map V.ref)) := fr.get R1.rw.ls haf
     have hp' : H' p = some (lstN (c :: szs rs)) := fr.get hp1 hpf
     have lb := zb (R.ft.take i) R.c1 (Nat.le_refl _)
     have hsz : atI ((zs (c :: szs rs)).map V.int) (i : Int) = some (.int (Qa c (rs.take i) : Nat)) := Ab (se (by omega))
     have en := BR.Ja hr'
     left
     refine mf (fun σ2 H2 => H2 = H' /\ σ2 = [some (.int c), some (.ref a), some (.ref p), some (.ref f), some (.int i), some (.int (dr c (Qa c (rs.take i)) r : Nat))]) ?_ ?_
     . cases r with
       | lot n =>
        have hp2 : H' p2 = some (.tup [.str "lot", .int n]) := ho'
        left
        refine Ta ha' hat ?_
        left
        refine za (fun _ => ?_) (fun z => absurd rfl z)
        left
        refine Ta hp' hsz ?_
        left
        refine Ta ha' hat ?_
        left
        refine kc (by omega) ?_
        rw [MB.Wj]
        left
        exact ⟨rfl, rfl⟩
       | vote n q' w =>
        have hp2 : H' p2 = some (.tup [.str "vote", .int n, .int q', .str (wdS w)]) := ho'
        left
        refine Ta ha' hat ?_
        left
        refine za (fun z => absurd z (by decide)) (fun _ => ?_)
        left
        refine Ta ha' hat ?_
        left
        cases w with
        | council =>
         refine za (fun z => absurd z (by decide)) (fun _ => ?_)
         left
         refine Ta ha' hat ?_
         left
         refine za (fun _ => ?_) (fun z => absurd rfl z)
         left
         refine Ta ha' hat ?_
         left
         refine kc (by omega) ?_
         rw [MB.Wj]
         left
         exact ⟨rfl, rfl⟩
        | bench =>
         refine za (fun _ => ?_) (fun z => absurd rfl z)
         left
         refine Ta hp' hsz ?_
         left
         refine Ta ha' hat ?_
         left
         refine kc (by omega) ?_
         rw [MB.Wj]
         left
         exact ⟨rfl, rfl⟩
        | stay =>
         refine za (fun z => absurd z (by decide)) (fun _ => ?_)
         left
         refine Ta ha' hat ?_
         left
         refine za (fun z => absurd z (by decide)) (fun _ => ?_)
         left
         exact ⟨rfl, rfl⟩
     . rintro σ2 H2 ⟨rfl, rfl⟩
       left
       refine lj (xs := (zs (drs c c (rs.take i))).map V.int) hf' ?_
       left
       refine gb (xs := (zs (drs c c (rs.take i))).map V.int) hf' (by rw [ua, sizeLine_eq, wb, List.length_take]; omega) ?_
       refine ⟨some (.int i), some (.int (dr c (Qa c (rs.take i)) r : Nat)), fr.upd, ?_, rfl⟩
       rw [ja, lst_snoc, en, Oj]
       rfl
   . rintro σ' H' ⟨x1, y1, fr, hf', rfl⟩
     left
     rw [show ((rs.length : Nat) : Int).toNat = rs.length by omega, List.take_length] at hf'
     exact q f H' (s1.free hf) (s1.tr fun b o z => fr b o z (oa z hf)) hf'
theorem wu (T : Txt mg) (U : Up K mg "_law_all" Vl ["_law_count", "_law_row"]) (C_l_bounds : Ee P w K mg base) : Om P w K mg base := by
 have sc := Tt
 refine Callee.of (k := 2) U sc (fun vs H Q E h => ?_) (fun f cdv A outer s H vs Q E hr h => ?_)
 . obtain ⟨c, a, ps, rs, rfl, _⟩ := h; rfl
 . obtain ⟨c, a, ps, rs, rfl, R, q⟩ := h
   have hu := hr.units
   conv in (Ha _) => whnf
   with_reducible refine ⟨_, (ba (xa (i := 2) ‹sc.nd› ‹rfl› ‹Or.inl rfl› qa) (ba (jb PassesOwn.never ‹rfl› (piLK (K := K) ‹rfl› (pe_c ‹C_l_bounds› ‹hr.mono (by decide)› ‹rfl› (aa (pv 0) (aa (pv 1) da)))) (Aa (i := 3) ‹sc.nd› ‹rfl› ‹Or.inl rfl›) (ka (xa (i := 2) ‹sc.nd› ‹rfl› ‹Or.inl rfl› (Ma ub (pv 2) (pv 3))))) (ka (Ea (pv 2))))), ?_⟩
   rw [show L2.start ["_law_count", "_law_row", "_law_total", "_law_many"] [V.int c, V.ref a] = [some (V.int c), some (V.ref a), none, none] from rfl]
   left
   refine Jb R fun p H1 hp s1 hp1 => ?_
   have lt := qd R.ft (Nat.le_refl _) (by have := R.c2; omega)
   have ln := R.ln
   have dl := wb c rs c
   refine forL (a := p) (xs := (zs (drs c c rs)).map V.int) (fun i σ' H' => H' = H1 /\ ∃ x : Option V, σ' = [some (.int c), some (.ref a), some (.int (Ba ((drs c c rs).take i) : Nat)), x]) ⟨rfl, none, rfl⟩ (fun i σ' H' _ ⟨e, _⟩ => by subst e; exact SqL.of hp1) ?_ ?_
   . rintro i x σ' H' hi ⟨rfl, x1, rfl⟩
     obtain ⟨n, hn, rfl⟩ : ∃ n, (drs c c rs)[i]? = some n /\ V.int (n : Nat) = x := by
      unfold zs at hi
      rw [List.getElem?_map, List.getElem?_map] at hi
      cases w : (drs c c rs)[i]? with
      | none => rw [w] at hi; cases hi
      | some n => rw [w] at hi; exact ⟨n, rfl, Option.some.inj hi⟩
     have hil : i < (drs c c rs).length := (List.getElem?_eq_some_iff.mp hn).1
     have b1 := Vb (b := 512) ((drs c c rs).take i) fun y hy => lt y (List.mem_of_mem_take hy)
     have b2 := lt n (List.mem_of_getElem? hn)
     left
     refine pf (.of _ 512 (by rw [Int.natAbs_natCast]; exact b1) (by rw [Int.natAbs_natCast]; exact b2) (by rw [List.length_take]; omega)) ?_
     left
     refine ⟨rfl, some (.int n), ?_⟩
     rw [BR.Ja hn, Lf, Int.natCast_mul]
     rfl
   . rintro σ' H' ⟨rfl, x1, rfl⟩
     left
     rw [ua, List.take_length]
     exact q _ s1
theorem Sr (T : Txt mg) (U : Up K mg "_law_pick" dj ["_law_many", "_law_few", "_law_number"]) (C_l_ways : Fg P w K mg base) : Gg P w K mg base := by
 have sc := Qq
 refine Callee.of (k := 1) U sc (fun vs H Q E h => ?_) (fun f cdv A outer s H vs Q E hr h => ?_)
 . obtain ⟨m, n, x, rfl, _⟩ := h; rfl
 . obtain ⟨m, n, x, rfl, hm, hn, hx, q⟩ := h
   have hu := hr.units
   conv in (Ha _) => whnf
   with_reducible refine ⟨_, (ba (xa (i := 3) ‹sc.nd› ‹rfl› ‹Or.inl rfl› (ab da)) (ba (xa (i := 4) ‹sc.nd› ‹rfl› ‹Or.inl rfl› qa) (ba (ku PassesOwn.never (PW.pt (qf (va (ltK (K := K) ‹rfl› ‹hu›) (Ga (lenK (K := K) ‹rfl›) ‹rfl› ‹T.b_len› Va (aa (pv 3) da)) (pv 1) ‹Ca _›) (Bd (va (ltK (K := K) ‹rfl› ‹hu›) (pv 4) (pv 0) ‹Ca _›)))) (ba (xa (i := 5) ‹sc.nd› ‹rfl› ‹Or.inl rfl› (pe_c ‹C_l_ways› ‹hr.mono (by decide)› ‹rfl› (aa (Ma Ya (Ma Ya (pv 0) (pv 4)) qa) (aa (Ma Ya (Ma Ya (pv 1) (Ga (lenK (K := K) ‹rfl›) ‹rfl› ‹T.b_len› Va (aa (pv 3) da))) qa) da)))) (ba (Sa (va (ltK (K := K) ‹rfl› ‹hu›) (pv 2) (pv 5) ‹Ca _›) (ka (ib (md ‹PySem.F.plainAttrs_list› ‹PySem.F.slot_list_append› ‹PySem.F.type_list_append› ‹cb› (pv 3) (aa (pv 4) da)))) (ka (xa (i := 2) ‹sc.nd› ‹rfl› ‹Or.inl rfl› (Ma Ya (pv 2) (pv 5))))) (ka (xa (i := 4) ‹sc.nd› ‹rfl› ‹Or.inl rfl› (Ma (addK (K := K) ‹rfl›) (pv 4) qa)))))) (ka (Ea (pv 3)))))), ?_⟩
   rw [show L2.start ["_law_many", "_law_few", "_law_number", "_law_places", "_law_place", "_law_within"] [V.int m, V.int n, V.int x] = [some (V.int m), some (V.int n), some (V.int x), none, none, none] from rfl]
   left
   intro pa hpa
   have s1 := (Same.refl H).new (o := .lst []) hpa
   have a1 : upd H pa (.lst []) pa = some (lstN []) := ja
   generalize hH1 : upd H pa (.lst []) = H1 at s1 a1 ⊢
   left
   refine mw (fun k σ' H' => ∃ (p y : Nat) (ls : List Nat) (o : Option V), k = m - p /\ p <= m /\ ls.length <= n /\ n - ls.length <= m - p /\ y < MB.ch (m - p) (n - ls.length) /\ ls ++ pkL (List.range' p (m - p)) (n - ls.length) y = pkL (List.range m) n x /\ Fr1 pa H1 H' /\ H' pa = some (lstN ls) /\ σ' = [some (.int m), some (.int n), some (.int y), some (.ref pa), some (.int p), o]) m ⟨0, x, [], none, rfl, Nat.zero_le _, Nat.zero_le _, by simp; exact hn, hx, by rw [List.range_eq_range']; rfl, Fr1.refl _ _, a1, rfl⟩ ?_
   rintro k σ' H' ⟨p, y, ls, o, rfl, hp, hl, hnl, hy, hpk, fr, hf, rfl⟩
   have hf2 : H' pa = some (.lst ((zs ls).map V.int)) := hf
   have done : ∀ H'', (ls.length = n \/ p = m) -> H'' = H' -> Q (.ref pa) H'' := by
    rintro H'' hd rfl
    have e : ls = pkL (List.range m) n x := by
     rw [<- hpk]
     rcases hd with z | z
     . rw [z, Nat.sub_self, Ae, List.append_nil]
     . rw [z, Nat.sub_self]
       show ls = ls ++ pkL [] _ _
       rw [show pkL [] (n - ls.length) y = [] from rfl, List.append_nil]
    rw [e] at hf
    refine q pa _ hpa (fun b o' hb => ?_) hf
    exact fr.get (s1 _ _ hb) (oa hb hpa)
   left
   rw [ua]
   refine za (fun h1 => ?_) (fun h1 => ?_)
   . left
     refine za (fun h2 => ?_) (fun h2 => ?_)
     . refine ⟨_, fun _ _ z => z, ?_⟩
       have h1' : ls.length < n := by omega
       have h2' : p < m := by omega
       left
       rw [ua]
       rw [show (m : Int) - (p : Int) - 1 = ((m - p - 1 : Nat) : Int) by omega, show (n : Int) - (ls.length : Int) - 1 = ((n - ls.length - 1 : Nat) : Int) by omega]
       refine kc (by omega) ?_
       rw [MB.Wj]
       obtain ⟨j, hj⟩ : ∃ j, n - ls.length = j + 1 := ⟨n - ls.length - 1, by omega⟩
       obtain ⟨t, ht⟩ : ∃ t, m - p = t + 1 := ⟨m - p - 1, by omega⟩
       have hr0 : List.range' p (m - p) = p :: List.range' (p + 1) t := by rw [ht, List.range'_succ]
       have hlen : (List.range' (p + 1) t).length = t := List.length_range'
       rw [hj, hr0, Mb, hlen] at hpk
       rw [ht, hj] at hy
       have hy' : y < MB.ch t j + MB.ch t (j + 1) := hy
       rw [show m - p - 1 = t by omega, show n - ls.length - 1 = j by omega]
       left
       refine za (fun h3 => ?_) (fun h3 => ?_)
       . left
         refine gb hf (by rw [ua, sizeLine_eq]; omega) ?_
         left
         rw [if_pos (by omega)] at hpk
         have jt : j <= t := by
          rcases Nat.lt_or_ge t j with z | z
          . have := MB.Od z; omega
          . exact z
         refine ⟨m - (p + 1), by omega, p + 1, y, ls ++ [p], _, rfl, by omega, by simp; omega, by rw [List.length_append]; simp; omega, ?_, ?_, fr.upd, by rw [ja, lst_snoc]; rfl, rfl⟩
         . rw [List.length_append, show m - (p + 1) = t by omega, show n - (ls.length + [p].length) = j by simp; omega]
           omega
         . rw [List.length_append, show m - (p + 1) = t by omega, show n - (ls.length + [p].length) = j by simp; omega, List.append_assoc]
           exact hpk
       . left
         rw [if_neg (by omega)] at hpk
         have jt : j + 1 <= t := by
          rcases Nat.lt_or_ge t (j + 1) with z | z
          . have := MB.Od z; omega
          . exact z
         refine ⟨m - (p + 1), by omega, p + 1, y - MB.ch t j, ls, some (.int ((MB.ch t j : Nat) : Int)), rfl, by omega, hl, by omega, ?_, ?_, fr, hf, ?_⟩
         . rw [show m - (p + 1) = t by omega, hj]
           omega
         . rw [show m - (p + 1) = t by omega, hj]
           exact hpk
         . rw [show (y : Int) - ((MB.ch t j : Nat) : Int) = ((y - MB.ch t j : Nat) : Int) by omega]
           rfl
     . left
       exact done _ (.inr (by omega)) rfl
   . left
     exact done _ (.inl (by omega)) rfl
theorem Lo (T : Txt mg) (U : Up K mg "_law_voted" Wg ["_law_folk", "_law_friends", "_law_sat", "_law_step_here", "_law_number"]) (C_l_pick : Gg P w K mg base) : Bh P w K mg base := by
 have sc := Eo
 refine Callee.of (k := 2) U sc (fun vs H Q E h => ?_) (fun f cdv A outer s H vs Q E hr h => ?_)
 . obtain ⟨g, fo, fr', sa, p, c, fv, l, n, q, x, w, rfl, _⟩ := h; rfl
 . obtain ⟨g, fo, fr', sa, p, c, fv, l, n, q, x, w, rfl, NM, hfo, hfr, hfl, hsa, hsl, hp, hc, hl, hfit, hx, k⟩ := h
   have hu := hr.units
   obtain ⟨F, eF⟩ : ∃ F : Nat -> Bool, (fun a => inV (g a) fv) = F := ⟨_, rfl⟩
   have eFa : ∀ a, inV (g a) fv = F a := fun a => congrFun eF a
   rw [eF] at k
   obtain ⟨f1, f2, f3, f4, f5, f6, f7⟩ := id hfit
   have hfo' : H fo = some (.lst ((List.range c).map g)) := hfo
   have hfr' : H fr' = some (.lst fv) := hfr
   have hsa' : H sa = some (.lst (l.map g)) := hsa
   have hp' : H p = some (.tup [.str "vote", .int n, .int q, .str (wdS w)]) := hp
   have frl := BR.We F l
   have lrc : (List.range c).length = c := List.length_range
   conv in (Ha _) => whnf
   with_reducible refine ⟨_, (ba (xa (i := 5) ‹sc.nd› ‹rfl› ‹Or.inl rfl› (Ga (lenK (K := K) ‹rfl›) ‹rfl› ‹T.b_len› Va (aa (Te ["_law_friends"] ["_law_name"] [1] (by with_unfolding_all rfl) ‹rfl› ‹rfl› (piLK (K := K) ‹rfl› (pv 2)) (by decide) ‹rfl› (by decide) ‹⟨rfl, trivial⟩› (by with_unfolding_all rfl) (fun _ => ‹⟨cap1 rfl rfl rfl rfl, trivial⟩›) (fun _ _ _ _ => (Aa (i := 1) ‹show List.Nodup (["_law_friends", "_law_name"] : List Str) from by decide +kernel› ‹rfl› ‹Or.inl rfl› ‹.inr rfl›)) (fun _ _ _ _ => (Vd (va (inK (K := K) ‹rfl›) (pv 1) (pv 0) ‹rfl›))) (fun _ _ _ _ => (pv 1))) da))) (ba (xa (i := 6) ‹sc.nd› ‹rfl› ‹Or.inr rfl› sf) (Yb (Sa (va yj (pv 5) (Na (ixK (K := K) ‹rfl›) (pv 3) qa ‹fun _ _ => rfl›) ‹Ca _›) (ka (xa (i := 6) ‹sc.nd› ‹rfl› ‹Or.inr rfl› Tc)) Ka) (Yb (Sa (va yj (Ma Ya (Ga (lenK (K := K) ‹rfl›) ‹rfl› ‹T.b_len› Va (aa (pv 2) da)) (pv 5)) (Na (ixK (K := K) ‹rfl›) (pv 3) qa ‹fun _ _ => rfl›) ‹Ca _›) (ka (xa (i := 6) ‹sc.nd› ‹rfl› ‹Or.inr rfl› Tc)) Ka) (ba (Sa (PW.pt (qf (va wj (pv 6) sf ‹Ca _›) (Bd (va (eqK (K := K) ‹rfl› ‹hu›) (Na (ixK (K := K) ‹rfl›) (pv 3) qa ‹fun _ _ => rfl›) Ra ‹Ca _›)))) (ka (Ea (pv 2))) Ka) (ba (Sa (va wj (pv 6) sf ‹Ca _›) (ba (xa (i := 7) ‹sc.nd› ‹rfl› ‹Or.inr rfl› (uj (va (eqK (K := K) ‹rfl› ‹hu›) (Na (ixK (K := K) ‹rfl›) (pv 3) qa ‹fun _ _ => rfl›) Ra ‹Ca _›) (pv 0) (pv 2))) (ka (Ea (Te ["_law_pool"] ["_law_place"] [7] (by with_unfolding_all rfl) ‹rfl› ‹rfl› (piLK (K := K) ‹rfl› (pe_c ‹C_l_pick› ‹hr.mono (by decide)› ‹rfl› (aa (Ga (lenK (K := K) ‹rfl›) ‹rfl› ‹T.b_len› Va (aa (pv 7) da)) (aa (Na (ixK (K := K) ‹rfl›) (pv 3) qa ‹fun _ _ => rfl›) (aa (pv 4) da))))) (by decide) ‹rfl› (by decide) ‹⟨rfl, trivial⟩› (by with_unfolding_all rfl) (fun _ => ‹⟨cap1 rfl rfl rfl rfl, trivial⟩›) (fun _ _ _ _ => (Aa (i := 1) ‹show List.Nodup (["_law_pool", "_law_place"] : List Str) from by decide +kernel› ‹rfl› ‹Or.inl rfl› ‹.inr rfl›)) (fun _ _ _ _ => Lb) (fun _ _ _ _ => (Na (ixK (K := K) ‹rfl›) (pv 0) (pv 1) ‹fun _ _ => rfl›)))))) Ka) (ba (xa (i := 8) ‹sc.nd› ‹rfl› ‹Or.inr rfl› (Te ["_law_friends", "_law_first"] ["_law_name"] [1, 6] (by with_unfolding_all rfl) ‹rfl› ‹rfl› (piLK (K := K) ‹rfl› (pv 0)) (by decide) ‹rfl› (by decide) ‹⟨rfl, ⟨rfl, trivial⟩⟩› (by with_unfolding_all rfl) (fun _ => ‹⟨cap1 rfl rfl rfl rfl, ⟨cap1 rfl rfl rfl rfl, trivial⟩⟩›) (fun _ _ _ _ => (Aa (i := 2) ‹show List.Nodup (["_law_friends", "_law_first", "_law_name"] : List Str) from by decide +kernel› ‹rfl› ‹Or.inl rfl› ‹.inr rfl›)) (fun _ _ _ _ => (Vd (va (eqK (K := K) ‹rfl› ‹hu›) (Cd (inK (K := K) ‹rfl›) (pv 2) (pv 0) ‹rfl›) (pv 1) ‹Ca _›))) (fun _ _ _ _ => (pv 2)))) (ba (xa (i := 9) ‹sc.nd› ‹rfl› ‹Or.inr rfl› (xg (slK (K := K) ‹rfl›) (Ma (addK (K := K) ‹rfl›) (pv 8) (Te ["_law_own"] ["_law_name"] [8] (by with_unfolding_all rfl) ‹rfl› ‹rfl› (piLK (K := K) ‹rfl› (pv 0)) (by decide) ‹rfl› (by decide) ‹⟨rfl, trivial⟩› (by with_unfolding_all rfl) (fun _ => ‹⟨cap1 rfl rfl rfl rfl, trivial⟩›) (fun _ _ _ _ => (Aa (i := 1) ‹show List.Nodup (["_law_own", "_law_name"] : List Str) from by decide +kernel› ‹rfl› ‹Or.inl rfl› ‹.inr rfl›)) (fun _ _ _ _ => (Vd (va (notInK (K := K) ‹rfl›) (pv 1) (pv 0) ‹rfl›))) (fun _ _ _ _ => (pv 1)))) qj (oj (Na (ixK (K := K) ‹rfl›) (pv 3) qa ‹fun _ _ => rfl›)))) (ka (Ea (Te ["_law_chosen"] ["_law_name"] [9] (by with_unfolding_all rfl) ‹rfl› ‹rfl› (piLK (K := K) ‹rfl› (pv 0)) (by decide) ‹rfl› (by decide) ‹⟨rfl, trivial⟩› (by with_unfolding_all rfl) (fun _ => ‹⟨cap1 rfl rfl rfl rfl, trivial⟩›) (fun _ _ _ _ => (Aa (i := 1) ‹show List.Nodup (["_law_chosen", "_law_name"] : List Str) from by decide +kernel› ‹rfl› ‹Or.inl rfl› ‹.inr rfl›)) (fun _ _ _ _ => (Vd (va (inK (K := K) ‹rfl›) (pv 1) (pv 0) ‹rfl›))) (fun _ _ _ _ => (pv 1))))))))))))), ?_⟩
   rw [show L2.start ["_law_folk", "_law_friends", "_law_sat", "_law_step_here", "_law_number", "_law_mine", "_law_first", "_law_pool", "_law_own", "_law_chosen"] [V.ref fo, V.ref fr', V.ref sa, V.ref p, V.int x] = [some (V.ref fo), some (V.ref fr'), some (V.ref sa), some (V.ref p), some (V.int x), none, none, none, none, none] from rfl]
   left
   refine pe (a := sa) (xs := l.map g) [some (.ref fr')] (fun i ys H' => H' = H /\ ys = ((l.take i).filter F).map g) rfl (by rw [List.length_map, sizeLine_eq]; omega) ⟨rfl, rfl⟩ (fun i ys H' _ h => by obtain ⟨e, _⟩ := h; subst e; exact SqL.of hsa') (fun i ys H' h => by
    obtain ⟨_, e⟩ := h
    rw [e, List.length_map]
    exact Nat.le_trans (List.length_filter_le _ _) (by rw [List.length_take]; omega)) ?_ ?_
   . rintro i v ys z H' hv ⟨rfl, rfl⟩
     obtain ⟨a, ha, rfl⟩ := getG hv
     have tn := BR.Ja ha
     left
     refine Jo (NM.flat a) hfl hfr ?_
     rw [eFa]
     left
     cases u : F a with
     | true =>
      left
      refine ⟨⟨rfl, ?_⟩, _, rfl⟩
      rw [tn, List.filter_append, show ([a].filter F) = [a] by simp [u], Ih]
     | false =>
      left
      refine ⟨⟨rfl, ?_⟩, _, rfl⟩
      rw [tn, List.filter_append, show ([a].filter F) = [] by simp [u], List.append_nil]
   . rintro ys H' ⟨rfl, rfl⟩ D hD
     rw [List.length_map, List.take_length]
     have s1 := (Same.refl H').new (o := .lst ((l.filter F).map g)) hD
     have eon : (l.filter F).length = BR.fr F l := by unfold BR.fr; rw [List.countP_eq_length_filter]
     have hfo1 := s1 _ _ hfo'
     have hfr1 := s1 _ _ hfr'
     have hsa1 := s1 _ _ hsa'
     have hp1 := s1 _ _ hp'
     left
     rw [List.length_map, eon]
     generalize upd H' D (.lst ((l.filter F).map g)) = H1 at s1 hfo1 hfr1 hsa1 hp1 ⊢
     generalize hon : BR.fr F l = on at *
     refine mf (fun σ' H' => H1 = H' /\ σ' = [some (.ref fo), some (.ref fr'), some (.ref sa), some (.ref p), some (.int x), some (.int on), some (if q <= on then .bl true else .non), none, none, none]) ?_ ?_
     . left
       refine za (fun z => ?_) (fun z => ?_)
       . left
         rw [if_pos (by omega)]
         exact ⟨rfl, rfl⟩
       . left
         rw [if_neg (by omega)]
         exact ⟨rfl, rfl⟩
     rintro σ' H' ⟨rfl, rfl⟩
     refine mf (fun σ' H'' => H1 = H'' /\ σ' = [some (.ref fo), some (.ref fr'), some (.ref sa), some (.ref p), some (.int x), some (.int on), some (if q <= l.length - on then .bl false else if q <= on then .bl true else .non), none, none, none]) ?_ ?_
     . left
       rw [List.length_map]
       refine za (fun z => ?_) (fun z => ?_)
       . left
         rw [if_pos (show q <= l.length - on by omega)]
         exact ⟨rfl, rfl⟩
       . left
         rw [if_neg (show ¬ q <= l.length - on by omega)]
         exact ⟨rfl, rfl⟩
     rintro σ' H'' ⟨rfl, rfl⟩
     by_cases hA : q <= BR.fr F l
     . rw [if_neg (show ¬ q <= l.length - on by omega), if_pos (show q <= on by omega)]
       left
       left
       refine ⟨rfl, ?_⟩
       rw [decide_eq_false (by intro z; cases z)]
       left
       refine ⟨rfl, ?_⟩
       rw [decide_eq_false (by intro z; cases z)]
       left
       refine pe (a := fo) (xs := (List.range c).map g) [some (.ref fr'), some (.bl true)] (fun i ys H' => H' = H1 /\ ys = (((List.range c).take i).filter (fun a => F a == true)).map g) rfl (by rw [List.length_map, sizeLine_eq, lrc]; omega) ⟨rfl, rfl⟩ (fun i ys H' _ h => by obtain ⟨e, _⟩ := h; subst e; exact SqL.of hfo1) (fun i ys H' h => by
        obtain ⟨_, e⟩ := h
        rw [e, List.length_map]
        exact Nat.le_trans (List.length_filter_le _ _) (by rw [List.length_take]; omega)) ?_ ?_
       . rintro i v ys z H' hv ⟨rfl, rfl⟩
         obtain ⟨a, ha, rfl⟩ := getG hv
         have tn := BR.Ja ha
         left
         refine Jo (NM.flat a) hfl hfr1 ?_
         rw [eFa]
         left
         by_cases u : (F a == true) = true
         . rw [u]
           left
           refine ⟨⟨rfl, ?_⟩, _, rfl⟩
           rw [tn, List.filter_append, List.filter_cons_of_pos (by exact u), List.filter_nil, Ih]
         . rw [show (F a == true) = false by simpa using u]
           left
           refine ⟨⟨rfl, ?_⟩, _, rfl⟩
           rw [tn, List.filter_append, List.filter_cons_of_neg (by exact u), List.filter_nil, List.append_nil]
       rintro ys H' ⟨rfl, rfl⟩ D1 hD1
       rw [List.length_map, List.take_length]
       have s2 := (Same.refl H').new (o := .lst (((List.range c).filter (fun a => F a == true)).map g)) hD1
       have w2 : upd H' D1 (.lst (((List.range c).filter (fun a => F a == true)).map g)) D1 = some (lstG g ((List.range c).filter (fun a => F a == true))) := ja
       generalize upd H' D1 (.lst (((List.range c).filter (fun a => F a == true)).map g)) = H2 at s2 w2 ⊢
       have hfo2 := s2 _ _ hfo1
       have w2' : H2 D1 = some (.lst (((List.range c).filter (fun a => F a == true)).map g)) := w2
       left
       refine pe (a := fo) (xs := (List.range c).map g) [some (.ref D1)] (fun i ys H' => H' = H2 /\ ys = (((List.range c).take i).filter fun a => !(F a == true)).map g) rfl (by rw [List.length_map, sizeLine_eq, lrc]; omega) ⟨rfl, rfl⟩ (fun i ys H' _ h => by obtain ⟨e, _⟩ := h; subst e; exact SqL.of hfo2) (fun i ys H' h => by
        obtain ⟨_, e⟩ := h
        rw [e, List.length_map]
        exact Nat.le_trans (List.length_filter_le _ _) (by rw [List.length_take]; omega)) ?_ ?_
       . rintro i v ys z H3 hv ⟨rfl, rfl⟩
         obtain ⟨a, ha, rfl⟩ := getG hv
         have tn := BR.Ja ha
         have hac : a < c := List.mem_range.mp (List.mem_of_getElem? ha)
         left
         refine mv NM hac (fun b hb => List.mem_range.mp (List.mem_filter.mp hb).1) w2' ?_
         have em : decide (a ∈ (List.range c).filter (fun a => F a == true)) = (F a == true) := by
          cases q0 : (F a == true) with
          | true => exact decide_eq_true ((Gj (F := F) hac).2 q0)
          | false => exact decide_eq_false (fun y => by have := (Gj (F := F) hac).1 y; rw [q0] at this; cases this)
         rw [em]
         left
         cases q0 : (F a == true) with
         | true =>
          left
          refine ⟨⟨rfl, ?_⟩, _, rfl⟩
          rw [tn, List.filter_append, List.filter_cons_of_neg (by rw [q0]; decide), List.filter_nil, List.append_nil]
         | false =>
          left
          refine ⟨⟨rfl, ?_⟩, _, rfl⟩
          rw [tn, List.filter_append, List.filter_cons_of_pos (by rw [q0]; decide), List.filter_nil, Ih]
       rintro ys H3 ⟨rfl, rfl⟩ D2 hD2
       rw [List.length_map, List.take_length]
       have s3 := (Same.refl H3).new (o := .lst (((List.range c).filter fun a => !(F a == true)).map g)) hD2
       have w3 : upd H3 D2 (.lst (((List.range c).filter fun a => !(F a == true)).map g)) D2 = some (.lst (((List.range c).filter fun a => !(F a == true)).map g)) := ja
       generalize upd H3 D2 (.lst (((List.range c).filter fun a => !(F a == true)).map g)) = H4 at s3 w3 ⊢
       have w24 := s3 _ _ w2'
       have g1 := List.length_filter_le (fun a => F a == true) (List.range c)
       have g2 := List.length_filter_le (fun a => !(F a == true)) (List.range c)
       left
       refine Pe w24 w3 (by rw [List.length_map, List.length_map, sizeLine_eq]; omega) ?_
       intro D3 hD3
       rw [<- List.map_append]
       have hWc0 : ∀ b ∈ (((List.range c).filter (fun a => F a == true)) ++ ((List.range c).filter fun a => !(F a == true))), b < c := fun b hb => by
        rcases List.mem_append.mp hb with y | y
        . exact List.mem_range.mp (List.mem_filter.mp y).1
        . exact List.mem_range.mp (List.mem_filter.mp y).1
       generalize hW : ((List.range c).filter (fun a => F a == true)) ++ ((List.range c).filter fun a => !(F a == true)) = W at hWc0
       have hWc : ∀ b ∈ W, b < c := hWc0
       have s4 := (Same.refl H4).new (o := .lst (W.map g)) hD3
       have w4 : upd H4 D3 (.lst (W.map g)) D3 = some (.lst (W.map g)) := ja
       generalize upd H4 D3 (.lst (W.map g)) = H5 at s4 w4 ⊢
       have hp5 := (s2.tr (s3.tr s4)) _ _ hp1
       left
       refine ah w4 ?_
       intro D4 hD4
       rw [Ys, <- List.map_take]
       have s5 := (Same.refl H5).new (o := .lst ((W.take n).map g)) hD4
       have w5 : upd H5 D4 (.lst ((W.take n).map g)) D4 = some (lstG g (W.take n)) := ja
       generalize upd H5 D4 (.lst ((W.take n).map g)) = H6 at s5 w5 ⊢
       have S6 := s1.tr (s2.tr (s3.tr (s4.tr s5)))
       have hfo6 := S6 _ _ hfo'
       left
       refine pe (a := fo) (xs := (List.range c).map g) [some (.ref D4)] (fun i ys H' => H' = H6 /\ ys = (((List.range c).take i).filter fun a => decide (a ∈ W.take n)).map g) rfl (by rw [List.length_map, sizeLine_eq, lrc]; omega) ⟨rfl, rfl⟩ (fun i ys H' _ h => by obtain ⟨e, _⟩ := h; subst e; exact SqL.of hfo6) (fun i ys H' h => by
        obtain ⟨_, e⟩ := h
        rw [e, List.length_map]
        exact Nat.le_trans (List.length_filter_le _ _) (by rw [List.length_take]; omega)) ?_ ?_
       . rintro i v ys z H7 hv ⟨rfl, rfl⟩
         obtain ⟨a, ha, rfl⟩ := getG hv
         have tn := BR.Ja ha
         left
         refine r_inG NM (List.mem_range.mp (List.mem_of_getElem? ha)) (fun b hb => hWc b ((List.take_sublist _ _).subset hb)) w5 ?_
         left
         refine za (fun u => ?_) (fun u => ?_)
         . left
           refine ⟨⟨rfl, ?_⟩, _, rfl⟩
           rw [tn, List.filter_append, List.filter_cons_of_pos (by exact decide_eq_true u), List.filter_nil, Ih]
         . left
           refine ⟨⟨rfl, ?_⟩, _, rfl⟩
           rw [tn, List.filter_append, List.filter_cons_of_neg (by exact fun y => u (of_decide_eq_true y)), List.filter_nil, List.append_nil]
       rintro ys H7 ⟨rfl, rfl⟩ D5 hD5
       rw [List.length_map, List.take_length]
       refine k D5 _ (S6.new hD5) ?_
       rw [ja, pl_t hA, <- hW]
       rfl
     . by_cases hB : q <= l.length - BR.fr F l
       . rw [if_pos (show q <= l.length - on by omega)]
         left
         left
         refine ⟨rfl, ?_⟩
         rw [decide_eq_false (by intro z; cases z)]
         left
         refine ⟨rfl, ?_⟩
         rw [decide_eq_false (by intro z; cases z)]
         left
         refine pe (a := fo) (xs := (List.range c).map g) [some (.ref fr'), some (.bl false)] (fun i ys H' => H' = H1 /\ ys = (((List.range c).take i).filter (fun a => F a == false)).map g) rfl (by rw [List.length_map, sizeLine_eq, lrc]; omega) ⟨rfl, rfl⟩ (fun i ys H' _ h => by obtain ⟨e, _⟩ := h; subst e; exact SqL.of hfo1) (fun i ys H' h => by
          obtain ⟨_, e⟩ := h
          rw [e, List.length_map]
          exact Nat.le_trans (List.length_filter_le _ _) (by rw [List.length_take]; omega)) ?_ ?_
         . rintro i v ys z H' hv ⟨rfl, rfl⟩
           obtain ⟨a, ha, rfl⟩ := getG hv
           have tn := BR.Ja ha
           left
           refine Jo (NM.flat a) hfl hfr1 ?_
           rw [eFa]
           left
           by_cases u : (F a == false) = true
           . rw [u]
             left
             refine ⟨⟨rfl, ?_⟩, _, rfl⟩
             rw [tn, List.filter_append, List.filter_cons_of_pos (by exact u), List.filter_nil, Ih]
           . rw [show (F a == false) = false by simpa using u]
             left
             refine ⟨⟨rfl, ?_⟩, _, rfl⟩
             rw [tn, List.filter_append, List.filter_cons_of_neg (by exact u), List.filter_nil, List.append_nil]
         rintro ys H' ⟨rfl, rfl⟩ D1 hD1
         rw [List.length_map, List.take_length]
         have s2 := (Same.refl H').new (o := .lst (((List.range c).filter (fun a => F a == false)).map g)) hD1
         have w2 : upd H' D1 (.lst (((List.range c).filter (fun a => F a == false)).map g)) D1 = some (lstG g ((List.range c).filter (fun a => F a == false))) := ja
         generalize upd H' D1 (.lst (((List.range c).filter (fun a => F a == false)).map g)) = H2 at s2 w2 ⊢
         have hfo2 := s2 _ _ hfo1
         have w2' : H2 D1 = some (.lst (((List.range c).filter (fun a => F a == false)).map g)) := w2
         left
         refine pe (a := fo) (xs := (List.range c).map g) [some (.ref D1)] (fun i ys H' => H' = H2 /\ ys = (((List.range c).take i).filter fun a => !(F a == false)).map g) rfl (by rw [List.length_map, sizeLine_eq, lrc]; omega) ⟨rfl, rfl⟩ (fun i ys H' _ h => by obtain ⟨e, _⟩ := h; subst e; exact SqL.of hfo2) (fun i ys H' h => by
          obtain ⟨_, e⟩ := h
          rw [e, List.length_map]
          exact Nat.le_trans (List.length_filter_le _ _) (by rw [List.length_take]; omega)) ?_ ?_
         . rintro i v ys z H3 hv ⟨rfl, rfl⟩
           obtain ⟨a, ha, rfl⟩ := getG hv
           have tn := BR.Ja ha
           have hac : a < c := List.mem_range.mp (List.mem_of_getElem? ha)
           left
           refine mv NM hac (fun b hb => List.mem_range.mp (List.mem_filter.mp hb).1) w2' ?_
           have em : decide (a ∈ (List.range c).filter (fun a => F a == false)) = (F a == false) := by
            cases q0 : (F a == false) with
            | true => exact decide_eq_true ((Gj (F := F) hac).2 q0)
            | false => exact decide_eq_false (fun y => by have := (Gj (F := F) hac).1 y; rw [q0] at this; cases this)
           rw [em]
           left
           cases q0 : (F a == false) with
           | true =>
            left
            refine ⟨⟨rfl, ?_⟩, _, rfl⟩
            rw [tn, List.filter_append, List.filter_cons_of_neg (by rw [q0]; decide), List.filter_nil, List.append_nil]
           | false =>
            left
            refine ⟨⟨rfl, ?_⟩, _, rfl⟩
            rw [tn, List.filter_append, List.filter_cons_of_pos (by rw [q0]; decide), List.filter_nil, Ih]
         rintro ys H3 ⟨rfl, rfl⟩ D2 hD2
         rw [List.length_map, List.take_length]
         have s3 := (Same.refl H3).new (o := .lst (((List.range c).filter fun a => !(F a == false)).map g)) hD2
         have w3 : upd H3 D2 (.lst (((List.range c).filter fun a => !(F a == false)).map g)) D2 = some (.lst (((List.range c).filter fun a => !(F a == false)).map g)) := ja
         generalize upd H3 D2 (.lst (((List.range c).filter fun a => !(F a == false)).map g)) = H4 at s3 w3 ⊢
         have w24 := s3 _ _ w2'
         have g1 := List.length_filter_le (fun a => F a == false) (List.range c)
         have g2 := List.length_filter_le (fun a => !(F a == false)) (List.range c)
         left
         refine Pe w24 w3 (by rw [List.length_map, List.length_map, sizeLine_eq]; omega) ?_
         intro D3 hD3
         rw [<- List.map_append]
         have hWc0 : ∀ b ∈ (((List.range c).filter (fun a => F a == false)) ++ ((List.range c).filter fun a => !(F a == false))), b < c := fun b hb => by
          rcases List.mem_append.mp hb with y | y
          . exact List.mem_range.mp (List.mem_filter.mp y).1
          . exact List.mem_range.mp (List.mem_filter.mp y).1
         generalize hW : ((List.range c).filter (fun a => F a == false)) ++ ((List.range c).filter fun a => !(F a == false)) = W at hWc0
         have hWc : ∀ b ∈ W, b < c := hWc0
         have s4 := (Same.refl H4).new (o := .lst (W.map g)) hD3
         have w4 : upd H4 D3 (.lst (W.map g)) D3 = some (.lst (W.map g)) := ja
         generalize upd H4 D3 (.lst (W.map g)) = H5 at s4 w4 ⊢
         have hp5 := (s2.tr (s3.tr s4)) _ _ hp1
         left
         refine ah w4 ?_
         intro D4 hD4
         rw [Ys, <- List.map_take]
         have s5 := (Same.refl H5).new (o := .lst ((W.take n).map g)) hD4
         have w5 : upd H5 D4 (.lst ((W.take n).map g)) D4 = some (lstG g (W.take n)) := ja
         generalize upd H5 D4 (.lst ((W.take n).map g)) = H6 at s5 w5 ⊢
         have S6 := s1.tr (s2.tr (s3.tr (s4.tr s5)))
         have hfo6 := S6 _ _ hfo'
         left
         refine pe (a := fo) (xs := (List.range c).map g) [some (.ref D4)] (fun i ys H' => H' = H6 /\ ys = (((List.range c).take i).filter fun a => decide (a ∈ W.take n)).map g) rfl (by rw [List.length_map, sizeLine_eq, lrc]; omega) ⟨rfl, rfl⟩ (fun i ys H' _ h => by obtain ⟨e, _⟩ := h; subst e; exact SqL.of hfo6) (fun i ys H' h => by
          obtain ⟨_, e⟩ := h
          rw [e, List.length_map]
          exact Nat.le_trans (List.length_filter_le _ _) (by rw [List.length_take]; omega)) ?_ ?_
         . rintro i v ys z H7 hv ⟨rfl, rfl⟩
           obtain ⟨a, ha, rfl⟩ := getG hv
           have tn := BR.Ja ha
           left
           refine r_inG NM (List.mem_range.mp (List.mem_of_getElem? ha)) (fun b hb => hWc b ((List.take_sublist _ _).subset hb)) w5 ?_
           left
           refine za (fun u => ?_) (fun u => ?_)
           . left
             refine ⟨⟨rfl, ?_⟩, _, rfl⟩
             rw [tn, List.filter_append, List.filter_cons_of_pos (by exact decide_eq_true u), List.filter_nil, Ih]
           . left
             refine ⟨⟨rfl, ?_⟩, _, rfl⟩
             rw [tn, List.filter_append, List.filter_cons_of_neg (by exact fun y => u (of_decide_eq_true y)), List.filter_nil, List.append_nil]
         rintro ys H7 ⟨rfl, rfl⟩ D5 hD5
         rw [List.length_map, List.take_length]
         refine k D5 _ (S6.new hD5) ?_
         rw [ja, pl_f hA hB, <- hW]
         rfl
       . rw [if_neg (show ¬ q <= l.length - on by omega), if_neg (show ¬ q <= on by omega)]
         left
         cases w with
         | stay =>
          refine za (fun _ => ?_) (fun z => absurd rfl z)
          left
          refine k sa _ s1 ?_
          rw [pl_s hA hB]
          exact hsa1
         | council =>
          refine za (fun z => absurd z (by decide)) (fun _ => ?_)
          left
          refine za (fun _ => ?_) (fun z => absurd rfl z)
          left
          rw [List.length_map]
          refine aq (m := (List.range c).length) (by rw [lrc]; omega) (by rw [lrc]; omega) (by rw [lrc]; exact hx) fun pq H8 hpq s8 h8 => ?_
          have hpl8 := s8 _ _ hfo1
          have hbd : ∀ a ∈ pkL (List.range (List.range c).length) n x, a < (List.range c).length := fun a ha => List.mem_range.mp ((Dc _ _ _).subset ha)
          have pln := fc (List.range (List.range c).length) n x (by rw [List.length_range]; omega) (by rw [List.length_range]; rw [lrc]; exact hx)
          refine pe (a := pq) (xs := (zs (pkL (List.range (List.range c).length) n x)).map V.int) [some (.ref fo)] (fun i ys H' => H' = H8 /\ ys = (((pkL (List.range (List.range c).length) n x).take i).map fun i => (List.range c).getD i 0).map g) rfl (by rw [ua, sizeLine_eq]; omega) ⟨rfl, rfl⟩ (fun i ys H' _ h => by obtain ⟨e, _⟩ := h; subst e; exact SqL.of h8) (fun i ys H' h => by
           obtain ⟨_, e⟩ := h
           rw [e, List.length_map, List.length_map, List.length_take]; omega) ?_ ?_
          . rintro i v ys z H9 hv ⟨rfl, rfl⟩
            obtain ⟨a, ha, rfl⟩ := Za hv
            have tn := BR.Ja ha
            have hal := hbd a (List.mem_of_getElem? ha)
            obtain ⟨y, hy⟩ : ∃ y, (List.range c)[a]? = some y := ⟨_, List.getElem?_eq_getElem hal⟩
            left
            refine Ta (xs := (List.range c).map g) hpl8 (atG hy) ?_
            refine ⟨⟨rfl, ?_⟩, _, rfl⟩
            rw [tn, List.map_append, Ih]
            rw [show [a].map (fun i => (List.range c).getD i 0) = [y] by show [(List.range c).getD a 0] = [y]; rw [getD_some hy]]
          rintro ys H9 ⟨rfl, rfl⟩ D6 hD6
          rw [ua, List.take_length, Be]
          refine k D6 _ ((s1.tr s8).new hD6) ?_
          rw [ja, pl_c hA hB]
          rfl
         | bench =>
          refine za (fun z => absurd z (by decide)) (fun _ => ?_)
          left
          refine za (fun z => absurd z (by decide)) (fun _ => ?_)
          left
          rw [List.length_map]
          refine aq (m := l.length) (by omega) (f6 rfl) hx fun pq H8 hpq s8 h8 => ?_
          have hpl8 := s8 _ _ hsa1
          have hbd : ∀ a ∈ pkL (List.range l.length) n x, a < l.length := fun a ha => List.mem_range.mp ((Dc _ _ _).subset ha)
          have pln := fc (List.range l.length) n x (by rw [List.length_range]; exact f6 rfl) (by rw [List.length_range]; exact hx)
          refine pe (a := pq) (xs := (zs (pkL (List.range l.length) n x)).map V.int) [some (.ref sa)] (fun i ys H' => H' = H8 /\ ys = (((pkL (List.range l.length) n x).take i).map fun i => l.getD i 0).map g) rfl (by rw [ua, sizeLine_eq]; omega) ⟨rfl, rfl⟩ (fun i ys H' _ h => by obtain ⟨e, _⟩ := h; subst e; exact SqL.of h8) (fun i ys H' h => by
           obtain ⟨_, e⟩ := h
           rw [e, List.length_map, List.length_map, List.length_take]; omega) ?_ ?_
          . rintro i v ys z H9 hv ⟨rfl, rfl⟩
            obtain ⟨a, ha, rfl⟩ := Za hv
            have tn := BR.Ja ha
            have hal := hbd a (List.mem_of_getElem? ha)
            obtain ⟨y, hy⟩ : ∃ y, l[a]? = some y := ⟨_, List.getElem?_eq_getElem hal⟩
            left
            refine Ta (xs := l.map g) hpl8 (atG hy) ?_
            refine ⟨⟨rfl, ?_⟩, _, rfl⟩
            rw [tn, List.map_append, Ih]
            rw [show [a].map (fun i => l.getD i 0) = [y] by show [l.getD a 0] = [y]; rw [getD_some hy]]
          rintro ys H9 ⟨rfl, rfl⟩ D6 hD6
          rw [ua, List.take_length, Be]
          refine k D6 _ ((s1.tr s8).new hD6) ?_
          rw [ja, pl_b hA hB]
          rfl
theorem rm (T : Txt mg) (U : Up K mg "_law_parted" Gf ["_law_count", "_law_row", "_law_number"]) (C_l_bounds : Ee P w K mg base) : Wf P w K mg base := by
 have sc := Nl
 refine Callee.of (k := 2) U sc (fun vs H Q E h => ?_) (fun f cdv A outer s H vs Q E hr h => ?_)
 . obtain ⟨c, a, ps, rs, N, rfl, _⟩ := h; rfl
 . obtain ⟨c, a, ps, rs, N, rfl, R, q⟩ := h
   have hu := hr.units
   conv in (Ha _) => whnf
   with_reducible refine ⟨_, (ba (xa (i := 3) ‹sc.nd› ‹rfl› ‹Or.inl rfl› (ab da)) (ba (jb PassesOwn.never ‹rfl› (piLK (K := K) ‹rfl› (Se (K := K) ‹rfl› (pe_c ‹C_l_bounds› ‹hr.mono (by decide)› ‹rfl› (aa (pv 0) (aa (pv 1) da))) (Qe wc qa))) (Aa (i := 4) ‹sc.nd› ‹rfl› ‹Or.inl rfl›) (ba (ib (md ‹PySem.F.plainAttrs_list› ‹PySem.F.slot_list_insert› ‹PySem.F.type_list_insert› ‹So› (pv 3) (aa qa (aa (Ma si (pv 2) (pv 4)) da)))) (ka (xa (i := 2) ‹sc.nd› ‹rfl› ‹Or.inl rfl› (Ma Nb (pv 2) (pv 4)))))) (ka (Ea (pv 3))))), ?_⟩
   rw [show L2.start ["_law_count", "_law_row", "_law_number", "_law_found", "_law_many"] [V.int c, V.ref a, V.int N] = [some (V.int c), some (V.ref a), some (V.int N), none, none] from rfl]
   left
   intro fa hfa
   have s0 := (Same.refl H).new (o := .lst []) hfa
   have R0 := R.same s0
   have a0 : upd H fa (.lst []) fa = some (.lst []) := ja
   generalize upd H fa (.lst []) = H0 at s0 R0 a0 ⊢
   left
   refine Jb R0 fun p H1 hp s1 hp1 => ?_
   have a1 := s1 _ _ a0
   left
   have c2 := R.c2
   have pos := Rf R.ft (Nat.le_refl _)
   have lt := qd R.ft (Nat.le_refl _) (by omega)
   have ln := R.ln
   have dl := wb c rs c
   generalize hD : drs c c rs = L at *
   refine dh (xs := (zs L).map V.int) hp1 ?_
   intro pr hpr
   have s2 := (Same.refl H1).new (o := .lst ((zs L).map V.int).reverse) hpr
   have a2 := s2 _ _ a1
   have h2 : upd H1 pr (.lst ((zs L).map V.int).reverse) pr = some (.lst ((zs L).map V.int).reverse) := ja
   have nfp : fa ≠ pr := oa a1 hpr
   have S2 := (s0.tr s1).tr s2
   generalize upd H1 pr (.lst ((zs L).map V.int).reverse) = H2 at s2 a2 h2 S2 ⊢
   refine forL (a := pr) (xs := ((zs L).map V.int).reverse) (fun i σ' H' => i <= L.length /\ Fr1 fa H2 H' /\ H' fa = some (lstN (Uc (L.drop (L.length - i)) N)) /\ ∃ x : Option V, σ' = [some (.int c), some (.ref a), some (.int ((N / Ba (L.drop (L.length - i)) : Nat) : Int)), some (.ref fa), x]) ⟨Nat.zero_le _, Fr1.refl _ _, by rw [Nat.sub_zero, List.drop_length]; exact a2, none, by rw [Nat.sub_zero, List.drop_length]; show _ = [some (V.int c), some (V.ref a), some (V.int ((N / 1 : Nat) : Int)), some (V.ref fa), none]; rw [Nat.div_one]; rfl⟩ (fun i σ' H' _ h => by obtain ⟨_, fr, _⟩ := h; exact SqL.of (fr.get h2 nfp.symm)) ?_ ?_
   . rintro i x σ' H' hi ⟨_, fr, hf, x1, rfl⟩
     have hil : i < L.length := by
      have := (List.getElem?_eq_some_iff.mp hi).1
      rw [List.length_reverse, ua] at this
      exact this
     obtain ⟨j, hj⟩ : ∃ j, j = L.length - 1 - i := ⟨_, rfl⟩
     obtain ⟨m, hm, rfl⟩ : ∃ m, L[j]? = some m /\ V.int (m : Nat) = x := by
      rw [List.getElem?_reverse (by rw [ua]; exact hil), ua, <- hj] at hi
      unfold zs at hi
      rw [List.getElem?_map, List.getElem?_map] at hi
      cases w : L[j]? with
      | none => rw [w] at hi; cases hi
      | some n => rw [w] at hi; exact ⟨n, rfl, Option.some.inj hi⟩
     have b2 := lt m (List.mem_of_getElem? hm)
     have m0 := pos m (List.mem_of_getElem? hm)
     have e1 : L.length - (i + 1) = j := by omega
     have e2 : L.length - i = j + 1 := by omega
     rw [e2] at hf ⊢
     have cd : qg ((N / Ba (L.drop (j + 1)) : Nat) : Int) ((m : Nat) : Int) := qg.of 512 (by omega) (by rw [Int.natAbs_natCast]; exact b2) (by decide)
     have dd : Uc (L.drop j) N = N / Ba (L.drop (j + 1)) % m :: Uc (L.drop (j + 1)) N := by
      have hi' : j < L.length := (List.getElem?_eq_some_iff.mp hm).1
      rw [List.drop_eq_getElem_cons hi']
      rw [List.getElem?_eq_getElem hi'] at hm
      rw [Option.some.inj hm]
      rfl
     have hf2 : H' fa = some (.lst ((zs (Uc (L.drop (j + 1)) N)).map V.int)) := hf
     left
     refine ar hf2 (by rw [ua, me, List.length_drop, sizeLine_eq]; omega) ?_
     left
     refine ⟨by omega, fr.upd, ?_, some (.int m), ?_⟩
     . rw [ja, e1, dd]
       rfl
     . rw [e1, Nk N hm]
       rfl
   . rintro σ' H' ⟨_, fr, hf, x1, rfl⟩
     rw [List.length_reverse, ua, Nat.sub_self, List.drop_zero] at hf
     left
     exact q fa _ hfa (fun b o hb => fr.get (S2 _ _ hb) (oa hb hfa)) hf
theorem Dk (T : Txt mg) (U : Up K mg "_law_benches" Le ["_law_folk", "_law_friends", "_law_row", "_law_number"]) (C_l_pick : Gg P w K mg base) (C_l_voted : Bh P w K mg base) (C_l_parted : Wf P w K mg base) : af P w K mg base := by
 have sc := wk
 refine Callee.of (k := 3) U sc (fun vs H Q E h => ?_) (fun f cdv A outer s H vs Q E hr h => ?_)
 . obtain ⟨g, fo, fr', a, c, fv, ps, rs, N, rfl, _⟩ := h; rfl
 . obtain ⟨g, fo, fr', a, c, fv, ps, rs, N, rfl, NM, hfo, hfr, hfl, R, k⟩ := h
   have hu := hr.units
   obtain ⟨F0, eF⟩ : ∃ F : Nat -> Bool, (fun a => inV (g a) fv) = F := ⟨_, rfl⟩
   rw [eF] at k
   have rlt : ∀ a ∈ List.range c, a < c := fun a h => List.mem_range.mp h
   have c1 := R.c1
   have c2 := R.c2
   have ln := R.ln
   have rl := R.rw.ln
   have lrc : (List.range c).length = c := List.length_range
   have hfo' : H fo = some (.lst ((List.range c).map g)) := hfo
   have hfr' : H fr' = some (.lst fv) := hfr
   conv in (Ha _) => whnf
   with_reducible refine ⟨_, (ba (xa (i := 4) ‹sc.nd› ‹rfl› ‹Or.inr rfl› (Zb (Wo (K := K) ‹rfl›) ‹rfl› ‹T.b_list› Xe (aa (pv 0) da))) (ba (xa (i := 5) ‹sc.nd› ‹rfl› ‹Or.inl rfl› (ab da)) (ba (xa (i := 6) ‹sc.nd› ‹rfl› ‹Or.inl rfl› (pe_c ‹C_l_parted› ‹hr.mono (by decide)› ‹rfl› (aa (Ga (lenK (K := K) ‹rfl›) ‹rfl› ‹T.b_len› Va (aa (pv 0) da)) (aa (pv 2) (aa (pv 3) da))))) (ba (jb PassesOwn.never ‹rfl› (Cb ‹rfl› ‹T.b_range› (aa (Ga (lenK (K := K) ‹rfl›) ‹rfl› ‹T.b_len› Va (aa (pv 2) da)) da)) (Aa (i := 7) ‹sc.nd› ‹rfl› ‹Or.inl rfl›) (Yb (Sa (va (eqK (K := K) ‹rfl› ‹hu›) (Na (ixK (K := K) ‹rfl›) (Na (ixK (K := K) ‹rfl›) (pv 2) (pv 7) ‹fun _ _ => rfl›) qa ‹fun _ _ => rfl›) Ra ‹Ca _›) (ka (xa (i := 4) ‹sc.nd› ‹rfl› ‹Or.inr rfl› (Te ["_law_sat"] ["_law_place"] [4] (by with_unfolding_all rfl) ‹rfl› ‹rfl› (piLK (K := K) ‹rfl› (pe_c ‹C_l_pick› ‹hr.mono (by decide)› ‹rfl› (aa (Ga (lenK (K := K) ‹rfl›) ‹rfl› ‹T.b_len› Va (aa (pv 4) da)) (aa (Na (ixK (K := K) ‹rfl›) (Na (ixK (K := K) ‹rfl›) (pv 2) (pv 7) ‹fun _ _ => rfl›) qa ‹fun _ _ => rfl›) (aa (Na (ixK (K := K) ‹rfl›) (pv 6) (pv 7) ‹fun _ _ => rfl›) da))))) (by decide) ‹rfl› (by decide) ‹⟨rfl, trivial⟩› (by with_unfolding_all rfl) (fun _ => ‹⟨cap1 rfl rfl rfl rfl, trivial⟩›) (fun _ _ _ _ => (Aa (i := 1) ‹show List.Nodup (["_law_sat", "_law_place"] : List Str) from by decide +kernel› ‹rfl› ‹Or.inl rfl› ‹.inr rfl›)) (fun _ _ _ _ => Lb) (fun _ _ _ _ => (Na (ixK (K := K) ‹rfl›) (pv 0) (pv 1) ‹fun _ _ => rfl›))))) (ka (xa (i := 4) ‹sc.nd› ‹rfl› ‹Or.inr rfl› (pe_c ‹C_l_voted› ‹hr.mono (by decide)› ‹rfl› (aa (pv 0) (aa (pv 1) (aa (pv 4) (aa (Na (ixK (K := K) ‹rfl›) (pv 2) (pv 7) ‹fun _ _ => rfl›) (aa (Na (ixK (K := K) ‹rfl›) (pv 6) (pv 7) ‹fun _ _ => rfl›) da))))))))) (ka (ib (md ‹PySem.F.plainAttrs_list› ‹PySem.F.slot_list_append› ‹PySem.F.type_list_append› ‹cb› (pv 5) (aa (pv 4) da)))))) (ka (Ea (pv 5))))))), ?_⟩
   rw [show L2.start ["_law_folk", "_law_friends", "_law_row", "_law_number", "_law_sat", "_law_found", "_law_numbers", "_law_k"] [V.ref fo, V.ref fr', V.ref a, V.int N] = [some (V.ref fo), some (V.ref fr'), some (V.ref a), some (V.int N), none, none, none, none] from rfl]
   left
   refine Kf (xs := (List.range c).map g) (SqL.of hfo') ?_
   intro sa hsa
   have s1 := (Same.refl H).new (o := .lst ((List.range c).map g)) hsa
   have w1 : upd H sa (.lst ((List.range c).map g)) sa = some (lstG g (List.range c)) := ja
   generalize upd H sa (.lst ((List.range c).map g)) = H1 at s1 w1 ⊢
   left
   intro fa hfa
   have s2 := (Same.refl H1).new (o := .lst []) hfa
   have w2 : upd H1 fa (.lst []) fa = some (.lst []) := ja
   have S2 := s1.tr s2
   have w12 := s2 _ _ w1
   have nf : H fa = none := s1.free hfa
   have nsf : sa ≠ fa := oa w1 hfa
   generalize upd H1 fa (.lst []) = H2 at s2 w2 S2 w12 ⊢
   have hfo2 := S2 _ _ hfo'
   have R2 := R.same S2
   left
   rw [List.length_map, lrc]
   refine sq R2 fun pn H3 hpn s3 h3 => ?_
   have S3 := S2.tr s3
   have w23 := s3 _ _ w2
   have w13 := s3 _ _ w12
   have npf : pn ≠ fa := fun z => by rw [z, w2] at hpn; cases hpn
   have dl := wb c rs c
   have gl := me (drs c c rs) N
   left
   refine ni (xs := ps.map V.ref) (S3 _ _ R.rw.ls) ?_
   rw [List.length_map, rl]
   refine forR (fun i σ' H' => ∃ (sb : Addr) (qs : List Addr) (o : Option V), i <= rs.length /\ Fr1 fa H3 H' /\ TsAt (lstG g) H' fa qs ((plA c F0 (List.range c) rs N).take i) /\ sb ≠ fa /\ H' sb = some (lstG g (plB c F0 (List.range c) rs N i)) /\ σ' = [some (.ref fo), some (.ref fr'), some (.ref a), some (.int N), some (.ref sb), some (.ref fa), some (.ref pn), o]) (by omega) (by omega) ⟨sa, [], none, Nat.zero_le _, Fr1.refl _ _, ⟨w23, fun i p z => by simp at z, rfl⟩, nsf, w13, rfl⟩ ?_ ?_
   . rintro i σ' H' hi ⟨sb, qs, o, _, fr, F, nsb, hsb, rfl⟩
     have hi' : i < rs.length := by omega
     obtain ⟨r, hr'⟩ : ∃ r, rs[i]? = some r := ⟨rs[i], by simp⟩
     obtain ⟨p, r0, hat, hr0, ho⟩ := R.rw.ix hi'
     have er : r0 = r := by rw [hr'] at hr0; exact (Option.some.inj hr0).symm
     subst er
     obtain ⟨nx, nl⟩ := vg (F := F0) (N := N) (i := i) lrc R.ft (Nat.le_refl _) hr'
     have fit := R.ft.at hr'
     have lb := zb (R.ft.take i) c1 (Nat.le_refl _)
     have nsafe : ∀ (b : Addr) (o : HO), H b = some o -> H' b = some o := fun b o hb => fr.get (S3 _ _ hb) (oa hb nf)
     have ha' := nsafe _ _ R.rw.ls
     have hp' := nsafe _ _ ho
     have hfo3 := nsafe _ _ hfo
     have hfr3 := nsafe _ _ hfr
     have hpn3 : H' pn = some (.lst ((zs (Uc (drs c c rs) N)).map V.int)) := fr.get h3 npf
     obtain ⟨m, hm⟩ : ∃ m, (drs c c rs)[i]? = some m := ⟨(drs c c rs)[i]'(by omega), by simp⟩
     have em : m = dr c (Qa c (rs.take i)) r0 := Pj hr' hm
     have hdig := qh (n := N) hm
     have m0 := Md lb.2 fit
     have hxm : N / Ba ((drs c c rs).drop (i + 1)) % m < m := Nat.mod_lt _ (by rw [em]; exact m0)
     rw [<- em] at nx
     rw [<- nl] at fit em
     generalize hB : plB c F0 (List.range c) rs N i = B at *
     generalize hX : N / Ba ((drs c c rs).drop (i + 1)) % m = x at *
     have hsb' : H' sb = some (.lst (B.map g)) := hsb
     have hBl : ∀ a ∈ B, a < c := by rw [<- hB]; exact zr rlt
     have pll := ic (F := F0) (x := x) fit (by rw [<- em]; exact hxm)
     have npos := fit.pos
     left
     refine mf (fun σ' H'' => ∃ z : Addr, Same H' H'' /\ H'' z = some (lstG g (pl c F0 B r0 x)) /\ σ' = [some (.ref fo), some (.ref fr'), some (.ref a), some (.int N), some (.ref z), some (.ref fa), some (.ref pn), some (.int i)]) ?_ ?_
     . cases r0 with
       | lot n =>
        have hp2 : H' p = some (.tup [.str "lot", .int n]) := hp'
        left
        refine Ta ha' hat ?_
        left
        refine za (fun _ => ?_) (fun z => absurd rfl z)
        left
        rw [List.length_map]
        refine Ta ha' hat ?_
        left
        refine Ta hpn3 (Ab hdig) ?_
        left
        have fn : n <= B.length := fit.2.2
        have hx' : x < MB.ch B.length n := by rw [em] at hxm; exact hxm
        refine aq (m := B.length) (by omega) fn hx' fun pq H8 hpq s8 h8 => ?_
        have hpl8 := s8 _ _ hsb'
        have hbd : ∀ a ∈ pkL (List.range B.length) n x, a < B.length := fun a ha => List.mem_range.mp ((Dc _ _ _).subset ha)
        have pln := fc (List.range B.length) n x (by rw [List.length_range]; exact fn) (by rw [List.length_range]; exact hx')
        refine pe (a := pq) (xs := (zs (pkL (List.range B.length) n x)).map V.int) [some (.ref sb)] (fun i ys H' => H' = H8 /\ ys = (((pkL (List.range B.length) n x).take i).map fun i => B.getD i 0).map g) rfl (by rw [ua, sizeLine_eq]; omega) ⟨rfl, rfl⟩ (fun i ys H' _ h => by obtain ⟨e, _⟩ := h; subst e; exact SqL.of h8) (fun i ys H' h => by
         obtain ⟨_, e⟩ := h
         rw [e, List.length_map, List.length_map, List.length_take]; omega) ?_ ?_
        . rintro i2 v ys z H9 hv ⟨rfl, rfl⟩
          obtain ⟨a2, ha2, rfl⟩ := Za hv
          have tn := BR.Ja ha2
          have hal := hbd a2 (List.mem_of_getElem? ha2)
          obtain ⟨y, hy⟩ : ∃ y, B[a2]? = some y := ⟨_, List.getElem?_eq_getElem hal⟩
          left
          refine Ta (xs := B.map g) hpl8 (atG hy) ?_
          refine ⟨⟨rfl, ?_⟩, _, rfl⟩
          rw [tn, List.map_append, Ih]
          rw [show [a2].map (fun i => B.getD i 0) = [y] by show [B.getD a2 0] = [y]; rw [getD_some hy]]
        . rintro ys H9 ⟨rfl, rfl⟩ D6 hD6
          rw [ua, List.take_length, Be]
          left
          exact ⟨D6, s8.new hD6, ja, rfl⟩
       | vote n q w =>
        have hp2 : H' p = some (.tup [.str "vote", .int n, .int q, .str (wdS w)]) := hp'
        left
        refine Ta ha' hat ?_
        left
        refine za (fun z => absurd z (by decide)) (fun _ => ?_)
        left
        refine Ta ha' hat ?_
        left
        refine Ta hpn3 (Ab hdig) ?_
        left
        refine Ao NM hfo3 hfr3 hfl hsb hBl hp' (by omega) (by omega) fit (by rw [<- em]; exact hxm) fun z H8 s8 h8 => ?_
        rw [eF] at h8
        left
        exact ⟨z, s8, h8, rfl⟩
     . rintro σ'' H'' ⟨z, s8, h8, rfl⟩
       have F8 := F.same s8
       have hf8 := F8.ls
       have nz : z ≠ fa := Tn NM NM.noref h8 hf8 (by omega)
       have ql := F.ln
       left
       refine gb (xs := qs.map V.ref) hf8 (by rw [List.length_map, ql, List.length_take, Nf, sizeLine_eq]; omega) ?_
       have fr8 : Fr1 fa H3 H'' := fr.same s8
       refine ⟨z, qs ++ [z], some (.int i), by omega, fr8.upd, ?_, nz, ?_, rfl⟩
       . have e9 := BR.Ja nx
         rw [e9]
         refine ⟨by rw [ja, List.map_append]; rfl, fun j b hj => ?_, by rw [List.length_append, List.length_append, ql]; rfl⟩
         by_cases hjl : j < qs.length
         . rw [List.getElem?_append_left hjl] at hj
           obtain ⟨l', g1, g2⟩ := F8.it j b hj
           have nb : b ≠ fa := by
            have := (List.getElem?_eq_some_iff.mp g1).1
            obtain ⟨rj, hrj⟩ : ∃ r, rs[j]? = some r := ⟨rs[j]'(by rw [List.length_take, Nf] at this; omega), by simp⟩
            obtain ⟨nxj, nlj⟩ := vg (F := F0) (N := N) (i := j) lrc R.ft (Nat.le_refl _) hrj
            have lbj := zb (R.ft.take j) c1 (Nat.le_refl _)
            have fj := R.ft.at hrj
            have g1' : (plA c F0 (List.range c) rs N)[j]? = some l' := by
             rw [List.getElem?_take] at g1
             split at g1
             . exact g1
             . cases g1
            rw [nxj] at g1'
            have el := Option.some.inj g1'
            rw [<- nlj] at fj lbj
            have pj := ic (F := F0) (x := N / Ba ((drs c c rs).drop (j + 1)) % dr c (Qa c (rs.take j)) rj) fj (by rw [nlj]; exact Nat.mod_lt _ (Md (by omega) (by rw [<- nlj]; exact fj)))
            rw [el] at pj
            exact Tn NM NM.noref g2 hf8 (by have := fj.pos; omega)
           exact ⟨l', by rw [List.getElem?_append_left (by have := (List.getElem?_eq_some_iff.mp g1).1; omega)]; exact g1, by rw [La nb]; exact g2⟩
         . rw [List.getElem?_append_right (by omega)] at hj
           have e : j - qs.length = 0 := by
            cases w : j - qs.length with
            | zero => rfl
            | succ k => rw [w] at hj; simp at hj
           rw [e] at hj
           have ez : z = b := by simpa using hj
           subst ez
           refine ⟨pl c F0 B r0 x, ?_, by rw [La nz]; exact h8⟩
           rw [List.getElem?_append_right (by omega), <- ql, e]
           rfl
       . rw [La nz, Ln nx]
         exact h8
   . rintro σ' H' ⟨sb, qs, o, _, fr, F, nsb, hsb, rfl⟩
     left
     rw [show ((rs.length : Int)).toNat = rs.length by omega, List.take_of_length_le (by rw [Nf]; exact Nat.le_refl _)] at F
     exact k fa _ qs (fun b o hb => fr.get (S3 _ _ hb) (oa hb nf)) F
theorem ok_law (T : Txt mg) {f : Addr} {fd : FuncData} (U : Fun K "law" "law" Vt f fd) (C_friendly : Xf P w K mg base) (C_unfriendly : ve P w K mg base) (C_place_of : Tf P w K mg base) (C_l_begin : Eh P w K mg base) (C_l_take : De P w K mg base) (C_l_int : Nm P w K mg base) (C_l_whole_row : Hd P w K mg base) (C_l_all : Om P w K mg base) (C_l_benches : af P w K mg base) : FnOk P w K mg base CX0 13 f fd ["_law_script"] (rq K) := by
 have sc := sc_law
 refine U.ok (k := 12) sc (fun vs H Q E h => ?_) (fun cdv A outer s H vs Q E hr h => ?_)
 . exact oq h
 . obtain ⟨a, ns, rfl, hS, hn, q⟩ := h
   have hu := hr.units
   conv in (Ha _) => whnf
   with_reducible refine ⟨_, (ba (xa (i := 1) ‹sc.nd› ‹rfl› ‹Or.inr rfl› (pe_c ‹C_l_begin› ‹hr.mono (by decide)› ‹rfl› (aa (pv 0) da))) (ba (xa (i := 2) ‹sc.nd› ‹rfl› ‹Or.inl rfl› (Ma (Hx (K := K) ‹rfl›) qa (pe_c ‹C_l_take› ‹hr.mono (by decide)› ‹rfl› (aa (pv 1) (aa qa da))))) (ba (xa (i := 3) ‹sc.nd› ‹rfl› ‹Or.inl rfl› (pe_c ‹C_l_whole_row› ‹hr.mono (by decide)› ‹rfl› (aa (pv 1) (aa (pv 2) (aa qa (aa qa da)))))) (Yb (Sa (va xj (pe_c ‹C_l_all› ‹hr.mono (by decide)› ‹rfl› (aa (pv 2) (aa (pv 3) da))) qa ‹Ca _›) (ka (xa (i := 3) ‹sc.nd› ‹rfl› ‹Or.inl rfl› (ab (aa (kd (aa Ra (aa qa da))) da)))) Ka) (ba (oi [] ["_law_k"] [] (Aa (i := 4) ‹sc.nd› ‹rfl› ‹Or.inl rfl›) (by with_unfolding_all rfl) ‹rfl› ‹rfl› (Cb ‹rfl› ‹T.b_range› (aa (pv 2) da)) (by decide) ‹rfl› (by decide) ‹trivial› (by with_unfolding_all rfl) (fun _ => ‹trivial›) (fun _ _ _ _ => (Aa (i := 0) ‹show List.Nodup (["_law_k"] : List Str) from by decide +kernel› ‹rfl› ‹Or.inl rfl› ‹.inr rfl›)) (fun _ _ _ _ => Lb) (fun _ _ _ _ => (Ma (Hx (K := K) ‹rfl›) (Na (ixCK (K := K) ‹rfl›) Ra (pv 0) ‹fun _ _ => rfl›) Ra))) (ba (oi ["_law_draw"] ["_law_name"] [1] (Aa (i := 5) ‹sc.nd› ‹rfl› ‹Or.inl rfl›) (by with_unfolding_all rfl) ‹rfl› ‹rfl› (piLK (K := K) ‹rfl› (pv 4)) (by decide) ‹rfl› (by decide) ‹⟨rfl, trivial⟩› (by with_unfolding_all rfl) (fun _ => ‹⟨cap1 rfl rfl rfl rfl, trivial⟩›) (fun _ _ _ _ => (Aa (i := 1) ‹show List.Nodup (["_law_draw", "_law_name"] : List Str) from by decide +kernel› ‹rfl› ‹Or.inl rfl› ‹.inr rfl›)) (fun _ _ _ _ => (Vd (va (eqK (K := K) ‹rfl› ‹hu›) (pe_c ‹C_l_take› ‹hr.mono (by decide)› ‹rfl› (aa (pv 0) (aa qa da))) qa ‹Ca _›))) (fun _ _ _ _ => (pv 1))) (ba (xa (i := 6) ‹sc.nd› ‹rfl› ‹Or.inl rfl› (ab da)) (ba (xa (i := 7) ‹sc.nd› ‹rfl› ‹Or.inl rfl› (ab da)) (ba (jb PassesOwn.never ‹rfl› (Cb ‹rfl› ‹T.b_range› (aa (pe_c ‹C_l_all› ‹hr.mono (by decide)› ‹rfl› (aa (pv 2) (aa (pv 3) da))) da)) (Aa (i := 8) ‹sc.nd› ‹rfl› ‹Or.inl rfl›) (ba (xa (i := 9) ‹sc.nd› ‹rfl› ‹Or.inl rfl› (Na (ixCK (K := K) ‹rfl›) (Ma (Hx (K := K) ‹rfl›) (ab (aa (pv 4) da)) (pe_c ‹C_l_benches› ‹hr.mono (by decide)› ‹rfl› (aa (pv 4) (aa (pv 5) (aa (pv 3) (aa (pv 8) da)))))) (Qe wc qa) ‹fun _ _ => rfl›)) (ba (xa (i := 10) ‹sc.nd› ‹rfl› ‹Or.inl rfl› (pe_c ‹C_place_of› ‹hr.mono (by decide)› ‹rfl› (aa (pv 4) (aa (pv 5) (aa (pv 3) (aa (pv 8) da)))))) (ba (Sa (PW.pt (Nd (rf (truK (K := K) ‹rfl› (Ga (isiK (K := K) ‹rfl›) ‹rfl› ‹T.b_isinstance› qc (aa (pv 10) (aa (vj ‹rfl› ‹T.b_tuple› Tj (v := .ty "tuple") ‹rfl›) da))))) (Nd (va (neK (K := K) ‹rfl› ‹hu›) (Ga (lenK (K := K) ‹rfl›) ‹rfl› ‹T.b_len› Va (aa (pv 10) da)) qa ‹Ca _›) (Nd (rf (truK (K := K) ‹rfl› (Ga (isiK (K := K) ‹rfl›) ‹rfl› ‹T.b_isinstance› qc (aa (Na (ixCK (K := K) ‹rfl›) (pv 10) qa ‹fun _ _ => rfl›) (aa (vj ‹rfl› ‹T.b_bool› wt (v := .ty "bool") ‹rfl›) da))))) (Cc (rf (truK (K := K) ‹rfl› (pe_c ‹C_l_int› ‹hr.mono (by decide)› ‹rfl› (aa (Na (ixCK (K := K) ‹rfl›) (pv 10) qa ‹fun _ _ => rfl›) da))))))))) (ka (Ea Tc)) Ka) (ka (Sa (va (inK (K := K) ‹rfl›) (Na (ixCK (K := K) ‹rfl›) (pv 9) qa ‹fun _ _ => rfl›) (pv 5) ‹rfl›) (ba (ib (md ‹PySem.F.plainAttrs_list› ‹PySem.F.slot_list_append› ‹PySem.F.type_list_append› ‹cb› (pv 6) (aa (pv 8) da))) (ka (Sa (PW.pt (Nd (va (neK (K := K) ‹rfl› ‹hu›) (pv 10) (kd (aa Tc (aa (Ma Ya (Ga (lenK (K := K) ‹rfl›) ‹rfl› ‹T.b_len› Va (aa (pv 6) da)) qa) da))) ‹Ca _›) (Cc (va (neK (K := K) ‹rfl› ‹hu›) (pe_c ‹C_friendly› ‹hr.mono (by decide)› ‹rfl› (aa (pv 4) (aa (pv 5) (aa (pv 3) (aa (Ma Ya (Ga (lenK (K := K) ‹rfl›) ‹rfl› ‹T.b_len› Va (aa (pv 6) da)) qa) da))))) (pv 8) ‹Ca _›)))) (ka (Ea Tc)) Ka))) (ba (ib (md ‹PySem.F.plainAttrs_list› ‹PySem.F.slot_list_append› ‹PySem.F.type_list_append› ‹cb› (pv 7) (aa (pv 8) da))) (ka (Sa (PW.pt (Nd (va (neK (K := K) ‹rfl› ‹hu›) (pv 10) (kd (aa Tc (aa (Ma Ya (Ga (lenK (K := K) ‹rfl›) ‹rfl› ‹T.b_len› Va (aa (pv 7) da)) qa) da))) ‹Ca _›) (Cc (va (neK (K := K) ‹rfl› ‹hu›) (pe_c ‹C_unfriendly› ‹hr.mono (by decide)› ‹rfl› (aa (pv 4) (aa (pv 5) (aa (pv 3) (aa (Ma Ya (Ga (lenK (K := K) ‹rfl›) ‹rfl› ‹T.b_len› Va (aa (pv 7) da)) qa) da))))) (pv 8) ‹Ca _›)))) (ka (Ea Tc)) Ka))))))))) (ka (Ea Tc))))))))))), ?_⟩
   rw [show L2.start ["_law_script", "_law_draw", "_law_count", "_law_row", "_law_folk", "_law_friends", "_law_good", "_law_ill", "_law_number", "_law_sat", "_law_told"] [V.ref a] = [some (V.ref a), none, none, none, none, none, none, none, none, none, none] from rfl]
   left
   refine Aq hS fun d l H1 hd hl D1 s1 => ?_
   left
   refine Ub D1 (by omega) (by omega) fun g1 H2 g10 g11 D2 f2 => ?_
   obtain ⟨c, hc, c1, c2⟩ : ∃ c : Nat, 1 + g1 = (c : Int) /\ 1 <= c /\ c <= 6 := ⟨(1 + g1).toNat, by omega, by omega, by omega⟩
   left
   refine Lw ?_
   left
   rw [hc]
   refine fk (k := 3) (m := 4) D2 c1 (by omega) (by decide) (by decide) (by decide) fun b0 H3 ps0 rs0 R3 hlen0 hw0 D3 f3 hb0 => ?_
   have nb0 : b0 ≠ d := (D2.ne hb0).1
   left
   refine mf (fun σ' H' => ∃ (b : Addr) (ps : List Addr) (rs : List Rn), CR H' b ps c rs /\ Qa c rs = 1 /\ rs.length <= 4 /\ b ≠ d /\ DrL H' d l /\ allD c rs <= 700 /\ σ' = [some (.ref a), some (.ref d), some (.int c), some (.ref b), none, none, none, none, none, none, none]) ?_ ?_
   . left
     refine Lg R3 fun H4 s4 => ?_
     left
     refine za (fun z => ?_) (fun z => ?_)
     . left
       intro pt hpt
       have s5 := (Same.refl H4).new (o := .tup [.str "lot", .int 1]) hpt
       have w5 : upd H4 pt (.tup [.str "lot", .int 1]) pt = some (rnO (.lot 1)) := ja
       generalize upd H4 pt (.tup [.str "lot", .int 1]) = H5 at s5 w5 ⊢
       left
       intro pl' hpl
       have np := ((D3.same (s4.tr s5)).ne hpl).1
       left
       refine ⟨pl', [pt], [.lot 1], ⟨⟨ja, fun i p hp => ?_, rfl⟩, c1, by omega, ⟨⟨by decide, by decide, c1⟩, trivial⟩, by decide⟩, rfl, by decide, np, (D3.same (s4.tr s5)).new hpl, ?_, rfl⟩
       . match i, hp with
         | 0, hp =>
          have e : pt = p := Option.some.inj hp
          subst e
          exact ⟨.lot 1, rfl, rb (oa w5 hpl) w5⟩
         | i + 1, hp => simp at hp
       . show MB.ch c 1 * 1 <= 700
         have := MB.Xa c 1
         have : (2 : Nat) ^ c <= 2 ^ 6 := Nat.pow_le_pow_right (by decide) c2
         omega
     . left
       exact ⟨b0, ps0, rs0, R3.same s4, hw0, by omega, nb0, D3.same s4, by omega, rfl⟩
   . rintro σ' HA ⟨b, ps, rs, RA, hw, hlen, nb, DA, hall, rfl⟩
     have lrc : (List.range c).length = c := List.length_range
     left
     refine compR [] (fun i ys H' => H' = HA /\ i <= c /\ ys = (List.range i).map fun k => V.str (nmq k)) rfl (by omega) (by omega) ⟨rfl, Nat.zero_le _, rfl⟩ (fun i ys H' h => by rw [h.2.2, List.length_map, List.length_range]; exact Nat.le_refl _) ?_ ?_
     . rintro i ys z H' hi ⟨rfl, _, rfl⟩
       have hi6 : i < 6 := by omega
       left
       refine r_ixCS (z := qw) (by rw [sizeLine_eq]; decide +kernel) (qw_at hi6) ?_
       left
       refine r_addS (by show 1 + (PySem.Str.ofString "abc").length <= _; rw [show (PySem.Str.ofString "abc").length = 3 from by decide +kernel, sizeLine_eq]; decide) ?_
       refine ⟨⟨rfl, by omega, ?_⟩, _, rfl⟩
       rw [List.range_succ, List.map_append]
       rfl
     . rintro ys H' ⟨rfl, _, rfl⟩ fo hfo
       rw [show ((c : Int)).toNat = c by omega]
       have sB := (Same.refl H').new (o := .lst ((List.range c).map fun k => V.str (nmq k))) hfo
       have wB' : upd H' fo (.lst ((List.range c).map fun k => V.str (nmq k))) fo = some (.lst ((List.range c).map fun k => V.str (nmq k))) := ja
       have nfo : fo ≠ d := (DA.ne hfo).1
       generalize upd H' fo (.lst ((List.range c).map fun k => V.str (nmq k))) = HB at sB wB' ⊢
       have DB := DA.same sB
       have RB := RA.same sB
       have NM : Nam (fun i => V.str (nmq i)) c := lx fun i j hi hj e => jx (by omega) (by omega) e
       left
       refine pe (a := fo) (xs := (List.range c).map fun k => V.str (nmq k)) [some (.ref d)] (fun i ys H' => ∃ G : Nat -> Bool, DrL H' d l /\ Fr1 d HB H' /\ i <= c /\ ys = ((List.range i).filter G).map fun k => V.str (nmq k)) rfl (by rw [List.length_map, sizeLine_eq, lrc]; omega) ⟨fun _ => true, DB, Fr1.refl d HB, Nat.zero_le _, rfl⟩ (fun i ys H' _ h => by obtain ⟨G, _, f, _⟩ := h; exact SqL.of (f.get wB' nfo)) (fun i ys H' h => by
        obtain ⟨G, _, _, _, e⟩ := h
        rw [e, List.length_map]
        exact Nat.le_trans (List.length_filter_le _ _) (by rw [List.length_range]; omega)) ?_ ?_
       . rintro i v ys z H' hv ⟨G, D', f, _, rfl⟩
         have hi : i < c := by
          have := (List.getElem?_eq_some_iff.mp hv).1
          rwa [List.length_map, lrc] at this
         rw [List.getElem?_map, List.getElem?_range hi] at hv
         obtain rfl : V.str (nmq i) = v := Option.some.inj hv
         left
         refine Ub D' (by omega) (by omega) fun g2 H2 g20 g21 D2 f2 => ?_
         left
         refine za (fun u => ?_) (fun u => ?_)
         . left
           refine ⟨⟨fun j => if j = i then true else G j, D2, f.trans f2, by omega, ?_⟩, _, rfl⟩
           rw [Yn, if_pos rfl, List.map_append]
           rfl
         . left
           refine ⟨⟨fun j => if j = i then false else G j, D2, f.trans f2, by omega, ?_⟩, _, rfl⟩
           rw [Yn, if_neg (by decide), List.append_nil]
       . rintro ys HC' ⟨G, D', f, _, rfl⟩ fr' hfr'
         rw [List.length_map, lrc]
         have DC := D'.new (o := .lst (((List.range c).filter G).map fun k => V.str (nmq k))) hfr'
         have FC := f.new (o := .lst (((List.range c).filter G).map fun k => V.str (nmq k))) hfr'
         have wC : upd HC' fr' (.lst (((List.range c).filter G).map fun k => V.str (nmq k))) fr' = some (.lst (((List.range c).filter G).map fun k => V.str (nmq k))) := ja
         generalize upd HC' fr' (.lst (((List.range c).filter G).map fun k => V.str (nmq k))) = HC at DC FC wC ⊢
         have RC := BL.CR.fr1 RB DB nb FC
         have foC := FC.get wB' nfo
         have flv := Mj NM ((List.range c).filter G)
         obtain ⟨F0, eF⟩ : ∃ F : Nat -> Bool, (fun a => inV (V.str (nmq a)) (((List.range c).filter G).map fun k => V.str (nmq k))) = F := ⟨_, rfl⟩
         have eF' : ∀ x, inV (V.str (nmq x)) (((List.range c).filter G).map fun k => V.str (nmq k)) = F0 x := fun x => congrFun eF x
         have hA : allD c rs < 2 ^ 8999 := Nat.lt_of_le_of_lt hall (Nat.lt_of_lt_of_le (show 700 < 2 ^ 20 by decide) (Nat.pow_le_pow_right (by decide) (by decide)))
         left
         intro ga hga
         have sD := (Same.refl HC).new (o := .lst []) hga
         have wg : upd HC ga (.lst []) ga = some (.lst []) := ja
         generalize upd HC ga (.lst []) = HD at sD wg ⊢
         left
         intro ia hia
         have sE := sD.new (o := .lst []) hia
         have uE := (Same.refl HD).new (o := .lst []) hia
         have wi : upd HD ia (.lst []) ia = some (.lst []) := ja
         have nga : ga ≠ ia := oa wg hia
         generalize upd HD ia (.lst []) = HE at sE uE wi ⊢
         have wg' := uE _ _ wg
         left
         refine Lg (RC.same sE) fun HF sF => ?_
         left
         refine forR (fun N σ' H' => ∃ (gv iv : List V) (o1 o2 o3 : Option V), N <= allD c rs /\ (∀ b o, HC b = some o -> H' b = some o) /\ H' ga = some (.lst gv) /\ gv.length = cg c F0 (List.range c) rs N /\ H' ia = some (.lst iv) /\ iv.length = cx false c F0 (List.range c) rs N /\ σ' = [some (.ref a), some (.ref d), some (.int c), some (.ref b), some (.ref fo), some (.ref fr'), some (.ref ga), some (.ref ia), o1, o2, o3]) (by omega) (by omega) ⟨[], [], none, none, none, Nat.zero_le _, fun b o hb => sF _ _ (sE _ _ hb), sF _ _ wg', rfl, sF _ _ wi, rfl, rfl⟩ ?_ ?_
         . rintro N σ' H' hN ⟨gv, iv, o1, o2, o3, _, sA, hgv, gl, hiv, il, rfl⟩
           have hN' : N < allD c rs := by omega
           have SA : Same HC H' := sA
           left
           intro p1 hp1
           have s1 := SA.new (o := .lst [.ref fo]) hp1
           have t1 := (Same.refl H').new (o := .lst [.ref fo]) hp1
           have w1 : upd H' p1 (.lst [.ref fo]) p1 = some (.lst [.ref fo]) := ja
           generalize upd H' p1 (.lst [.ref fo]) = H1' at s1 t1 w1 ⊢
           left
           refine uq NM (s1 _ _ foC) (s1 _ _ wC) flv (RC.same s1) fun p2 H2' qs s2 F2 => ?_
           rw [eF] at F2
           have ql := F2.ln
           rw [Nf] at ql
           left
           refine Kw (s2 _ _ w1) F2.ls (by rw [List.length_map, sizeLine_eq]; simp; omega) ?_
           intro p3 hp3
           have s3 := (s1.tr s2).new (o := .lst ([.ref fo] ++ qs.map V.ref)) hp3
           have t3 := (t1.tr s2).new (o := .lst ([.ref fo] ++ qs.map V.ref)) hp3
           have G3 : TsAt (lstG fun k => V.str (nmq k)) (upd H2' p3 (.lst ([.ref fo] ++ qs.map V.ref))) p3 (fo :: qs) (List.range c :: plA c F0 (List.range c) rs N) := (F2.same ((Same.refl H2').new hp3)).cons' ja (s3 _ _ foC)
           generalize upd H2' p3 (.lst ([.ref fo] ++ qs.map V.ref)) = H3' at s3 t3 G3 ⊢
           obtain ⟨p4, hat, h4⟩ := G3.lastG
           left
           refine fm (Ta G3.ls hat ?_)
           left
           refine Yp NM (s3 _ _ foC) (s3 _ _ wC) flv (RC.same s3) hw hN' fun h0 t H5 e0 ht s5 w5 => ?_
           rw [eF] at e0 w5
           simp only [eF'] at w5
           rw [ahT_cg RA.ft hw hN'] at w5
           rw [e0] at h4
           have h4' : H5 p4 = some (.lst [V.str (nmq h0)]) := s5 _ _ h4
           have S5 := s3.tr s5
           have T5 := t3.tr s5
           have fr5 := S5 _ _ wC
           have g5 := T5 _ _ hgv
           have i5 := T5 _ _ hiv
           have gdN : gd c F0 (List.range c) rs N = BR.fr F0 [h0] := by unfold gd; rw [e0]
           have cxf := jo (F := F0) RA.ft hw N
           cases u : F0 h0 with
           | true =>
            rw [u, if_pos rfl] at w5
            have gN : gx true c F0 (List.range c) rs N = 1 := by
             unfold gx
             rw [gdN, ie, u]
             rfl
            left
            rw [if_neg (show ¬ (!decide ((([V.bl true, V.int ((cg c F0 (List.range c) rs N : Nat) : Int)].length : Nat) : Int) = 2)) = true by simp)]
            left
            refine fm (Bc w5 (v := .bl true) (Pb (j := 0) rfl) ?_)
            left
            refine fm (Bc w5 (v := .int ((cg c F0 (List.range c) rs N : Nat) : Int)) (Pb (j := 1) rfl) ?_)
            left
            refine yq ?_
            left
            refine fm (Ta h4' (v := .str (nmq h0)) (Pb (j := 0) rfl) ?_)
            left
            refine Jo rfl flv fr5 ?_
            rw [eF', u]
            left
            have nL : HC ga = none := hga
            refine gb g5 (by rw [gl, sizeLine_eq]; omega) ?_
            have S6 : Same HC (upd H5 ga (.lst (gv ++ [.int (N : Int)]))) := fun b o hb => by rw [La (oa hb nL)]; exact S5 _ _ hb
            have nt : t ≠ ga := fun z => by
             have h1 := t3 _ _ hgv
             rw [z] at ht
             rw [h1] at ht
             cases ht
            have w6 : upd H5 ga (.lst (gv ++ [.int (N : Int)])) ga = some (.lst (gv ++ [.int (N : Int)])) := ja
            have v6 : upd H5 ga (.lst (gv ++ [.int (N : Int)])) ia = some (.lst iv) := by rw [La nga.symm]; exact i5
            have t6 := rb (o := .lst (gv ++ [.int (N : Int)])) nt w5
            generalize upd H5 ga (.lst (gv ++ [.int (N : Int)])) = H6 at S6 w6 v6 t6 ⊢
            have elen : (((gv ++ [V.int (N : Int)]).length : Nat) : Int) - 1 = ((cx true c F0 (List.range c) rs N : Nat) : Int) := by
             rw [List.length_append, gl]
             rw [Ws]
             simp
            left
            rw [elen]
            intro pu hpu
            have S7 := S6.new (o := .tup [.bl true, .int ((cx true c F0 (List.range c) rs N : Nat) : Int)]) hpu
            have T7 := (Same.refl H6).new (o := .tup [.bl true, .int ((cx true c F0 (List.range c) rs N : Nat) : Int)]) hpu
            have w7 : upd H6 pu (.tup [.bl true, .int ((cx true c F0 (List.range c) rs N : Nat) : Int)]) pu = some (.tup [.bl true, .int ((cx true c F0 (List.range c) rs N : Nat) : Int)]) := ja
            generalize upd H6 pu (.tup [.bl true, .int ((cx true c F0 (List.range c) rs N : Nat) : Int)]) = H7 at S7 T7 w7 ⊢
            have t7 := T7 _ _ t6
            rw [show ((cg c F0 (List.range c) rs N : Nat) : Int) = ((cx true c F0 (List.range c) rs N : Nat) : Int) by rw [Ws]] at t7
            left
            refine nv (.t [.v (.bl true), .v (.int ((cx true c F0 (List.range c) rs N : Nat) : Int))]) (.t [.v (.bl true), .v (.int ((cx true c F0 (List.range c) rs N : Nat) : Int))]) rfl (by simp [dep, deps]) (by unfold IsD; exact ⟨t, _, rfl, SqT.of t7, bc (Ik rfl) (bc (Ik rfl) Ag)⟩) (by unfold IsD; exact ⟨pu, _, rfl, SqT.of w7, bc (Ik rfl) (bc (Ik rfl) Ag)⟩) ?_
            rw [show eqD (.t [.v (.bl true), .v (.int ((cx true c F0 (List.range c) rs N : Nat) : Int))]) (.t [.v (.bl true), .v (.int ((cx true c F0 (List.range c) rs N : Nat) : Int))]) = true by simp [eqD, eqDs, eqV]]
            have w67 := T7 _ _ w6
            left
            rw [elen]
            refine xq (jn NM (S7 _ _ foC) (S7 _ _ wC) flv (RC.same S7) hw hA (by rw [eF]; exact cx_lt RA.ft hw hN' gN) fun N' H8 n1 n2 n3 s8 => ?_)
            rw [eF] at n2 n3
            have eN : N' = N := Dq (g := fun M => gx true c F0 (List.range c) rs M) n2 gN n3
            subst eN
            left
            rw [decide_eq_true rfl]
            left
            have gd1 : gd c F0 (List.range c) rs N' = 1 := by rw [gdN, ie, u]; rfl
            have c1' : cg c F0 (List.range c) rs (N' + 1) = cg c F0 (List.range c) rs N' + gd c F0 (List.range c) rs N' := rfl
            have c2' : cx false c F0 (List.range c) rs (N' + 1) = cx false c F0 (List.range c) rs N' + (1 - gd c F0 (List.range c) rs N') := rfl
            have v8 := s8 _ _ (T7 _ _ v6)
            have w8 := s8 _ _ w67
            exact ⟨gv ++ [.int (N' : Int)], iv, some (.int (N' : Int)), some (.ref p4), some (.ref t), by omega, fun b o hb => s8 _ _ (S7 _ _ hb), w8, by rw [List.length_append, gl, c1', gd1]; rfl, v8, by rw [il, c2', gd1]; rfl, rfl⟩
           | false =>
            rw [u, if_neg (by decide)] at w5
            have gN : gx false c F0 (List.range c) rs N = 1 := by
             unfold gx
             rw [gdN, ie, u]
             rfl
            left
            rw [if_neg (show ¬ (!decide ((([V.bl false, V.int ((N : Int) - ((cg c F0 (List.range c) rs N : Nat) : Int))].length : Nat) : Int) = 2)) = true by simp)]
            left
            refine fm (Bc w5 (v := .bl false) (Pb (j := 0) rfl) ?_)
            left
            refine fm (Bc w5 (v := .int ((N : Int) - ((cg c F0 (List.range c) rs N : Nat) : Int))) (Pb (j := 1) rfl) ?_)
            left
            refine yq ?_
            left
            refine fm (Ta h4' (v := .str (nmq h0)) (Pb (j := 0) rfl) ?_)
            left
            refine Jo rfl flv fr5 ?_
            rw [eF', u]
            left
            have nL : HC ia = none := sD.free hia
            refine gb i5 (by rw [il, sizeLine_eq]; omega) ?_
            have S6 : Same HC (upd H5 ia (.lst (iv ++ [.int (N : Int)]))) := fun b o hb => by rw [La (oa hb nL)]; exact S5 _ _ hb
            have nt : t ≠ ia := fun z => by
             have h1 := t3 _ _ hiv
             rw [z] at ht
             rw [h1] at ht
             cases ht
            have w6 : upd H5 ia (.lst (iv ++ [.int (N : Int)])) ia = some (.lst (iv ++ [.int (N : Int)])) := ja
            have v6 : upd H5 ia (.lst (iv ++ [.int (N : Int)])) ga = some (.lst gv) := by rw [La nga]; exact g5
            have t6 := rb (o := .lst (iv ++ [.int (N : Int)])) nt w5
            generalize upd H5 ia (.lst (iv ++ [.int (N : Int)])) = H6 at S6 w6 v6 t6 ⊢
            have elen : (((iv ++ [V.int (N : Int)]).length : Nat) : Int) - 1 = ((cx false c F0 (List.range c) rs N : Nat) : Int) := by
             rw [List.length_append, il]
             skip
             simp
            left
            rw [elen]
            intro pu hpu
            have S7 := S6.new (o := .tup [.bl false, .int ((cx false c F0 (List.range c) rs N : Nat) : Int)]) hpu
            have T7 := (Same.refl H6).new (o := .tup [.bl false, .int ((cx false c F0 (List.range c) rs N : Nat) : Int)]) hpu
            have w7 : upd H6 pu (.tup [.bl false, .int ((cx false c F0 (List.range c) rs N : Nat) : Int)]) pu = some (.tup [.bl false, .int ((cx false c F0 (List.range c) rs N : Nat) : Int)]) := ja
            generalize upd H6 pu (.tup [.bl false, .int ((cx false c F0 (List.range c) rs N : Nat) : Int)]) = H7 at S7 T7 w7 ⊢
            have t7 := T7 _ _ t6
            rw [show ((N : Int) - ((cg c F0 (List.range c) rs N : Nat) : Int)) = ((cx false c F0 (List.range c) rs N : Nat) : Int) by have := jo (F := F0) RA.ft hw N; omega] at t7
            left
            refine nv (.t [.v (.bl false), .v (.int ((cx false c F0 (List.range c) rs N : Nat) : Int))]) (.t [.v (.bl false), .v (.int ((cx false c F0 (List.range c) rs N : Nat) : Int))]) rfl (by simp [dep, deps]) (by unfold IsD; exact ⟨t, _, rfl, SqT.of t7, bc (Ik rfl) (bc (Ik rfl) Ag)⟩) (by unfold IsD; exact ⟨pu, _, rfl, SqT.of w7, bc (Ik rfl) (bc (Ik rfl) Ag)⟩) ?_
            rw [show eqD (.t [.v (.bl false), .v (.int ((cx false c F0 (List.range c) rs N : Nat) : Int))]) (.t [.v (.bl false), .v (.int ((cx false c F0 (List.range c) rs N : Nat) : Int))]) = true by simp [eqD, eqDs, eqV]]
            have w67 := T7 _ _ w6
            left
            rw [elen]
            refine xq (jn NM (S7 _ _ foC) (S7 _ _ wC) flv (RC.same S7) hw hA (by rw [eF]; exact cx_lt RA.ft hw hN' gN) fun N' H8 n1 n2 n3 s8 => ?_)
            rw [eF] at n2 n3
            have eN : N' = N := Dq (g := fun M => gx false c F0 (List.range c) rs M) n2 gN n3
            subst eN
            left
            rw [decide_eq_true rfl]
            left
            have gd1 : gd c F0 (List.range c) rs N' = 0 := by rw [gdN, ie, u]; rfl
            have c1' : cg c F0 (List.range c) rs (N' + 1) = cg c F0 (List.range c) rs N' + gd c F0 (List.range c) rs N' := rfl
            have c2' : cx false c F0 (List.range c) rs (N' + 1) = cx false c F0 (List.range c) rs N' + (1 - gd c F0 (List.range c) rs N') := rfl
            have v8 := s8 _ _ (T7 _ _ v6)
            have w8 := s8 _ _ w67
            exact ⟨gv, iv ++ [.int (N' : Int)], some (.int (N' : Int)), some (.ref p4), some (.ref t), by omega, fun b o hb => s8 _ _ (S7 _ _ hb), v8, by rw [gl, c1', gd1]; rfl, w8, by rw [List.length_append, il, c2', gd1]; rfl, rfl⟩
         . rintro σ' H' ⟨gv, iv, o1, o2, o3, _, _, _, _, _, _, rfl⟩
           left
           exact q _
inductive Dn (K : PySem.W.Frag) (x : Str) (st : Stmt) : Prop
 | mk {f : Addr} {od an : Option Addr} {sl : Array (Option Value)} {oc kV dc pm cd ct : Value} (a : PySem.W.nsIn K mainGlobals x = some (some (.ref f))) (l : K.lookup f = some ⟨oc, od, .func (PySem.W.fnOf x x (Ed st) (Ha st) (ya st) .none kV dc pm an cd ct), sl⟩) (c : PySem.W.codeIn K cd x = true) (k : PySem.W.keepIn K (.ref f) = true) : Dn K x st
theorem Dn.up {h : Heap} {x : Str} {st : Stmt} (D : Dn K x st) (X : K.In h) (G : h.Ns mainGlobals mg) {ps : List Str} (b : ∀ (kV doc pm : Value) (an : Option Addr) (cdv ct : Value) (us : List Value), us.length = ps.length -> bindArgs (PySem.W.fnOf x x (Ed st) (Ha st) (ya st) .none kV doc pm an cdv ct) ⟨us, []⟩ = pure (ps.zip us)) : Up K mg x st ps := by
 cases D with
 | mk a l c k => exact up_mk X G a l c k b
theorem all_mk {l : PySem.W.OpenLaw} {w : World} {K : PySem.W.Frag} {h : Heap} {mg : Str -> Option Value} {fa : Addr} (X : K.In h) (G : h.Ns mainGlobals mg) (hfa : mg "law" = some (.ref fa))
 (D0 : Dn K "ways" Tq)
 (D1 : Dn K "with_first" Pd)
 (D2 : Dn K "pick" Vq)
 (D3 : Dn K "is_pick" Zg)
 (D4 : Dn K "number_of" Ke)
 (D5 : Dn K "fits_vote" Me)
 (D6 : Dn K "fits" Wq)
 (D7 : Dn K "sizes" Rl)
 (D8 : Dn K "sizes_ahead" sd)
 (D9 : Dn K "whole" Ql)
 (D10 : Dn K "need_whole" Td)
 (D11 : Dn K "need_friends" Oc)
 (D12 : Dn K "round_draws" ud)
 (D13 : Dn K "draws_row" Oe)
 (D14 : Dn K "draws" Wl)
 (D15 : Dn K "draws_behind" Pc)
 (D16 : Dn K "parted" Zi)
 (D17 : Dn K "ways_up_to" Qd)
 (D18 : Dn K "behind_lot" Ud)
 (D19 : Dn K "side" Uq)
 (D20 : Dn K "seated" Yi)
 (D21 : Dn K "all_lead_to" Ad)
 (D22 : Dn K "behind" ij)
 (D23 : Dn K "roads_on" Cf)
 (D24 : Dn K "roads" Sl)
 (D25 : Dn K "worths_ahead" Mc)
 (D26 : Dn K "worths" Wi)
 (D27 : Dn K "friendly_many" zc)
 (D28 : Dn K "marks_of" Ff)
 (D29 : Dn K "friends_among" xc)
 (D30 : Dn K "seated_by" Je)
 (D31 : Dn K "bench_undrawn" Ac)
 (D32 : Dn K "drawn_out_of" Qc)
 (D33 : Dn K "weight" Xi)
 (D34 : Dn K "pick_within" vd)
 (D35 : Dn K "weight_ahead" Nc)
 (D36 : Dn K "good_or_ill" zd)
 (D37 : Dn K "need_one" Ef)
 (D38 : Dn K "number_among_all" Kb)
 (D39 : Dn K "friendly" Jf)
 (D40 : Dn K "unfriendly" Sd)
 (D41 : Dn K "place_of" Df)
 (D42 : Dn K "_law_begin" Yg)
 (D43 : Dn K "_law_take" bj)
 (D44 : Dn K "_law_int" Ul)
 (D45 : Dn K "_law_step" cj)
 (D46 : Dn K "_law_last" gj)
 (D47 : Dn K "_law_whole_row" yd)
 (D48 : Dn K "_law_ways" aj)
 (D49 : Dn K "_law_seats" Xg)
 (D50 : Dn K "_law_bounds" Hf)
 (D51 : Dn K "_law_all" Vl)
 (D52 : Dn K "_law_pick" dj)
 (D53 : Dn K "_law_voted" Wg)
 (D54 : Dn K "_law_parted" Gf)
 (D55 : Dn K "_law_benches" Le)
 (D56 : Dn K "law" Vt)
 (z_abs : PySem.W.nsIn K mainGlobals "abs" = some none)
 (z_bool : PySem.W.nsIn K mainGlobals "bool" = some none)
 (z_divmod : PySem.W.nsIn K mainGlobals "divmod" = some none)
 (z_enumerate : PySem.W.nsIn K mainGlobals "enumerate" = some none)
 (z_int : PySem.W.nsIn K mainGlobals "int" = some none)
 (z_isinstance : PySem.W.nsIn K mainGlobals "isinstance" = some none)
 (z_len : PySem.W.nsIn K mainGlobals "len" = some none)
 (z_list : PySem.W.nsIn K mainGlobals "list" = some none)
 (z_min : PySem.W.nsIn K mainGlobals "min" = some none)
 (z_range : PySem.W.nsIn K mainGlobals "range" = some none)
 (z_sorted : PySem.W.nsIn K mainGlobals "sorted" = some none)
 (z_sum : PySem.W.nsIn K mainGlobals "sum" = some none)
 (z_tuple : PySem.W.nsIn K mainGlobals "tuple" = some none)
 (z_zip : PySem.W.nsIn K mainGlobals "zip" = some none)
 {t_MOST_PEOPLE : Tok} (m_MOST_PEOPLE : PySem.W.nsIn K mainGlobals "MOST_PEOPLE" = some (some (.int 500 t_MOST_PEOPLE)))
 {t_MOST_SEATS : Tok} (m_MOST_SEATS : PySem.W.nsIn K mainGlobals "MOST_SEATS" = some (some (.int 60 t_MOST_SEATS)))
 : ∃ fd : FuncData, (∀ (s : Shared) (v : Value), BindsTo s fd ⟨[v], []⟩ [("_law_script", v)]) /\ ∀ base : Heap, K.In base -> base.Ns mainGlobals mg -> FnOk l.prog w K mg base CX0 13 fa fd ["_law_script"] (rq K) := by
 have T : Txt mg := ⟨PySem.W.mg_none_of X G z_abs, PySem.W.mg_none_of X G z_bool, PySem.W.mg_none_of X G z_divmod, PySem.W.mg_none_of X G z_enumerate, PySem.W.mg_none_of X G z_int, PySem.W.mg_none_of X G z_isinstance, PySem.W.mg_none_of X G z_len, PySem.W.mg_none_of X G z_list, PySem.W.mg_none_of X G z_min, PySem.W.mg_none_of X G z_range, PySem.W.mg_none_of X G z_sorted, PySem.W.mg_none_of X G z_sum, PySem.W.mg_none_of X G z_tuple, PySem.W.mg_none_of X G z_zip, ⟨_, PySem.W.mg_of X G m_MOST_PEOPLE⟩, ⟨_, PySem.W.mg_of X G m_MOST_SEATS⟩⟩
 have U_law : Up K mg "law" Vt ["_law_script"] := D56.up X G fun _ _ _ _ _ _ us hl => match us, hl with | [_], _ => rfl
 refine law_fn U_law hfa (fun base kb nb f fd F => ?_) (fun _ _ _ _ _ _ s u => .of_eq rfl)
 have C_ways : kl l.prog w K mg base := Xw T (D0.up X G fun _ _ _ _ _ _ us hl => match us, hl with | [_, _], _ => rfl)
 have C_with_first : Jc l.prog w K mg base := zj T (D1.up X G fun _ _ _ _ _ _ us hl => match us, hl with | [_, _, _], _ => rfl)
 have C_pick : Bt l.prog w K mg base := Zw T (D2.up X G fun _ _ _ _ _ _ us hl => match us, hl with | [_, _, _], _ => rfl) C_ways C_with_first
 have C_is_pick : Fh l.prog w K mg base := Po T (D3.up X G fun _ _ _ _ _ _ us hl => match us, hl with | [_, _], _ => rfl)
 have C_number_of : Ze l.prog w K mg base := Ck T (D4.up X G fun _ _ _ _ _ _ us hl => match us, hl with | [_, _], _ => rfl) C_ways C_with_first C_is_pick
 have C_fits_vote : bf l.prog w K mg base := Ek T (D5.up X G fun _ _ _ _ _ _ us hl => match us, hl with | [_, _, _, _, _], _ => rfl)
 have C_fits : Ct l.prog w K mg base := ax T (D6.up X G fun _ _ _ _ _ _ us hl => match us, hl with | [_, _, _], _ => rfl) C_fits_vote
 have C_sizes : Lm l.prog w K mg base := su T (D7.up X G fun _ _ _ _ _ _ us hl => match us, hl with | [_, _], _ => rfl) C_fits
 have C_sizes_ahead : Qb l.prog w K mg base := Ph T (D8.up X G fun _ _ _ _ _ _ us hl => match us, hl with | [_, _], _ => rfl) C_sizes
 have C_whole : Km l.prog w K mg base := qu T (D9.up X G fun _ _ _ _ _ _ us hl => match us, hl with | [_, _], _ => rfl) C_sizes_ahead
 have C_need_whole : we l.prog w K mg base := Cj T (D10.up X G fun _ _ _ _ _ _ us hl => match us, hl with | [_, _], _ => rfl) C_whole
 have C_need_friends : Wb l.prog w K mg base := kh T (D11.up X G fun _ _ _ _ _ _ us hl => match us, hl with | [_, _, _], _ => rfl) C_need_whole
 have C_round_draws : uc l.prog w K mg base := Qh T (D12.up X G fun _ _ _ _ _ _ us hl => match us, hl with | [_, _, _], _ => rfl) C_ways
 have C_draws_row : Tb l.prog w K mg base := Gk T (D13.up X G fun _ _ _ _ _ _ us hl => match us, hl with | [_, _], _ => rfl) C_sizes_ahead C_round_draws
 have C_draws : Pm l.prog w K mg base := xu T (D14.up X G fun _ _ _ _ _ _ us hl => match us, hl with | [_, _], _ => rfl) C_draws_row
 have C_draws_behind : Zc l.prog w K mg base := lh T (D15.up X G fun _ _ _ _ _ _ us hl => match us, hl with | [_, _], _ => rfl) C_draws_row
 have C_parted : Yj l.prog w K mg base := Nr T (D16.up X G fun _ _ _ _ _ _ us hl => match us, hl with | [_, _, _], _ => rfl) C_draws_row
 have C_ways_up_to : ue l.prog w K mg base := Aj T (D17.up X G fun _ _ _ _ _ _ us hl => match us, hl with | [_, _], _ => rfl)
 have C_behind_lot : Kc l.prog w K mg base := Dj T (D18.up X G fun _ _ _ _ _ _ us hl => match us, hl with | [_, _, _], _ => rfl) C_ways_up_to
 have C_side : wo l.prog w K mg base := Yw T (D19.up X G fun _ _ _ _ _ _ us hl => match us, hl with | [_, _, _], _ => rfl)
 have C_seated : Xj l.prog w K mg base := Mr T (D20.up X G fun _ _ _ _ _ _ us hl => match us, hl with | [_, _, _, _], _ => rfl)
 have C_all_lead_to : Kd l.prog w K mg base := Uh T (D21.up X G fun _ _ _ _ _ _ us hl => match us, hl with | [_, _, _], _ => rfl)
 have C_behind : Hg l.prog w K mg base := Ur T (D22.up X G fun _ _ _ _ _ _ us hl => match us, hl with | [_, _, _, _, _], _ => rfl) C_round_draws C_behind_lot C_side C_seated C_all_lead_to
 have C_roads_on : Sf l.prog w K mg base := jm T (D23.up X G fun _ _ _ _ _ _ us hl => match us, hl with | [_, _, _, _], _ => rfl) C_behind
 have C_roads : Mm l.prog w K mg base := tu T (D24.up X G fun _ _ _ _ _ _ us hl => match us, hl with | [_, _, _], _ => rfl) C_need_friends C_roads_on
 have C_worths_ahead : Xc l.prog w K mg base := gh T (D25.up X G fun _ _ _ _ _ _ us hl => match us, hl with | [_, _, _, _, _], _ => rfl) C_behind
 have C_worths : Dg l.prog w K mg base := Kr T (D26.up X G fun _ _ _ _ _ _ us hl => match us, hl with | [_, _, _], _ => rfl) C_sizes_ahead C_need_friends C_worths_ahead
 have C_friendly_many : Fc l.prog w K mg base := kg T (D27.up X G fun _ _ _ _ _ _ us hl => match us, hl with | [_, _, _], _ => rfl) C_roads
 have C_marks_of : Ce l.prog w K mg base := qm T (D28.up X G fun _ _ _ _ _ _ us hl => match us, hl with | [_, _], _ => rfl)
 have C_friends_among : Fb l.prog w K mg base := jg T (D29.up X G fun _ _ _ _ _ _ us hl => match us, hl with | [_, _], _ => rfl)
 have C_seated_by : Ye l.prog w K mg base := Bk T (D30.up X G fun _ _ _ _ _ _ us hl => match us, hl with | [_, _, _], _ => rfl)
 have C_bench_undrawn : Rb l.prog w K mg base := lg T (D31.up X G fun _ _ _ _ _ _ us hl => match us, hl with | [_, _, _], _ => rfl) C_side C_friends_among C_seated_by
 have C_drawn_out_of : Xb l.prog w K mg base := mh T (D32.up X G fun _ _ _ _ _ _ us hl => match us, hl with | [_, _, _], _ => rfl)
 have C_weight : Eg l.prog w K mg base := Lr T (D33.up X G fun _ _ _ _ _ _ us hl => match us, hl with | [_, _, _, _], _ => rfl) C_behind_lot
 have C_pick_within : Gd l.prog w K mg base := Rh T (D34.up X G fun _ _ _ _ _ _ us hl => match us, hl with | [_, _, _, _], _ => rfl) C_weight
 have C_weight_ahead : Yc l.prog w K mg base := jh T (D35.up X G fun _ _ _ _ _ _ us hl => match us, hl with | [_, _, _], _ => rfl) C_weight
 have C_good_or_ill : Jd l.prog w K mg base := Th T (D36.up X G fun _ _ _ _ _ _ us hl => match us, hl with | [_, _, _, _], _ => rfl) C_draws_behind C_worths
 have C_need_one : Vf l.prog w K mg base := om T (D37.up X G fun _ _ _ _ _ _ us hl => match us, hl with | [_, _, _, _], _ => rfl) C_draws C_friendly_many
 have C_number_among_all : Bb l.prog w K mg base := Ue T (D38.up X G fun _ _ _ _ _ _ us hl => match us, hl with | [_, _, _, _, _], _ => rfl) C_number_of C_draws_row C_marks_of C_friends_among C_bench_undrawn C_drawn_out_of C_pick_within C_good_or_ill C_need_one
 have C_friendly : Xf l.prog w K mg base := um T (D39.up X G fun _ _ _ _ _ _ us hl => match us, hl with | [_, _, _, _], _ => rfl) C_number_among_all
 have C_unfriendly : ve l.prog w K mg base := Bj T (D40.up X G fun _ _ _ _ _ _ us hl => match us, hl with | [_, _, _, _], _ => rfl) C_number_among_all
 have C_place_of : Tf l.prog w K mg base := km T (D41.up X G fun _ _ _ _ _ _ us hl => match us, hl with | [_, _, _, _], _ => rfl) C_pick C_parted C_worths C_marks_of C_friends_among C_bench_undrawn C_drawn_out_of C_weight_ahead
 have C_l_begin : Eh l.prog w K mg base := Oo T (D42.up X G fun _ _ _ _ _ _ us hl => match us, hl with | [_], _ => rfl)
 have C_l_take : De l.prog w K mg base := Qr T (D43.up X G fun _ _ _ _ _ _ us hl => match us, hl with | [_, _], _ => rfl)
 have C_l_int : Nm l.prog w K mg base := uu T (D44.up X G fun _ _ _ _ _ _ us hl => match us, hl with | [_], _ => rfl)
 have C_l_step : Zj l.prog w K mg base := Rr T (D45.up X G fun _ _ _ _ _ _ us hl => match us, hl with | [_, _, _, _], _ => rfl) C_l_take
 have C_l_last : ak l.prog w K mg base := Tr T (D46.up X G fun _ _ _ _ _ _ us hl => match us, hl with | [_, _], _ => rfl) C_l_take
 have C_l_whole_row : Hd l.prog w K mg base := Sh T (D47.up X G fun _ _ _ _ _ _ us hl => match us, hl with | [_, _, _, _], _ => rfl) C_l_take C_l_step C_l_last
 have C_l_ways : Fg l.prog w K mg base := Pr T (D48.up X G fun _ _ _ _ _ _ us hl => match us, hl with | [_, _], _ => rfl)
 have C_l_seats : Dh l.prog w K mg base := Mo T (D49.up X G fun _ _ _ _ _ _ us hl => match us, hl with | [_, _], _ => rfl)
 have C_l_bounds : Ee l.prog w K mg base := tm T (D50.up X G fun _ _ _ _ _ _ us hl => match us, hl with | [_, _], _ => rfl) C_l_ways C_l_seats
 have C_l_all : Om l.prog w K mg base := wu T (D51.up X G fun _ _ _ _ _ _ us hl => match us, hl with | [_, _], _ => rfl) C_l_bounds
 have C_l_pick : Gg l.prog w K mg base := Sr T (D52.up X G fun _ _ _ _ _ _ us hl => match us, hl with | [_, _, _], _ => rfl) C_l_ways
 have C_l_voted : Bh l.prog w K mg base := Lo T (D53.up X G fun _ _ _ _ _ _ us hl => match us, hl with | [_, _, _, _, _], _ => rfl) C_l_pick
 have C_l_parted : Wf l.prog w K mg base := rm T (D54.up X G fun _ _ _ _ _ _ us hl => match us, hl with | [_, _, _], _ => rfl) C_l_bounds
 have C_l_benches : af l.prog w K mg base := Dk T (D55.up X G fun _ _ _ _ _ _ us hl => match us, hl with | [_, _, _, _], _ => rfl) C_l_pick C_l_voted C_l_parted
 exact ok_law T F C_friendly C_unfriendly C_place_of C_l_begin C_l_take C_l_int C_l_whole_row C_l_all C_l_benches
end K29
def PySem.W.Fast.tw17329580192750753885 : Nat := 0
def PySem.W.Fast.tw4085329399360641656 : Nat := 0
def PySem.W.Fast.tw9171654373939315510 : Nat := 0
def PySem.W.Fast.tw7234463432805858397 : Nat := 0
def PySem.W.Fast.tw15116000558170377946 : Nat := 0
def PySem.W.Fast.tw16519975618151547091 : Nat := 0
def PySem.W.Fast.tw17520328146206419174 : Nat := 0
def PySem.W.Fast.tw6179732655180349959 : Nat := 0
def PySem.W.Fast.tw8207056971616675123 : Nat := 0
def PySem.W.Fast.tw6869327366887969697 : Nat := 0
def PySem.W.Fast.tw5066725298003030440 : Nat := 0
def PySem.W.Fast.tw1770322659804344369 : Nat := 0
def PySem.W.Fast.tw11931718775149667229 : Nat := 0
def PySem.W.Fast.tw14568290645441941298 : Nat := 0
def PySem.W.Fast.tw4575120383749932449 : Nat := 0
def PySem.W.Fast.tw12887720149527692181 : Nat := 0
def PySem.W.Fast.tw11037467027385943838 : Nat := 0
def PySem.W.Fast.tw6484899970337928796 : Nat := 0
def PySem.W.Fast.tw7460172087724411602 : Nat := 0
def PySem.W.Fast.tw3532020450890028101 : Nat := 0
def PySem.W.Fast.tw10028565470665011541 : Nat := 0
def PySem.W.Fast.tw10421923609485790137 : Nat := 0
def PySem.W.Fast.tw15758005302966963663 : Nat := 0
def PySem.W.Fast.tw1062085950775092173 : Nat := 0
def PySem.W.Fast.tw7421628126654353140 : Nat := 0
def PySem.W.Fast.tw16882896783807890932 : Nat := 0
def PySem.W.Fast.tw2219829597362687650 : Nat := 0
def PySem.W.Fast.tw11951290262719795200 : Nat := 0
def PySem.W.Fast.tw7052611807039629735 : Nat := 0
def PySem.W.Fast.tw4921615978472147467 : Nat := 0
def PySem.W.Fast.tw7747435881785254956 : Nat := 0
def PySem.W.Fast.tw7903939337605641827 : Nat := 0
def PySem.W.Fast.tw7102639540128618386 : Nat := 0
def PySem.W.Fast.tw5026369338754817254 : Nat := 0
def PySem.W.Fast.tw2315268817937180763 : Nat := 0
def PySem.W.Fast.tw16467591633825749504 : Nat := 0
def PySem.W.Fast.tw8348941161588098647 : Nat := 0
def PySem.W.Fast.tw17940271672793809920 : Nat := 0
def PySem.W.Fast.tw3966331361502885984 : Nat := 0
def PySem.W.Fast.tw11442407095330690521 : Nat := 0
def PySem.W.Fast.tw18299672247159966574 : Nat := 0
def PySem.W.Fast.tw13455001265276157852 : Nat := 0
def PySem.W.Fast.tw18075532949792828025 : Nat := 0
def PySem.W.Fast.tw13063540574786621651 : Nat := 0
def PySem.W.Fast.tw436743733708361757 : Nat := 0
def PySem.W.Fast.tw7805644510015919850 : Nat := 0
def PySem.W.Fast.tw2965187128361350922 : Nat := 0
def PySem.W.Fast.tw16557666576145314148 : Nat := 0
def PySem.W.Fast.tw9411051044106743754 : Nat := 0
def PySem.W.Fast.tw9806671636251765523 : Nat := 0
def PySem.W.Fast.tw898554248003172768 : Nat := 0
def PySem.W.Fast.tw10800744353057151527 : Nat := 0
def PySem.W.Fast.tw12882376094229592694 : Nat := 0
def PySem.W.Fast.tw12507659638929260125 : Nat := 0
def PySem.W.Fast.tw5948983931792339361 : Nat := 0
def PySem.W.Fast.tw7190175007116873751 : Nat := 0
def PySem.W.Fast.tw6805392918234720246 : Nat := 0
def PySem.W.Fast.tw16325081651514061827 : Nat := 0
def PySem.W.Fast.tw12317138667105326357 : Nat := 0
def PySem.W.Fast.tw15844498618603092879 : Nat := 0
def PySem.W.Fast.tw318195097073323564 : Nat := 0
def PySem.W.Fast.tw13147773311911438391 : Nat := 0
def PySem.W.Fast.tw8600010510834681743 : Nat := 0
def PySem.W.Fast.tw16253602592117139989 : Nat := 0
def PySem.W.Fast.tw7363932737194471261 : Nat := 0
def PySem.W.Fast.tw2515565537033184044 : Nat := 0
def PySem.W.Fast.tw12015492490601975775 : Nat := 0
def PySem.W.Fast.tw6955069204508150687 : Nat := 0
def PySem.W.Fast.tw3498796317099700881 : Nat := 0
def PySem.W.Fast.tw9128599064880440343 : Nat := 0
def PySem.W.Fast.tw10332995155951029103 : Nat := 0
def PySem.W.Fast.tw8026763463733029262 : Nat := 0
def PySem.W.Fast.tw12794637859064307794 : Nat := 0
def PySem.W.Fast.tw12203804906280474474 : Nat := 0
def PySem.W.Fast.tw16608314769528090156 : Nat := 0
def PySem.W.Fast.tw17977762446171292562 : Nat := 0
def PySem.W.Fast.tw17999800409291999212 : Nat := 0
def PySem.W.Fast.tw17814175307697119638 : Nat := 0
def PySem.W.Fast.tw223227446918935083 : Nat := 0
def PySem.W.Fast.tw153403937589170846 : Nat := 0
def PySem.W.Fast.tw5536581932834665743 : Nat := 0
open PySem PySem.W PyProof.Rows
set_option maxRecDepth 100000 in
set_option maxHeartbeats 0 in
theorem PySem.Challenge.cw_ballotin_k29_whole_good_draws_numbered_holds : PySem.Challenge.rw_ballotin_k29_whole_good_draws_numbered.Holds := by
 w_on; o_law; k_head; (case hw => w_witness2)
 k_fill
 refine L2.walkC (l := PySem.Challenge.rw_ballotin_k29_whole_good_draws_numbered) (k := 13) (x := "_law_script") rfl rfl ⟨rfl, by decide, by decide⟩ (fun w h Y => PySem.W.kIn_of Y) ?F
 case F =>
  intro w mg fa h KX G hmg
  refine' K29.all_mk KX G hmg ?_ ?_ ?_ ?_ ?_ ?_ ?_ ?_ ?_ ?_ ?_ ?_ ?_ ?_ ?_ ?_ ?_ ?_ ?_ ?_ ?_ ?_ ?_ ?_ ?_ ?_ ?_ ?_ ?_ ?_ ?_ ?_ ?_ ?_ ?_ ?_ ?_ ?_ ?_ ?_ ?_ ?_ ?_ ?_ ?_ ?_ ?_ ?_ ?_ ?_ ?_ ?_ ?_ ?_ ?_ ?_ ?_ ?z_abs ?z_bool ?z_divmod ?z_enumerate ?z_int ?z_isinstance ?z_len ?z_list ?z_min ?z_range ?z_sorted ?z_sum ?z_tuple ?z_zip ?m_MOST_PEOPLE ?m_MOST_SEATS
  (case z_abs => k_is)
  (case z_bool => k_is)
  (case z_divmod => k_is)
  (case z_enumerate => k_is)
  (case z_int => k_is)
  (case z_isinstance => k_is)
  (case z_len => k_is)
  (case z_list => k_is)
  (case z_min => k_is)
  (case z_range => k_is)
  (case z_sorted => k_is)
  (case z_sum => k_is)
  (case z_tuple => k_is)
  (case z_zip => k_is)
  (case m_MOST_PEOPLE => k_is)
  (case m_MOST_SEATS => k_is)
  all_goals (refine' K29.Dn.mk ?a ?l ?c ?k; (case a => k_is); (case l => k_is); (case c => k_is); (case k => k_is))
