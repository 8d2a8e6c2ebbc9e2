import PyProof.Rows.All
import Wide.All
import OpenK.AllK
import Wide.FinOn
import Lean
import PyProof.EqAt
import PyProof.EqKinds
import PyProof.TupleCall
import PyProof.ListRange
import PyProof.Rows.SortWalk
import PyProof.StrBlock2
import PyProof.Rows.CountFlat
import PyProof.Rows.SetFrom
import PyProof.CollectWalk
import PyProof.FactsAll.set_1
import PyProof.FactsAll.set_2
import PyProof.Rows.SortStr
import PyProof.StrWalks
import PyProof.TupleOfSeq
import PyProof.TupleOfStr
import PyProof.FString5
import PyProof.FactsAll.tuple_2
import PyProof.FactsAll.tuple_3
import PyProof.Draws
import PySem.Challenge.RW_ballotin_k40_whole_sittings_play_draws
local macro_rules | `(tactic| walk_at "w") => `(tactic| with_unfolding_all exact rfl)
local macro_rules | `(tactic| walk_at "v") => `(tactic| with_unfolding_all exact (Or.inl rfl))
set_option Elab.async false
set_option linter.all false
set_option maxRecDepth 100000
set_option maxHeartbeats 4000000
namespace L2
open PySem PySem.Spec PyProof.Rows
abbrev Key:=Sum Int Str
def Yp:Key->Value->Bool
 | .inl k,v=>Value.isInt k v
 | .inr x,v=>Value.isStrOf x v
def keyH(w:World):Key->Int
 | .inl k=>hashInt k
 | .inr x=>hashStr w x
theorem vb:∀{k:Key} {v:Value},Yp k v=true->(∃i t,k=Sum.inl i/\v=Value.int i t)\/(∃x t,k=Sum.inr x/\v=Value.str x t)
 | .inl i,v,h=>by
  obtain⟨t,e⟩:=Value.isInt_shape (k:=i) (v:=v) h;exact .inl ⟨i,t,rfl,e⟩
 | .inr x,v,h=>by
  obtain⟨t,e⟩:=Value.isStrOf_shape (x:=x) (v:=v) h;exact .inr ⟨x,t,rfl,e⟩
theorem As(i:Int)(t:Tok):Yp (.inl i) (.int i t)=true:=by simp[Yp,Value.isInt]
theorem Zr(x:Str)(t:Tok):Yp (.inr x) (.str x t)=true:=by simp[Yp,Value.isStrOf]
theorem key_ll(a b:Int):decide ((Sum.inl a:Key)=Sum.inl b)=(a==b):=by
 by_cases e:a=b
 . subst e;simp
 . have h:¬(Sum.inl a:Key)=Sum.inl b:=λq=>e (Sum.inl.inj q)
   rw[decide_eq_false h];exact(beq_eq_false_iff_ne.mpr e).symm
theorem key_rr(a b:Str):decide ((Sum.inr a:Key)=Sum.inr b)=decide (a=b):=by
 by_cases e:a=b
 . subst e;simp
 . have h:¬(Sum.inr a:Key)=Sum.inr b:=λq=>e (Sum.inr.inj q)
   rw[decide_eq_false h,decide_eq_false e]
theorem key_lr(a:Int)(b:Str):decide ((Sum.inl a:Key)=Sum.inr b)=false:=decide_eq_false (λq=>nomatch q)
theorem key_rl(a:Str)(b:Int):decide ((Sum.inr a:Key)=Sum.inl b)=false:=decide_eq_false (λq=>nomatch q)
def Qb(prog : Program)(w : World) : PySem.KeyKind prog w Key where
 is:=Yp
 hash:=keyH w
 inj:=λv a b ha hb=>by
  rcases vb ha with⟨i,t,rfl,rfl⟩|⟨x,t,rfl,rfl⟩
  . rcases vb hb with⟨j,u,rfl,e⟩|⟨y,u,rfl,e⟩
    . injection e with e1 _;rw[e1]
    . exact nomatch e
  . rcases vb hb with⟨j,u,rfl,e⟩|⟨y,u,rfl,e⟩
    . exact nomatch e
    . injection e with e1 _;rw[e1]
 byValue:=λk v h=>by
  rcases vb h with⟨i,t,rfl,rfl⟩|⟨x,t,rfl,rfl⟩<;>rfl
 pyHash:=λhv h=>by
  rcases vb hv with⟨i,t,rfl,rfl⟩|⟨x,t,rfl,rfl⟩
  . exact wpAny_pyHash_int h
  . exact wpAny_pyHash_str h
 eqBool:=λhu hv h=>by
  rcases vb hu with⟨i,t,rfl,rfl⟩|⟨x,t,rfl,rfl⟩
  . rcases vb hv with⟨j,u,rfl,rfl⟩|⟨y,u,rfl,rfl⟩
    . rw[key_ll]at h;exact wpAny_eqBool_int h
    . rw[key_lr]at h;exact SeqAt.EqAt.int_str i t y u _ _ _ _ h
  . rcases vb hv with⟨j,u,rfl,rfl⟩|⟨y,u,rfl,rfl⟩
    . rw[key_rl]at h;exact SeqAt.EqAt.str_int x t j u _ _ _ _ h
    . rw[key_rr]at h;exact wpAny_eqBool_str h
 «strs»:=λk x t v h=>by
  rcases vb h with⟨i,u,rfl,e⟩|⟨y,u,rfl,e⟩
  . exact nomatch e
  . injection e with e1 _
    subst e1;cases v<;>rfl
theorem Gn(prog:Program)(w:World)(i:Int)(t:Tok):(Qb prog w).is (.inl i) (.int i t)=true:=As i t
theorem Fn(prog:Program)(w:World)(x:Str)(t:Tok):(Qb prog w).is (.inr x) (.str x t)=true:=Zr x t
end L2
namespace L2
open PySem PySem.Spec PyProof.Rows
inductive V where
 | non|bl (b:Bool)|int (i:Int)|str (x:Str)|byt (b:Array UInt8)|flt (b:UInt64)|ref (a:Addr)|ty (n:String)
 deriving DecidableEq
def RelV:V->Value->Prop
 | .non,u=>u=Value.none
 | .bl b,u=>u=Value.bool b
 | .int i,u=>∃t,u=Value.int i t
 | .str x,u=>∃t,u=Value.str x t
 | .byt b,u=>∃t,u=Value.bytes b t
 | .flt b,u=>∃t,u=Value.float b t
 | .ref a,u=>u=Value.ref a
 | .ty n,u=>u=Value.type n
abbrev Vals:List V->List Value->Prop:=Paired RelV
theorem Vals.length{xs:List V}{us:List Value}(r:Vals xs us):xs.length=us.length:=Paired.length r
theorem Vals.get:∀{xs:List V} {us:List Value} {i:Nat} {x:V},Vals xs us->xs[i]?=some x->∃u,us[i]?=some u/\RelV x u
 | _,_,_,_,.nil,e=>by simp at e
 | _,_,0,_,.cons r _,e=>by simp at e;subst e;exact⟨_,rfl,r⟩
 | _,_,i+1,x,.cons _ t,e=>by
  obtain⟨u,h1,h2⟩:=Vals.get (i:=i) (x:=x) t (by simpa using e);exact⟨u,by simpa using h1,h2⟩
theorem Vals.set{x:V}{u:Value}(r:RelV x u):∀{xs:List V} {us:List Value} (i:Nat),Vals xs us->Vals (xs.set i x) (us.set i u)
 | _,_,_,.nil=>.nil
 | _,_,0,.cons _ t=>.cons r t
 | _,_,i+1,.cons q t=>.cons q (Vals.set r i t)
theorem Vals.append:∀{xs ys:List V} {us ws:List Value},Vals xs us->Vals ys ws->Vals (xs++ys) (us++ws)
 | _,_,_,_,.nil,s=>s
 | _,_,_,_,.cons r t,s=>.cons r (Vals.append t s)
theorem Vals.take:∀{xs:List V} {us:List Value} (n:Nat),Vals xs us->Vals (xs.take n) (us.take n)
 | _,_,0,_=>.nil
 | _,_,_+1,.nil=>.nil
 | _,_,n+1,.cons r t=>.cons r (Vals.take n t)
theorem Vals.drop:∀{xs:List V} {us:List Value} (n:Nat),Vals xs us->Vals (xs.drop n) (us.drop n)
 | _,_,0,r=>r
 | _,_,_+1,.nil=>.nil
 | _,_,n+1,.cons _ t=>Vals.drop n t
def RelO:Option V->Option Value->Prop
 | some v,some u=>RelV v u
 | none,none=>True
 | _,_=>False
def KV{κ:Type}:List (κ×V)->List (κ×Value)->Prop:=Paired λ(p:κ×V) (q:κ×Value)=>p.1=q.1/\RelV p.2 q.2
def kV:Key->V
 | .inl i=>.int i
 | .inr x=>.str x
inductive HO where
 | lst (xs:List V)
 | tup (xs:List V)
 | dK (kvs:List (Key×V))|dT (kvs:List (List Key×V))
 | set (S:Int->Bool) (n:Nat)
 | ins (C dx:Addr) (fs:List (Str×V))
 | own (x:Addr)
 | xd (fs:List (Str×V))
 | met (f x:Addr)
 | rng (lo hi:Int)
 | frz (o:Obj) (u:HO)
 | tbl (ps:Array Value)
 | ext (φ:Heap->Prop)
abbrev Hp:=Addr->Option HO
def upd(H:Hp)(a:Addr)(o:HO):Hp:=λb=>if b=a then some o else H b
theorem da{H:Hp}{a:Addr}{o:HO}:upd H a o a=some o:=by unfold upd;rw[if_pos rfl]
theorem va{H:Hp}{a b:Addr}{o:HO}(h:b≠a):upd H a o b=H b:=by unfold upd;rw[if_neg h]
theorem zc{H:Hp}{a b:Addr}{o u:HO}(h:H a=some o)(h':H b=some u)(d:o≠u):a≠b:=by
 intro e;subst e;rw[h]at h';exact d (Option.some.inj h')
theorem ba{H:Hp}{a b:Addr}{o:HO}(h:H a=some o)(h':H b=none):a≠b:=by
 intro e;subst e;rw[h]at h';cases h'
section
variable (P : Program) (w : World)
def Bc(H:Hp)(h:Heap)(a:Addr):HO->Prop
 | .lst xs=>xs.length<=sizeLine/\∃(its:List Value) (n:Nat),Vals xs its/\h.get? a=some { cls:=.type "list",data:=.seq its.toArray n }
 | .tup xs=>xs.length<=sizeLine/\∃its:List Value,Vals xs its/\IsTup h a its.toArray
 | .dK kvs=>kvs.length<=sizeLine/\(a==sysModules)=false/\∃vs,KV kvs vs/\h.DictOf (Qb P w) a vs
 | .dT kvs=>kvs.length<=sizeLine/\(a==sysModules)=false/\∃xs:List (List Key×Addr×Value),
  Paired (λ(p:List Key×V) (q:List Key×Addr×Value)=>p.1=q.1/\H q.2.1=some (.tup (p.1.map kV))/\RelV p.2 q.2.2) kvs xs /\
  ∃o es ep,h.get? a=some o/\o.ExactDict/\o.data= .dict es ep/\es.toList=xs.map (entryOfKey (tupleKind (Qb P w)))/\(xs.map (·.1)).Nodup
 | .set S n=>h.SetOf (intKind P w) a S n
 | .ins C dx fs=>H dx=some (.own a)/\fs.length<=1000/\dx≠a/\h.get? a=some (PySem.W.instObj C dx) /\
  ∃mA,h.Ns1 dx mA/\(∀f,RelO (fs.lookup f) (mA f))/\PySem.Within mA (fs.map (·.1))
 | .own _=>∃o,h.get? a=some o
 | .xd fs=>∃mA,h.Ns1 a mA/\∀f,RelO (fs.lookup f) (mA f)
 | .rng lo hi=>∃t u v,h.get? a=some { cls:=.type "range",data:=.fields #[.int lo t,.int hi u,.int 1 v] }
 | .frz o u=>h.get? a=some o/\Bc H h a u
 | .tbl ps=>h.get? a=some { cls:=.none,data:=.fields ps }
 | .met f x=>h.get? a=some (PySem.W.methodObj (.ref f) (.ref x))
 | .ext φ=>φ h/\(∃o,h.get? a=some o)/\∀h1 h2:Heap,φ h1->(∀o,h1.get? a=some o->h2.get? a=some o)->φ h2
def HOk(H:Hp)(h:Heap):Prop:=∀a o,H a=some o->Bc P w H h a o
end
section
variable {P : Program} {w : World} {H H' : Hp} {h h' : Heap} {a : Addr} {o : HO}
theorem Bc.lt(x:Bc P w H h a o):a<h.objs.size:=by
 cases o with
 | lst xs=>obtain⟨_,_,_,_,e⟩:=x;exact Heap.lt_size e
 | tup xs=>obtain⟨_,_,_,p⟩:=x;exact p.lt
 | dK kvs=>obtain⟨_,_,_,_,o,_,_,e,_⟩:=x;exact Heap.lt_size e
 | dT kvs=>obtain⟨_,_,_,_,o,_,_,e,_⟩:=x;exact Heap.lt_size e
 | set S n=>obtain⟨o,_,_,_,e,_⟩:=x;exact Heap.lt_size e
 | ins C dx fs=>obtain⟨_,_,_,e,_⟩:=x;exact Heap.lt_size e
 | own y=>obtain⟨_,e⟩:=x;exact Heap.lt_size e
 | xd fs=>obtain⟨_,⟨_,_,_,e,_⟩,_⟩:=x;exact Heap.lt_size e
 | rng lo hi=>obtain⟨_,_,_,e⟩:=x;exact Heap.lt_size e
 | frz ob u=>obtain⟨e,_⟩:=x;exact Heap.lt_size e
 | tbl ps=>exact Heap.lt_size (show h.get? a=some _ from x)
 | met f y=>exact Heap.lt_size (show h.get? a=some _ from x)
 | ext φ=>obtain⟨_,⟨_,e⟩,_⟩:=x;exact Heap.lt_size e
theorem Paired.mapP{α β:Type}{F G:α->β->Prop}:∀{l₁:List α} {l₂:List β},Paired F l₁ l₂->(∀a b,F a b->G a b)->Paired G l₁ l₂
 | _,_,.nil,_=>.nil
 | _,_,.cons r t,f=>.cons (f _ _ r) (Paired.mapP t f)
theorem Bc.stay(x:Bc P w H h a o)(k:∀b u,(b=a\/H b=some (.own a))->h.get? b=some u->h'.get? b=some u)
 (ho:∀b,H b=some (.own a)->H' b=some (.own a))(ht:∀b xs,H b=some (.tup xs)->H' b=some (.tup xs)):Bc P w H' h' a o:=by
 induction o with
 | lst xs=>obtain⟨z,its,n,r,e⟩:=x;exact⟨z,its,n,r,k _ _ (.inl rfl) e⟩
 | tup xs=>obtain⟨z,its,r,ob,e,c⟩:=x;exact⟨z,its,r,ob,k _ _ (.inl rfl) e,c⟩
 | dK kvs=>obtain⟨z,y,vs,r,ob,es,ep,e,c⟩:=x;exact⟨z,y,vs,r,ob,es,ep,k _ _ (.inl rfl) e,c⟩
 | dT kvs =>
  obtain⟨z,y,xs,r,ob,es,ep,e,c⟩:=x;exact⟨z,y,xs,Paired.mapP r λp q z=>⟨z.1,ht _ _ z.2.1,z.2.2⟩,ob,es,ep,k _ _ (.inl rfl) e,c⟩
 | set S n=>obtain⟨ob,es,ep,t,e,c⟩:=x;exact⟨ob,es,ep,t,k _ _ (.inl rfl) e,c⟩
 | ins C dx fs =>
  obtain⟨d,z,ne,e,mA,⟨od,es,ep,e2,c⟩,r⟩:=x;exact⟨ho _ d,z,ne,k _ _ (.inl rfl) e,mA,⟨od,es,ep,k _ _ (.inr d) e2,c⟩,r⟩
 | own y=>obtain⟨ob,e⟩:=x;exact⟨ob,k _ _ (.inl rfl) e⟩
 | xd fs=>obtain⟨mA,⟨od,es,ep,e,c⟩,r⟩:=x;exact⟨mA,⟨od,es,ep,k _ _ (.inl rfl) e,c⟩,r⟩
 | rng lo hi=>obtain⟨t,u,v,e⟩:=x;exact⟨t,u,v,k _ _ (.inl rfl) e⟩
 | frz ob u ih=>obtain⟨e,q⟩:=x;exact⟨k _ _ (.inl rfl) e,ih q⟩
 | tbl ps =>
  have e:h.get? a=some { cls:=.none,data:=.fields ps }:=x;show h'.get? a=some { cls:=.none,data:=.fields ps };exact k a _ (.inl rfl) e
 | met f y =>
  have e:h.get? a=some (PySem.W.methodObj (.ref f) (.ref y)):=x;show h'.get? a=some (PySem.W.methodObj (.ref f) (.ref y));exact k a _ (.inl rfl) e
 | ext φ=>obtain⟨p,⟨o,e⟩,st⟩:=x;exact⟨st _ _ p λo q=>k _ _ (.inl rfl) q,⟨o,k _ _ (.inl rfl) e⟩,st⟩
theorem HOk.lt(x:HOk P w H h)(e:H a=some o):a<h.objs.size:=(x a o e).lt
theorem HOk.fresh(x:HOk P w H h)(e:h.objs.size<=a):H a=none:=by
 cases q:H a with
 | none=>rfl
 | some u=>exact absurd (Nat.lt_of_lt_of_le (x.lt q) e) (Nat.lt_irrefl _)
theorem HOk.kept(x:HOk P w H h)(k:∀b u,h.get? b=some u->h'.get? b=some u):HOk P w H h':=λa o e =>
 (x a o e).stay (λb u _ q=>k b u q) (λ_ q=>q) λ_ _ q=>q
theorem HOk.laid(x:HOk P w H h)(k:∀b u,h.get? b=some u->h'.get? b=some u)(hp:h.objs.size<=a)(new:Bc P w (upd H a o) h' a o):HOk P w (upd H a o) h':=λb u e=>by
 have hn:=x.fresh hp;by_cases hb:b=a
 . subst hb;rw[da]at e;cases e;exact new
 . rw[va hb]at e
   exact(x b u e).stay (λc v _ q=>k c v q) (λc q=>by rw[va (ba q hn)];exact q) λc xs q=>by rw[va (ba q hn)];exact q
end
def Rd(H:Hp)(a:Addr)(u:HO):Prop:=H a=some u\/∃o,H a=some (.frz o u)
theorem Rd.ok{P:Program}{w:World}{H:Hp}{h:Heap}{a:Addr}{u:HO}(r:Rd H a u)(x:HOk P w H h):Bc P w H h a u:=by
 rcases r with r|⟨o,r⟩
 . exact x a u r
 . obtain⟨_,q⟩:=x a _ r
   exact q
def Mut:Option HO->Prop
 | some (.lst _)=>True
 | some (.dK _)=>True
 | some (.dT _)=>True
 | some (.set _ _)=>True
 | some (.ins _ _ _)=>True
 | some (.ext _)=>True
 | _=>False
section
variable {P : Program} {w : World} {H : Hp} {h h' : Heap} {x e : Addr} {o' : HO}
theorem HOk.write(ok:HOk P w H h)(mu:Mut (H x))(he:e=x\/H e=some (.own x))(k:∀b u,b≠e->h.get? b=some u->h'.get? b=some u)(heo:∃u,h'.get? e=some u)
 (new:Bc P w (upd H x o') h' x o'):HOk P w (upd H x o') h':=λb u q=>by
 have nown:∀c y,H c=some (.own y)->c≠x:=λc y r z=>by subst z;rw[r]at mu;exact mu
 have ntup:∀c xs,H c=some (.tup xs)->c≠x:=λc xs r z=>by subst z;rw[r]at mu;exact mu
 by_cases hb:b=x
 . subst hb;rw[da]at q;cases q;exact new
 . rw [va hb] at q
   by_cases hbe:b=e
   . have q':H b=some (.own x):=by
      rcases he with z|z
      . exact absurd (hbe.trans z) hb
      . rw[hbe];exact z
     rw[q]at q';cases q';obtain⟨v,hv⟩:=heo;exact⟨v,by rw[hbe];exact hv⟩
   . refine(ok b u q).stay (λc v hc r=>k c v ?_ r) (λc r=>by rw[va (nown c b r)];exact r) λc xs r=>by rw[va (ntup c xs r)];exact r
     rcases hc with rfl|hc
     . exact hbe
     . rintro rfl
       rcases he with z|z
       . exact nown c b hc z
       . rw[hc]at z;cases z;exact hb rfl
end
structure Un(fs ex:List Addr)(H H':Hp)(h h':Heap):Prop where
 keep:∀b o,h.get? b=some o->H b=none->b∉fs->b∉ex->h'.get? b=some o
 slot:∀b o,h.get? b=some o->H b=none->b∈fs->b∉ex->∃sl,h'.get? b=some { o with slots:=sl }
 free:∀b o,h.get? b=some o->H b=none->b∉ex->H' b=none
 there:∀b o,h.get? b=some o->b∉ex->∃o',h'.get? b=some o'
 tups:∀b xs,H b=some (.tup xs)->H' b=some (.tup xs)
 frzs:∀b o u,H b=some (.frz o u)->H' b=some (.frz o u)
 tbls:∀b ps,H b=some (.tbl ps)->∃more,H' b=some (.tbl (ps++more))
section
variable {fs fs' ex ex' : List Addr} {H H1 H2 : Hp} {h h1 h2 h' : Heap} {a x e : Addr} {o : HO}
theorem Un.any(u:Un fs ex H H1 h h1){b:Addr}{ob:Obj}(q:h.get? b=some ob)(n:H b=none)(hx:b∉ex):∃sl,h1.get? b=some { ob with slots:=sl }:=by
 by_cases hb:b∈fs
 . exact u.slot b ob q n hb hx
 . exact⟨ob.slots,u.keep b ob q n hb hx⟩
theorem Un.trans(a:Un fs ex H H1 h h1)(b:Un fs ex H1 H2 h1 h2):Un fs ex H H2 h h2 where
 keep:=λc ob q n hc hx=>b.keep c ob (a.keep c ob q n hc hx) (a.free c ob q n hx) hc hx
 slot:=λc ob q n hc hx=>by
  obtain⟨sl,e1⟩:=a.slot c ob q n hc hx;obtain⟨sl',e2⟩:=b.slot c _ e1 (a.free c ob q n hx) hc hx;exact⟨sl',e2⟩
 free:=λc ob q n hx=>by
  obtain⟨o',e1⟩:=a.there c ob q hx;exact b.free c o' e1 (a.free c ob q n hx) hx
 there:=λc ob q hx=>by
  obtain⟨o',e1⟩:=a.there c ob q hx;exact b.there c o' e1 hx
 tups:=λc xs q=>b.tups c xs (a.tups c xs q)
 frzs:=λc ob xs q=>b.frzs c ob xs (a.frzs c ob xs q)
 tbls:=λc ps q=>by
  obtain⟨m1,e1⟩:=a.tbls c ps q;obtain⟨m2,e2⟩:=b.tbls c _ e1;exact⟨m1++m2,by rw[e2,Array.append_assoc]⟩
theorem Un.kept(k:∀b u,h.get? b=some u->h'.get? b=some u):Un fs ex H H h h' :=
 ⟨λb ob q _ _ _=>k b ob q,λb ob q _ _ _=>⟨ob.slots,k b ob q⟩,λ_ _ _ n _=>n,λb ob q _=>⟨ob,k b ob q⟩,λ_ _ q=>q,λ_ _ _ q=>q,λ_ ps q=>⟨#[],by rw[q];simp⟩⟩
theorem Un.refl:Un fs ex H H h h:=Un.kept λ_ _ q=>q
theorem Un.laid(k:∀b u,h.get? b=some u->h'.get? b=some u)(hp:h.objs.size<=a)(hn:H a=none):Un fs ex H (upd H a o) h h' where
 keep:=λb u q _ _ _=>k b u q
 slot:=λb u q _ _ _=>⟨u.slots,k b u q⟩
 free:=λb u q n _=>by rw[va (Nat.ne_of_lt (Nat.lt_of_lt_of_le (Heap.lt_size q) hp))];exact n
 there:=λb u q _=>⟨u,k b u q⟩
 tups:=λb xs q=>by rw[va (ba q hn)];exact q
 frzs:=λb u xs q=>by rw[va (ba q hn)];exact q
 tbls:=λb ps q=>⟨#[],by rw[va (ba q hn),q];simp⟩
theorem Un.write(mu:Mut (H x))(he:e=x\/H e=some (.own x))(k:∀b u,b≠e->h.get? b=some u->h'.get? b=some u)(heo:∃u,h'.get? e=some u):Un fs ex H (upd H x o) h h':=by
 have hx:∀b,H b=none->b≠x:=λb n z=>by subst z;rw[n]at mu;exact mu
 have hb:∀b,H b=none->b≠e:=λb n z=>by
  subst z;rcases he with r|r
  . exact hx b n r
  . rw[n]at r;cases r
 have hm:∀b u,H b=some u->¬Mut (some u)->b≠x:=λb u q nm z=>by subst z;rw[q]at mu;exact nm mu
 refine⟨λb u q n _ _=>k b u (hb b n) q,λb u q n _ _=>⟨u.slots,k b u (hb b n) q⟩,λb u q n _=>by rw[va (hx b n)];exact n,λb u q _=>?_,
  λb xs q=>by rw[va (hm b _ q λz=>z)];exact q,λb u xs q=>by rw[va (hm b _ q λz=>z)];exact q,λb ps q=>⟨#[],by rw[va (hm b _ q λz=>z),q];simp⟩⟩
 by_cases hbe:b=e
 . subst hbe;exact heo
 . exact⟨u,k b u hbe q⟩
end
def trk(h:Heap)(H:Hp):List Addr:=(List.range h.objs.size).filter λa=>(H a).isSome
def hidT(h:Heap)(H:Hp):Heap:=PySem.W.hideAll h (trk h H)
theorem Fs(h:Heap)(H:Hp):(hidT h H).objs.size=h.objs.size:=PySem.W.hideAll_size _ _
theorem Av{h:Heap}{H:Hp}{b:Addr}{o:Obj}(e:h.get? b=some o)(n:H b=none):(hidT h H).get? b=some o :=
 PySem.W.hideAll_get _ e λhm=>by
  have q:(H b).isSome=true:=(List.mem_filter.mp hm).2;rw[n]at q;simp at q
theorem Vy{h:Heap}{H:Hp}{b:Addr}{o:Obj}(e:(hidT h H).get? b=some o):h.get? b=some o/\H b=none:=by
 have e':h.get? b=some o:=PySem.W.of_hideAll (trk h H) e;refine⟨e',?_⟩;cases q:H b with
 | none=>rfl
 | some x =>
  have hm:b∈trk h H:=List.mem_filter.mpr ⟨List.mem_range.mpr (Heap.lt_size e'),by simp[q]⟩;have z:(hidT h H).get? b=none:=PySem.W.hideAll_none (trk h H) hm;rw[z]at e;cases e
def Ez(g h:Heap)(L:Addr):List (Addr×Obj):=(List.range h.objs.size).filterMap λa=>if a=L\/(g.get? a).isSome=true then none else (h.get? a).map λo=>(a,o)
def rest(g h:Heap)(L d:Addr):List (Addr×Obj):=(Ez g h L).filter λp=>decide (p.1≠d)
end L2
namespace L2
open PySem PySem.Spec PyProof.Rows
structure Mod(K:PySem.W.Frag)(mg:Str->Option Value)(base:Heap):Prop where
 kin:K.In base
 glob:base.Ns mainGlobals mg
 blt:∃mb,base.Ns builtinsNs mb/\∀x:Str,x≠"__name__"->mb x=bootBuiltins x
 nolimit:base.NoLimit
structure Cx where
 prog:Program
 w:World
 K:PySem.W.Frag
 mg:Str->Option Value
 base:Heap
 A:Around
 N:List Str
 s₀:Shared
 H₀:Hp
 env:Env
 outer:List Env
 stack:List Env
 ex:List Addr
 fn:Str->Bool
 calm:Bool
 pn:List (Addr×Obj)
 xe:Value->Shared->Prop
def frs(l:List Env):List Addr:=l.filterMap (·.frame)
abbrev Cx.fs(X:Cx):List Addr:=frs X.outer
def Vis(sc:Scope)(x:Str):Prop:=sc.names.lookup x=some .local\/sc.names.lookup x=some .cell\/sc.names.lookup x=some .free
def Loc(sc:Scope)(x:Str):Prop:=sc.names.lookup x=some .local\/sc.names.lookup x=some .cell
def Look(env:Env)(h:Heap)(m:Str->Option Value)(x:Str)(u:Value):Prop :=
 (env.kindOf x=some .local/\m x=some u)\/((env.kindOf x=some .cell\/env.kindOf x=some .free)/\∃c,env.cells.lookup x=some c/\h.IsCell c (some u))
structure Cx.Ok(X:Cx):Prop where
 mod:Mod X.K X.mg X.base
 kind:X.env.scope.kind= .function
 glob:X.env.globals=mainGlobals
 blt:X.env.builtins=builtinsNs
 above:X.s₀.heap.objs.size<=X.env.locals
 inj:∀x y c,X.env.cells.lookup x=some c->X.env.cells.lookup y=some c->x=y
 has:∀x,(X.env.kindOf x=some .cell\/X.env.kindOf x=some .free)->∃c,X.env.cells.lookup x=some c
 cab:∀x c,X.fn x=true->X.env.cells.lookup x=some c->X.s₀.heap.objs.size<=c
 hd:X.calm=true->X.A.handled=none
 frames:X.A.frames=some X.stack
 stk:X.stack=X.outer\/(X.stack=X.env::X.outer/\X.env.frame=some X.env.locals)
 exf:∀b∈X.ex,b≠X.env.locals/\∀x c,X.env.cells.lookup x=some c->c≠b
 bs:∀b o,X.base.get? b=some o->X.s₀.heap.get? b=some o/\X.H₀ b=none
 bsz:X.base.objs.size<=X.s₀.heap.objs.size
 noex:∀b o,X.base.get? b=some o->b∉X.ex
 exfs:∀b∈X.ex,b∉X.fs
 funs:X.s₀.heap.FunFrames X.base X.outer
 frf:∀b∈X.fs,X.H₀ b=none
structure Inv(X:Cx)(pins:List (Addr×Obj))(σ:List (Option V))(H:Hp)(s:Shared):Prop where
 ok:X.Ok
 os:s.os=X.s₀.os
 bare:AllBare s.gens
 base:Un X.fs X.ex X.H₀ H X.s₀.heap s.heap
 loc:∃m,s.heap.Ns X.env.locals m/\∀(i:Nat) (x:Str) (v:V),X.N[i]?=some x->σ[i]?=some (some v)->Vis X.env.scope x->∃u,RelV v u/\Look X.env s.heap m x u
 cell:∀x c,X.env.cells.lookup x=some c->∃v,s.heap.IsCell c v
 free:H X.env.locals=none
 freeC:∀x c,X.env.cells.lookup x=some c->H c=none
 pin:∀p∈X.pn++pins,s.heap.get? p.1=some p.2/\H p.1=none/\p.1≠X.env.locals/\p.1∉X.fs/\∀v,p.2.data≠ .cell v
 hok:HOk X.prog X.w H s.heap
 len:σ.length=X.N.length
section
variable {X : Cx} {pins : List (Addr × Obj)} {σ : List (Option V)} {H H' : Hp} {s : Shared} {h' : Heap}
theorem Cx.Ok.nofr(ok:X.Ok){b:Addr}{o:Obj}(e:X.base.get? b=some o):b∉X.fs:=λhb=>by
 have:=(ok.funs.mem hb).1;rw[e]at this;cases this
theorem Inv.bs(I:Inv X pins σ H s):∀b o,X.base.get? b=some o->s.heap.get? b=some o/\H b=none:=λb o e =>
 ⟨I.base.keep b o (I.ok.bs b o e).1 (I.ok.bs b o e).2 (I.ok.nofr e) (I.ok.noex b o e),I.base.free b o (I.ok.bs b o e).1 (I.ok.bs b o e).2 (I.ok.noex b o e)⟩
theorem Inv.bk(I:Inv X pins σ H s):∀b o,X.base.get? b=some o->s.heap.get? b=some o:=λb o e=>(I.bs b o e).1
theorem Inv.mod(I:Inv X pins σ H s):Mod X.K X.mg X.base:=I.ok.mod
theorem Inv.kIn(I:Inv X pins σ H s):X.K.In s.heap:=I.ok.mod.kin.keeps I.bk
theorem Inv.lt(I:Inv X pins σ H s):X.env.locals<s.heap.objs.size:=let ⟨_,hn,_⟩:=I.loc;hn.lt
theorem Inv.sz(I:Inv X pins σ H s):X.s₀.heap.objs.size<=s.heap.objs.size:=Nat.le_trans I.ok.above (Nat.le_of_lt I.lt)
theorem Inv.nofs(I:Inv X pins σ H s){a:Addr}(h:s.heap.objs.size<=a):a∉X.fs:=λhb=>by
 obtain⟨_,o,ho,_⟩:=I.ok.funs.mem hb;exact absurd (Nat.lt_of_lt_of_le (Heap.lt_size ho) (Nat.le_trans I.sz h)) (Nat.lt_irrefl _)
theorem Inv.cne(I:Inv X pins σ H s):∀x c,X.env.cells.lookup x=some c->c≠X.env.locals:=λx c e z=>by
 obtain⟨v,o,ho,hd⟩:=I.cell x c e;obtain⟨m,⟨o',es,ep,ho',hd',_⟩,_⟩:=I.loc;rw[z,ho']at ho;cases ho;rw[hd']at hd;cases hd
theorem Inv.funs(I:Inv X pins σ H s):s.heap.FunFrames X.base X.outer:=by
 have all:∀(l:List Env),(∀b∈frs l,b∈X.fs)->X.s₀.heap.FunFrames X.base l->s.heap.FunFrames X.base l:=by
  intro l
  induction l with
  | nil=>intro _ _;trivial
  | cons env r ih =>
   intro hs hl;obtain⟨hk,⟨L,o,hf,hn,ho,hd⟩,hr⟩:=hl;have hL:L∈X.fs:=hs L (by unfold frs;rw[List.filterMap_cons,hf];exact List.mem_cons_self);obtain⟨sl,e⟩:=I.base.slot L o ho (I.ok.frf L hL) hL λz=>I.ok.exfs L z hL;exact⟨hk,⟨L,_,hf,hn,e,hd⟩,ih (λb hb=>hs b (by unfold frs;rw[List.filterMap_cons,hf];exact List.mem_cons_of_mem _ hb)) hr⟩
 exact all X.outer (λ_ hb=>hb) I.ok.funs
theorem Inv.stack(I:Inv X pins σ H s):s.heap.FunFrames X.base X.stack:=by
 rcases I.ok.stk with e|⟨e,hf⟩
 . rw[e];exact I.funs
 . rw[e]
   obtain⟨m,hn,_⟩:=I.loc;refine .cons (by rw[I.ok.kind];decide) hf hn ?_ I.funs;exact Heap.get?_none_of_le (Nat.le_trans I.ok.bsz I.ok.above)
theorem Inv.oo(I:Inv X pins σ H s):∀b∈frs X.stack,b∈X.env.locals::X.fs:=λb hb=>by
 rcases I.ok.stk with e|⟨e,hf⟩
 . rw[e]at hb;exact List.mem_cons_of_mem _ hb
 . rw[e]at hb
   unfold frs at hb;rw[List.filterMap_cons,hf]at hb;exact hb
theorem Inv.tq(I:Inv X pins σ H s):∀b∈frs X.stack,H b=none:=λb hb=>by
 rcases List.mem_cons.mp (I.oo b hb) with e|hb
 . rw[e];exact I.free
 . obtain⟨_,o,ho,_⟩:=I.ok.funs.mem hb
   exact I.base.free b o ho (I.ok.frf b hb) λz=>I.ok.exfs b z hb
theorem Inv.step{g':Array GenState}{t':Nat}{d':Drawn}{ch:List Addr}(I:Inv X pins σ H s)
 (hch:∀b∈ch,(b∈X.ex\/X.s₀.heap.objs.size<=b)/\b≠X.env.locals/\(∀x c,X.env.cells.lookup x=some c->c≠b)/\∀p∈X.pn++pins,p.1≠b)
 (keep:∀b o,b≠X.env.locals->b∉X.fs->b∉ch->s.heap.get? b=some o->H b=none->h'.get? b=some o)
 (slot:∀b o,b≠X.env.locals->b∈X.fs->b∉ch->s.heap.get? b=some o->H b=none->∃sl,h'.get? b=some { o with slots:=sl })(free:∀b o,b∉ch->s.heap.get? b=some o->H b=none->H' b=none)
 (there:∀b o,b∉ch->s.heap.get? b=some o->∃o',h'.get? b=some o')
 (tups:∀b xs,H b=some (.tup xs)->H' b=some (.tup xs))(frzs:∀b o u,H b=some (.frz o u)->H' b=some (.frz o u))(tbls:∀b ps,H b=some (.tbl ps)->∃more,H' b=some (.tbl (ps++more)))
 (ns:∀m,s.heap.Ns X.env.locals m->h'.Ns X.env.locals m)(hok:HOk X.prog X.w H' h')(hg:AllBare g') :
 Inv X pins σ H' { s with heap:=h',gens:=g',drawn:=d',toks:=t' }:=by
 have neL:∀b o,X.s₀.heap.get? b=some o->b≠X.env.locals:=λb o e=>Nat.ne_of_lt (Nat.lt_of_lt_of_le (Heap.lt_size e) I.ok.above);have neC:∀b o,X.s₀.heap.get? b=some o->b∉X.ex->b∉ch:=λb o e hx hb=>by
  rcases(hch b hb).1 with z|z
  . exact hx z
  . exact absurd (Nat.lt_of_lt_of_le (Heap.lt_size e) z) (Nat.lt_irrefl _)
 have cellK:∀x c,X.env.cells.lookup x=some c->∀v,s.heap.IsCell c v->h'.IsCell c v:=λx c e v ⟨o,ho,hd⟩=>by
  have nch:c∉ch:=λz=>(hch c z).2.2.1 x c e rfl;by_cases hc:c∈X.fs
  . obtain⟨sl,q⟩:=slot c o (I.cne x c e) hc nch ho (I.freeC x c e)
    exact⟨_,q,hd⟩
  . exact⟨o,keep c o (I.cne x c e) hc nch ho (I.freeC x c e),hd⟩
 refine⟨I.ok,I.os,hg,⟨λb o e n hb hx=>?_,λb o e n hb hx=>?_,λb o e n hx=>?_,λb o e hx=>?_,λb xs e=>tups b xs (I.base.tups b xs e),λb o xs e=>frzs b o xs (I.base.frzs b o xs e),λb ps e=>?_⟩,?_,λx c e=>?_,?_,λx c e=>?_,λp hp=>?_,hok,I.len⟩
 . exact keep b o (neL b o e) hb (neC b o e hx) (I.base.keep b o e n hb hx) (I.base.free b o e n hx)
 . obtain⟨sl,e1⟩:=I.base.slot b o e n hb hx
   obtain⟨sl',e2⟩:=slot b _ (neL b o e) hb (neC b o e hx) e1 (I.base.free b o e n hx);exact⟨sl',e2⟩
 . obtain⟨o',e1⟩:=I.base.there b o e hx
   exact free b o' (neC b o e hx) e1 (I.base.free b o e n hx)
 . obtain⟨o',e1⟩:=I.base.there b o e hx
   exact there b o' (neC b o e hx) e1
 . obtain⟨m1,e1⟩:=I.base.tbls b ps e
   obtain⟨m2,e2⟩:=tbls b _ e1;exact⟨m1++m2,by rw[e2,Array.append_assoc]⟩
 . obtain⟨m,hn,hl⟩:=I.loc
   refine⟨m,ns m hn,λi x v e1 e2 e3=>?_⟩;obtain⟨u,r,l⟩:=hl i x v e1 e2 e3;refine⟨u,r,?_⟩;rcases l with l|⟨k,c,e,z⟩
   . exact .inl l
   . exact .inr ⟨k,c,e,cellK x c e _ z⟩
 . obtain⟨v,z⟩:=I.cell x c e
   exact⟨v,cellK x c e v z⟩
 . obtain⟨m,⟨o,_,_,ho,_⟩,_⟩:=I.loc
   exact free _ o (λz=>(hch _ z).2.1 rfl) ho I.free
 . obtain⟨v,o,ho,hd⟩:=I.cell x c e
   exact free c o (λz=>(hch c z).2.2.1 x c e rfl) ho (I.freeC x c e)
 . obtain⟨e,n,ne,nf,d⟩:=I.pin p hp
   have nch:p.1∉ch:=λz=>(hch p.1 z).2.2.2 p hp rfl;exact⟨keep p.1 p.2 ne nf nch e n,free p.1 p.2 nch e n,ne,nf,d⟩
theorem Inv.un{t':Nat}(I:Inv X pins σ H s)(u:Un X.fs [] H H' s.heap h')(hok:HOk X.prog X.w H' h'):Inv X pins σ H' { s with heap:=h',toks:=t' }:=by
 obtain⟨m,⟨o,es,ep,ho,r⟩,_⟩:=id I.loc;obtain⟨sl,hL⟩:=u.any ho I.free (by simp);exact I.step (g':=s.gens) (d':=s.drawn) (ch:=[]) (λ_ z=>nomatch z) (λb o _ hb _ e n=>u.keep b o e n hb (by simp)) (λb o _ hb _ e n=>u.slot b o e n hb (by simp)) (λb o _ e n=>u.free b o e n (by simp)) (λb o _ e=>u.there b o e (by simp)) u.tups u.frzs u.tbls (λm' hm=>by
  obtain⟨o',es',ep',ho',r'⟩:=hm;rw[ho]at ho';cases ho';exact⟨_,es',ep',hL,r'⟩) hok I.bare
theorem Inv.call{g':Array GenState}{t':Nat}{d':Drawn}{ch:List Addr}(I:Inv X pins σ H s)(u:Un (frs X.stack) ch H H' s.heap h')(hok:HOk X.prog X.w H' h')(hg:AllBare g')
 (hch:∀b∈ch,(b∈X.ex\/X.s₀.heap.objs.size<=b)/\b≠X.env.locals/\(∀x c,X.env.cells.lookup x=some c->c≠b)/\∀p∈X.pn++pins,p.1≠b) :
 Inv X pins σ H' { s with heap:=h',gens:=g',drawn:=d',toks:=t' }:=by
 obtain⟨m,⟨o,es,ep,ho,r⟩,_⟩:=id I.loc;obtain⟨sl,hL⟩:=u.any ho I.free λz=>(hch _ z).2.1 rfl;exact I.step (ch:=ch) hch (λb o hL hb hc e n=>u.keep b o e n (λz=>(List.mem_cons.mp (I.oo b z)).elim hL hb) hc) (λb o _ _ hc e n=>u.any e n hc) (λb o hc e n=>u.free b o e n hc) (λb o hc e=>u.there b o e hc) u.tups u.frzs u.tbls (λm' hm=>by
  obtain⟨o',es',ep',ho',r'⟩:=hm;rw[ho]at ho';cases ho';exact⟨_,es',ep',hL,r'⟩) hok hg
theorem Inv.turned{t':Nat}{it:Addr}(I:Inv X pins σ H s)(k:∀b o,b≠it->s.heap.get? b=some o->h'.get? b=some o)(hn:H it=none)(hL:it≠X.env.locals)
 (h1:it∈X.ex\/X.s₀.heap.objs.size<=it)(h2:∀x c,X.env.cells.lookup x=some c->c≠it)(h3:∀p∈X.pn++pins,p.1≠it):Inv X pins σ H { s with heap:=h',toks:=t' }:=by
 have nit:∀b u,H b=some u->b≠it:=λb u e z=>by rw[z,hn]at e;cases e
 refine I.step (g':=s.gens) (d':=s.drawn) (ch:=[it]) (λb hb=>?_) (λb o _ _ hc e _=>k b o (λz=>hc (by simp[z])) e) (λb o _ _ hc e _=>⟨o.slots,k b o (λz=>hc (by simp[z])) e⟩) (λ_ _ _ _ n=>n)
  (λb o hc e=>⟨o,k b o (λz=>hc (by simp[z])) e⟩) (λ_ _ e=>e) (λ_ _ _ e=>e) (λb ps e=>⟨#[],by rw[e];simp⟩) (λm hm=>?_) (λb u e=>?_) I.bare
 . have e:b=it:=by simpa using hb
   subst e;exact⟨h1,hL,h2,h3⟩
 . obtain⟨o,es,ep,ho,r⟩:=hm
   exact⟨o,es,ep,k _ o (Ne.symm hL) ho,r⟩
 . refine(I.hok b u e).stay (λc v hc q=>k c v ?_ q) (λ_ q=>q) λ_ _ q=>q
   rcases hc with z|z
   . rw[z];exact nit b u e
   . exact nit c _ z
theorem Inv.tok(I:Inv X pins σ H s)(t:Nat):Inv X pins σ H { s with toks:=t }:=I.un (h':=s.heap) (t':=t) Un.refl I.hok
theorem Inv.kept{t':Nat}(I:Inv X pins σ H s)(k:∀b u,s.heap.get? b=some u->h'.get? b=some u):Inv X pins σ H { s with heap:=h',toks:=t' }:=I.un (Un.kept k) (I.hok.kept k)
theorem Inv.laid{a:Addr}{o:HO}{t':Nat}(I:Inv X pins σ H s)(k:∀b u,s.heap.get? b=some u->h'.get? b=some u)(hp:s.heap.objs.size<=a)(new:Bc X.prog X.w (upd H a o) h' a o) :
 Inv X pins σ (upd H a o) { s with heap:=h',toks:=t' }:=I.un (Un.laid k hp (I.hok.fresh hp)) (I.hok.laid k hp new)
theorem Inv.write{x e:Addr}{o:HO}{t':Nat}(I:Inv X pins σ H s)(mu:Mut (H x))(he:e=x\/H e=some (.own x))(k:∀b u,b≠e->s.heap.get? b=some u->h'.get? b=some u)(heo:∃u,h'.get? e=some u)
 (new:Bc X.prog X.w (upd H x o) h' x o):Inv X pins σ (upd H x o) { s with heap:=h',toks:=t' }:=I.un (Un.write mu he k heo) (I.hok.write mu he k heo new)
theorem Inv.Lf{pins':List (Addr×Obj)}(I:Inv X pins σ H s)(h:∀p∈pins',s.heap.get? p.1=some p.2/\H p.1=none/\p.1≠X.env.locals/\p.1∉X.fs/\∀v,p.2.data≠ .cell v):Inv X pins' σ H s :=
 ⟨I.ok,I.os,I.bare,I.base,I.loc,I.cell,I.free,I.freeC,λp hp=>(List.mem_append.mp hp).elim (λz=>I.pin p (List.mem_append_left _ z)) (h p),I.hok,I.len⟩
theorem Eo{N:List Str}(hN:N.Nodup){i j:Nat}{x:Str}(a:N[i]?=some x)(b:N[j]?=some x):i=j:=by
 obtain⟨h1,e1⟩:=List.getElem?_eq_some_iff.mp a;obtain⟨h2,e2⟩:=List.getElem?_eq_some_iff.mp b;exact(List.getElem_inj hN).mp (e1.trans e2.symm)
theorem rq{M:Model}{A:Around}{E:Value->Shared->Prop}{i:Nat}{x:Str}{v:V}{u:Value}{Q:Unit->Shared->Prop}(I:Inv X pins σ H s)(hN:X.N.Nodup)(hi:X.N[i]?=some x)(hx:Loc X.env.scope x)(r:RelV v u)
 (h:∀s',Inv X pins (σ.set i (some v)) H s'->(∃a,Heap.SameBut a s.heap s'.heap/\(a=X.env.locals\/X.env.cells.lookup x=some a))->Q () s')(hf:X.fn x=true\/X.env.scope.names.lookup x=some .local:=by first|exact .inl rfl|exact .inr rfl|assumption|with_unfolding_all exact .inl rfl|with_unfolding_all exact .inr rfl):wpAny M A (storeName X.env x u) Q E s:=by
 obtain⟨m,hn,hl⟩:=id I.loc;have hcls:(X.env.scope.kind== .class||(X.env.scope.kind== .module&&X.env.locals !=X.env.globals))=false:=by rw[I.ok.kind];rfl
 have hiσ:i<σ.length:=by rw[I.len];exact(List.getElem?_eq_some_iff.mp hi).1
 have cne:=I.cne;have tracked:∀{a:Addr} {h':Heap},(∃o,s.heap.get? a=some o/\H a=none)->Heap.SameBut a s.heap h'->HOk X.prog X.w H h':=λ{a h'} ha hs b ob e=>by
  obtain⟨_,_,hfree⟩:=ha;refine(I.hok b ob e).stay (λc w' hc q=>(hs.2 c ?_).trans q) (λ_ q=>q) λ_ _ q=>q;rintro rfl
  rcases hc with rfl|hc
  . rw[hfree]at e;cases e
  . rw[hfree]at hc;cases hc
 rcases hx with hk|hk
 . refine wpAny_storeName_local hk hn (λh' hn' hs=>?_) hcls
   obtain⟨oL,_,_,hoL,_⟩:=id hn;refine h _ ⟨I.ok,I.os,I.bare,⟨λb o e n hb hx=>?_,λb o e n hb hx=>?_,I.base.free,λb o e hx=>?_,I.base.tups,I.base.frzs,I.base.tbls⟩,⟨_,hn',λj y v' e1 e2 e3=>?_⟩,λy c e=>?_,I.free,I.freeC,λp hp=>?_,tracked ⟨oL,hoL,I.free⟩ hs,by simpa using I.len⟩ ⟨_,hs,.inl rfl⟩
   . exact(hs.2 b (Nat.ne_of_lt (Nat.lt_of_lt_of_le (Heap.lt_size e) I.ok.above))).trans (I.base.keep b o e n hb hx)
   . obtain⟨sl,e1⟩:=I.base.slot b o e n hb hx
     exact⟨sl,(hs.2 b (Nat.ne_of_lt (Nat.lt_of_lt_of_le (Heap.lt_size e) I.ok.above))).trans e1⟩
   . obtain⟨o',e1⟩:=I.base.there b o e hx
     exact⟨o',(hs.2 b (Nat.ne_of_lt (Nat.lt_of_lt_of_le (Heap.lt_size e) I.ok.above))).trans e1⟩
   . by_cases hj:j=i
     . subst hj
       rw[hi]at e1;cases e1;rw[List.getElem?_set_self hiσ]at e2;cases e2;exact⟨u,r,.inl ⟨hk,by simp⟩⟩
     . rw[List.getElem?_set_ne (Ne.symm hj)]at e2
       obtain⟨u',r',q⟩:=hl j y v' e1 e2 e3;refine⟨u',r',?_⟩;rcases q with⟨k,e⟩|⟨k,c,e,z⟩
       . refine .inl ⟨k,?_⟩
         have:y≠x:=λe=>hj (Eo hN e1 (e▸hi));simp[this,e]
       . exact .inr ⟨k,c,e,z.sameBut hs (cne y c e)⟩
   . obtain⟨w',z⟩:=I.cell y c e
     exact⟨w',z.sameBut hs (cne y c e)⟩
   . obtain⟨e,n,ne,nf,d⟩:=I.pin p hp
     exact⟨(hs.2 p.1 ne).trans e,n,ne,nf,d⟩
 . have hfn:X.fn x=true:=by
    rcases hf with z|z
    . exact z
    . rw[z]at hk;cases hk
   obtain⟨c,hc⟩:=I.ok.has x (.inl hk);obtain⟨w',z⟩:=I.cell x c hc;refine wpAny_storeName_cell I.ok.kind hk hc z (λh' hc' hs=>?_);obtain⟨oc,hoc,hocd⟩:=id z;refine h { s with heap:=h' } ⟨I.ok,I.os,I.bare,⟨λb o e n hb hx=>?_,λb o e n hb hx=>?_,I.base.free,λb o e hx=>?_,I.base.tups,I.base.frzs,I.base.tbls⟩,⟨m,hn.sameBut hs (Ne.symm (cne x c hc)),λj y v' e1 e2 e3=>?_⟩,λy c' e=>?_,I.free,I.freeC,λp hp=>?_,tracked ⟨oc,hoc,I.freeC x c hc⟩ hs,by simpa using I.len⟩ ⟨c,hs,.inr hc⟩
   . exact(hs.2 b (Nat.ne_of_lt (Nat.lt_of_lt_of_le (Heap.lt_size e) (I.ok.cab x c hfn hc)))).trans (I.base.keep b o e n hb hx)
   . obtain⟨sl,e1⟩:=I.base.slot b o e n hb hx
     exact⟨sl,(hs.2 b (Nat.ne_of_lt (Nat.lt_of_lt_of_le (Heap.lt_size e) (I.ok.cab x c hfn hc)))).trans e1⟩
   . obtain⟨o',e1⟩:=I.base.there b o e hx
     exact⟨o',(hs.2 b (Nat.ne_of_lt (Nat.lt_of_lt_of_le (Heap.lt_size e) (I.ok.cab x c hfn hc)))).trans e1⟩
   . by_cases hj:j=i
     . subst hj
       rw[hi]at e1;cases e1;rw[List.getElem?_set_self hiσ]at e2;cases e2;exact⟨u,r,.inr ⟨.inl hk,c,hc,hc'⟩⟩
     . rw[List.getElem?_set_ne (Ne.symm hj)]at e2
       obtain⟨u',r',q⟩:=hl j y v' e1 e2 e3;refine⟨u',r',?_⟩;rcases q with q|⟨k,c',e,z'⟩
       . exact .inl q
       . refine .inr ⟨k,c',e,z'.sameBut hs ?_⟩
         rintro rfl
         exact hj (Eo hN e1 (I.ok.inj _ _ _ e hc▸hi))
   . by_cases hcc:c'=c
     . subst hcc;exact⟨_,hc'⟩
     . obtain⟨w2,z2⟩:=I.cell y c' e
       exact⟨w2,z2.sameBut hs hcc⟩
   . obtain⟨e,n,ne,nf,d⟩:=I.pin p hp
     refine⟨(hs.2 p.1 ?_).trans e,n,ne,nf,d⟩;intro q;rw[q,hoc]at e;have q':oc=p.2:=Option.some.inj e;exact d w' (by rw[<-q'];exact hocd)
theorem Oj{M:Model}{A:Around}{E:Value->Shared->Prop}{i:Nat}{x:Str}{v:V}{u:Value}{Q:Unit->Shared->Prop}(I:Inv X pins σ H s)(hN:X.N.Nodup)(hi:X.N[i]?=some x)(hx:Loc X.env.scope x)(r:RelV v u)
 (h:∀s',Inv X pins (σ.set i (some v)) H s'->Q () s')(hf:X.fn x=true\/X.env.scope.names.lookup x=some .local:=by first|exact .inl rfl|exact .inr rfl|assumption|with_unfolding_all exact .inl rfl|with_unfolding_all exact .inr rfl):wpAny M A (storeName X.env x u) Q E s :=
 rq I hN hi hx r (λs' I' _=>h s' I') hf
end
abbrev XK:=Value->Option Addr->Hp->Prop
abbrev St:=List (Option V)
abbrev VK:=V->Hp->Prop
abbrev TE:=St->Hp->VK->Prop
abbrev TT:=St->Hp->(Bool->Hp->Prop)->Prop
abbrev TA:=St->Hp->(List V->Hp->Prop)->Prop
structure Ends where
 nx:St->Hp->Prop
 rt:VK
 bk:St->Hp->Prop:=λ_ _=>False
 ct:St->Hp->Prop:=λ_ _=>False
abbrev TS:=Ends->St->Hp->Prop
def EP(X:Cx)(pins:List (Addr×Obj))(σ:St)(Q:VK)(u:Value)(s':Shared):Prop:=∃v H',Inv X pins σ H' s'/\RelV v u/\Q v H'
def TP(X:Cx)(pins:List (Addr×Obj))(σ:St)(Q:Bool->Hp->Prop)(b:Bool)(s':Shared):Prop:=∃H',Inv X pins σ H' s'/\Q b H'
def AP(X:Cx)(pins:List (Addr×Obj))(σ:St)(Q:List V->Hp->Prop)(us:List Value)(s':Shared):Prop:=∃vs H',Inv X pins σ H' s'/\Vals vs us/\Q vs H'
def SP(X:Cx)(pins:List (Addr×Obj))(D:Ends)(f:Flow)(s':Shared):Prop :=
 match f with
 | .next=>∃σ' H',Inv X pins σ' H' s'/\D.nx σ' H'
 | .brk=>∃σ' H',Inv X pins σ' H' s'/\D.bk σ' H'
 | .cont=>∃σ' H',Inv X pins σ' H' s'/\D.ct σ' H'
 | .ret u=>∃v σ' H',Inv X pins σ' H' s'/\RelV v u/\D.rt v H'
def PE(X:Cx)(e:Expr)(t:TE):Prop :=
 ∀(pins:List (Addr×Obj)) (s:Shared) (σ:St) (H:Hp) (Q:VK),Inv X pins σ H s->t σ H Q->wpAny (model X.prog X.w) X.A (eval e X.env) (EP X pins σ Q) X.xe s
def PT(X:Cx)(e:Expr)(t:TT):Prop :=
 ∀(pins:List (Addr×Obj)) (s:Shared) (σ:St) (H:Hp) (Q:Bool->Hp->Prop),Inv X pins σ H s->t σ H Q->wpAny (model X.prog X.w) X.A (isTrue e X.env (eval e X.env)) (TP X pins σ Q) X.xe s
def PW(X:Cx)(e:Expr)(t:TT):Prop :=
 ∀(whole:Sem Value) (pins:List (Addr×Obj)) (s:Shared) (σ:St) (H:Hp) (Q:Bool->Hp->Prop),Inv X pins σ H s->t σ H Q->wpAny (model X.prog X.w) X.A (isTrue e X.env whole) (TP X pins σ Q) X.xe s
theorem PW.pt{X:Cx}{e:Expr}{t:TT}(h:PW X e t):PT X e t:=h _
def PA(X:Cx)(es:List Expr)(t:TA):Prop :=
 ∀(pos:Pos) (pins:List (Addr×Obj)) (s:Shared) (σ:St) (H:Hp) (Q:List V->Hp->Prop),Inv X pins σ H s->t σ H Q->wpAny (model X.prog X.w) X.A (spliced (backTo pos (starEach es X.env))) (AP X pins σ Q) X.xe s
def PS(X:Cx)(st:Stmt)(t:TS):Prop :=
 ∀(pins:List (Addr×Obj)) (s:Shared) (σ:St) (H:Hp) (D:Ends),Inv X pins σ H s->t D σ H->wpAny (model X.prog X.w) X.A (exec st X.env) (SP X pins D) X.xe s
def PSs(X:Cx)(st:List Stmt)(t:TS):Prop :=
 ∀(pins:List (Addr×Obj)) (s:Shared) (σ:St) (H:Hp) (D:Ends),Inv X pins σ H s->t D σ H->wpAny (model X.prog X.w) X.A (execs st X.env) (SP X pins D) X.xe s
theorem thn{α:Type}{t:Sem α}{Q Q':α->Shared->Prop}{M:Model}{A:Around}{E:Value->Shared->Prop}{s:Shared}(h:wpAny M A t Q E s)(hQ:∀a s,Q a s->Q' a s):wpAny M A t Q' E s:=wpAny_mono h hQ λ_ _ x=>x
end L2
namespace L2
open PySem PySem.Spec PyProof.Rows
section
variable {X : Cx}
def tVar(i:Nat):TE:=λσ H Q=>∃v,σ[i]?=some (some v)/\Q v H
def tC(v:V):TE:=λ_ H Q=>Q v H
theorem pe_var{i:Nat}{x:Str}{pos:Pos}(hN:X.N[i]?=some x)(hv:Vis X.env.scope x)(hd:(x==("__debug__":Str))=false:=by decide)(hcd:(x==("__classdict__":Str))=false:=by decide):PE X (.Name x pos) (tVar i):=by
 intro pins s σ H Q I h;obtain⟨v,e,h⟩:=h;obtain⟨m,hn,hl⟩:=I.loc;obtain⟨u,r,l⟩:=hl i x v hN e hv;have fin:EP X pins σ Q u s:=⟨v,H,I,r,h⟩
 rcases l with⟨hk,hm⟩|⟨hk,c,hc,hcell⟩
 . exact wpAny_Name (wpAny_loadName_local I.ok.kind hk hn hm fin) hd
 . rcases hk with hk|hk
   . exact wpAny_Name (wpAny_loadName_cell I.ok.kind hk hc hcell fin) hd
   . exact wpAny_Name (wpAny_loadName_free I.ok.kind hk hc hcell fin hcd) hd
theorem oa{i j pos}:PE X (.Constant (.int i) j pos) (tC (.int i)):=λ_ _ _ H _ I h=>wpAny_Constant_int ⟨.int i,H,I.tok _,⟨_,rfl⟩,h⟩
theorem kh{b j pos}:PE X (.Constant (.bool b) j pos) (tC (.bl b)):=λ_ _ _ H _ I h=>Constant_bool ⟨.bl b,H,I,rfl,h⟩
theorem Ug{j pos}:PE X (.Constant .none j pos) (tC .non):=λ_ _ _ H _ I h=>Constant_none ⟨.non,H,I,rfl,h⟩
theorem za{x j pos}:PE X (.Constant (.str x) j pos) (tC (.str x)):=λ_ _ _ H _ I h=>Calls.Constant_str ⟨.str x,H,I.tok _,⟨_,rfl⟩,h⟩
def Gl(X:Cx)(x:Str):Prop:=X.env.kindOf x=some .globalImplicit
theorem Lk{E:Value->Shared->Prop}{pins:List (Addr×Obj)}{s:Shared}{σ:St}{H:Hp}{x:Str}{u:Value}{pos:Pos}{Q:Value->Shared->Prop}(I:Inv X pins σ H s)(hg:Gl X x)(hm:X.mg x=some u)(h:Q u s)
 (hd:(x==("__debug__":Str))=false:=by decide):wpAny (model X.prog X.w) X.A (eval (.Name x pos) X.env) Q E s :=
 Calls.Name_function_global I.ok.kind hg (Calls.loadGlobal_global (by rw[I.ok.glob];exact I.mod.glob.keeps I.bk) hm h) hd
theorem yf{E:Value->Shared->Prop}{pins:List (Addr×Obj)}{s:Shared}{σ:St}{H:Hp}{x:Str}{u:Value}{pos:Pos}{Q:Value->Shared->Prop}(I:Inv X pins σ H s)(hg:Gl X x)(hm:X.mg x=none)(hv:bootBuiltins x=some u)(h:Q u s)
 (hn:x≠"__name__":=by decide)(hd:(x==("__debug__":Str))=false:=by decide):wpAny (model X.prog X.w) X.A (eval (.Name x pos) X.env) Q E s:=by
 obtain⟨mb,h1,h2⟩:=I.mod.blt;exact Calls.Name_function_global I.ok.kind hg (Calls.loadGlobal_builtin (by rw[I.ok.glob];exact I.mod.glob.keeps I.bk) hm (by rw[I.ok.blt];exact h1.keeps I.bk) ((h2 x hn).trans hv) h) hd
theorem Gr{x:Str}{v:V}{u:Value}{pos:Pos}(hg:Gl X x)(hm:X.mg x=some u)(r:RelV v u)(hd:(x==("__debug__":Str))=false:=by decide):PE X (.Name x pos) (tC v) :=
 λ_ _ _ H _ I h=>Lk I hg hm ⟨v,H,I,r,h⟩ hd
variable {a b : Expr} {ta tb : TE} {pos : Pos}
variable {tA tB' : TT} {rest : List Expr}
def tAnd(t u:TT):TT:=λσ H Q=>t σ H λc H1=>if c=true then u σ H1 Q else Q false H1
def tOr(t u:TT):TT:=λσ H Q=>t σ H λc H1=>if c=true then Q true H1 else u σ H1 Q
def tNot(t:TT):TT:=λσ H Q=>t σ H λc H1=>Q (!c) H1
theorem Kf(ha:PT X a tA):PW X (.BoolOp .And [a] pos) tA:=by
 intro wh pins s σ H Q I h;refine isTrue_and (thn (ha pins s σ H Q I h) λc s1 e=>?_);cases c with
 | true=>exact isTrue_and_nil e
 | false=>exact e
theorem ie(ha:PT X a tA):PW X (.BoolOp .Or [a] pos) tA:=by
 intro wh pins s σ H Q I h;refine isTrue_or (thn (ha pins s σ H Q I h) λc s1 e=>?_);cases c with
 | false=>exact isTrue_or_nil e
 | true=>exact e
theorem Xh(ha:PT X a tA)(hb:PW X (.BoolOp .And (b::rest) pos) tB'):PW X (.BoolOp .And (a::b::rest) pos) (tAnd tA tB'):=by
 intro wh pins s σ H Q I h;refine isTrue_and (thn (ha pins s σ H _ I h) λc s1 hqq=>?_);obtain⟨H1,I1,q1⟩:=hqq;cases c with
 | true=>exact hb wh pins s1 σ H1 Q I1 q1
 | false=>exact⟨H1,I1,q1⟩
theorem fg(ha:PT X a tA)(hb:PW X (.BoolOp .Or (b::rest) pos) tB'):PW X (.BoolOp .Or (a::b::rest) pos) (tOr tA tB'):=by
 intro wh pins s σ H Q I h;refine isTrue_or (thn (ha pins s σ H _ I h) λc s1 hqq=>?_);obtain⟨H1,I1,q1⟩:=hqq;cases c with
 | true=>exact⟨H1,I1,q1⟩
 | false=>exact hb wh pins s1 σ H1 Q I1 q1
theorem Ul(ha:PT X a tA):PT X (.UnaryOp .Not a pos) (tNot tA):=by
 intro pins s σ H Q I h;exact isTrue_not (ha pins s σ H (λc H1=>Q (!c) H1) I h)
def tAndV(ta tb:TE):TE:=λσ H Q=>ta σ H λx H1=>∃c,x= .bl c/\if c=true then tb σ H1 Q else Q (.bl false) H1
theorem Cr{op}{t:TE}(h:PE X a t):PE X (.BoolOp op [a] pos) t:=λpins s σ H Q I hw=>BoolOp_one (h pins s σ H Q I hw)
theorem Zl(ha:PE X a ta)(hb:PE X (.BoolOp .And (b::rest) pos) tb):PE X (.BoolOp .And (a::b::rest) pos) (tAndV ta tb):=by
 intro pins s σ H Q I h;refine BoolOp_and (thn (ha pins s σ H _ I h) λv s1 hqq=>?_);obtain⟨x,H1,I1,r1,q1⟩:=hqq;obtain⟨c,rfl,q1⟩:=q1;cases r1;refine wpAny_truthy_bool ?_;cases c with
 | true=>exact hb pins s1 σ H1 Q I1 q1
 | false=>exact⟨.bl false,H1,I1,rfl,q1⟩
end
end L2
namespace L2
open PySem PySem.Spec PyProof.Rows
def SqL(K:PySem.W.Frag)(H:Hp)(a:Addr)(xs:List V):Prop :=
 Rd H a (.lst xs) \/
  ∃(o:Obj) (its:Array Value) (n:Nat),K.lookup a=some o/\o.cls= .type "list"/\o.dict=none/\o.data= .seq its n/\its.size<=sizeLine/\Vals xs its.toList
def SqT(K:PySem.W.Frag)(H:Hp)(a:Addr)(xs:List V):Prop :=
 Rd H a (.tup xs) \/
  ∃(o:Obj) (its:Array Value) (n:Nat),K.lookup a=some o/\o.cls= .type "tuple"/\o.data= .seq its n/\its.size<=sizeLine/\Vals xs its.toList
def absV:Value->Option V
 | .none=>some .non
 | .bool b=>some (.bl b)
 | .int i _=>some (.int i)
 | .str x _=>some (.str x)
 | .bytes b _=>some (.byt b)
 | .float b _=>some (.flt b)
 | .ref a=>some (.ref a)
 | .type n=>some (.ty n)
 | _=>none
theorem RelV.abs{x:V}{u:Value}(r:RelV x u):absV u=some x:=by
 cases x with
 | non=>cases r;rfl
 | bl _=>cases r;rfl
 | int _=>obtain⟨t,rfl⟩:=r;rfl
 | str _=>obtain⟨t,rfl⟩:=r;rfl
 | byt _=>obtain⟨t,rfl⟩:=r;rfl
 | flt _=>obtain⟨t,rfl⟩:=r;rfl
 | ref _=>cases r;rfl
 | ty _=>cases r;rfl
theorem RelV.inj{x y:V}{u:Value}(r:RelV x u)(q:RelV y u):x=y:=Option.some.inj (r.abs.symm.trans q.abs)
theorem Vals.inj:∀{xs ys:List V} {us:List Value},Vals xs us->Vals ys us->xs=ys
 | _,_,_,.nil,.nil=>rfl
 | _,_,_,.cons r t,.cons r' t'=>by rw[r.inj r',Vals.inj t t']
section
variable {X : Cx} {pins : List (Addr × Obj)} {σ : St} {H : Hp} {s : Shared} {a : Addr} {xs ys : List V}
theorem SqL.of{K:PySem.W.Frag}(h:H a=some (.lst xs)):SqL K H a xs:=.inl (.inl h)
theorem SqT.of{K:PySem.W.Frag}(h:H a=some (.tup xs)):SqT K H a xs:=.inl (.inl h)
theorem Inv.list(I:Inv X pins σ H s)(h:SqL X.K H a xs):∃its:List Value,Vals xs its/\PlainL s.heap a its.toArray/\xs.length<=sizeLine:=by
 rcases h with h|⟨o,its,n,hk,hc,hd,hs,hz,r⟩
 . obtain⟨z,its,n,r,e⟩:=h.ok I.hok
   exact⟨its,r,⟨_,n,e,rfl,rfl,rfl⟩,z⟩
 . refine⟨its.toList,r,⟨o,n,I.kIn a o hk,hc,hd,by simpa using hs⟩,?_⟩
   have e:=r.length;simp only[Array.length_toList]at e;omega
theorem Inv.tuple(I:Inv X pins σ H s)(h:SqT X.K H a xs):∃its:List Value,Vals xs its/\IsTup s.heap a its.toArray/\xs.length<=sizeLine:=by
 rcases h with h|⟨o,its,n,hk,hc,hs,hz,r⟩
 . obtain⟨z,its,r,p⟩:=h.ok I.hok
   exact⟨its,r,p,z⟩
 . refine⟨its.toList,r,⟨o,I.kIn a o hk,hc,n,by simpa using hs⟩,?_⟩
   have e:=r.length;simp only[Array.length_toList]at e;omega
theorem Inv.Fo(I:Inv X pins σ H s)(h:SqL X.K H a xs)(h':SqL X.K H a ys):xs=ys:=by
 obtain⟨its,r,⟨o,n,e,_,_,d⟩,_⟩:=I.list h;obtain⟨its',r',⟨o',n',e',_,_,d'⟩,_⟩:=I.list h';rw[e]at e';cases e';rw[d]at d';injection d' with d1 _
 have:its=its':=by simpa using congrArg Array.toList d1
 subst this;exact r.inj r'
theorem Inv.Fl(I:Inv X pins σ H s)(h:SqT X.K H a xs)(h':SqT X.K H a ys):xs=ys:=by
 obtain⟨its,r,⟨o,e,_,n,d⟩,_⟩:=I.tuple h;obtain⟨its',r',⟨o',e',_,n',d'⟩,_⟩:=I.tuple h';rw[e]at e';cases e';rw[d]at d';injection d' with d1 _
 have:its=its':=by simpa using congrArg Array.toList d1
 subst this;exact r.inj r'
end
abbrev Cx.wish(X:Cx)(E:Value->Shared->Prop):Cx:={ X with xe:=E }
abbrev Cx.nox(X:Cx):Cx:=X.wish λ_ _=>False
theorem Cx.Ok.wish{X:Cx}(ok:X.Ok)(E:Value->Shared->Prop):(X.wish E).Ok :=
 ⟨ok.mod,ok.kind,ok.glob,ok.blt,ok.above,ok.inj,ok.has,ok.cab,ok.hd,ok.frames,ok.stk,ok.exf,ok.bs,ok.bsz,ok.noex,ok.exfs,ok.funs,ok.frf⟩
theorem Cx.Ok.Qg{X:Cx}{E:Value->Shared->Prop}(ok:(X.wish E).Ok):X.Ok :=
 ⟨ok.mod,ok.kind,ok.glob,ok.blt,ok.above,ok.inj,ok.has,ok.cab,ok.hd,ok.frames,ok.stk,ok.exf,ok.bs,ok.bsz,ok.noex,ok.exfs,ok.funs,ok.frf⟩
section
variable {X : Cx} {pins : List (Addr × Obj)} {σ : St} {H : Hp} {s : Shared} {E : Value -> Shared -> Prop}
theorem Inv.wish(I:Inv X pins σ H s)(E:Value->Shared->Prop):Inv (X.wish E) pins σ H s:=⟨I.ok.wish E,I.os,I.bare,I.base,I.loc,I.cell,I.free,I.freeC,I.pin,I.hok,I.len⟩
theorem Inv.Qg(I:Inv (X.wish E) pins σ H s):Inv X pins σ H s:=⟨I.ok.Qg,I.os,I.bare,I.base,I.loc,I.cell,I.free,I.freeC,I.pin,I.hok,I.len⟩
theorem SP.Qg{D:Ends}{f:Flow}{s':Shared}(h:SP (X.wish E) pins D f s'):SP X pins D f s':=by
 cases f with
 | next=>obtain⟨σ',H',I,q⟩:=h;exact⟨σ',H',I.Qg,q⟩
 | brk=>obtain⟨σ',H',I,q⟩:=h;exact⟨σ',H',I.Qg,q⟩
 | cont=>obtain⟨σ',H',I,q⟩:=h;exact⟨σ',H',I.Qg,q⟩
 | ret u=>obtain⟨v,σ',H',I,r,q⟩:=h;exact⟨v,σ',H',I.Qg,r,q⟩
theorem PSs.nox{st:List Stmt}{t:TS}(h:PSs X.nox st t):PSs X st t:=λpins s σ H D I hw =>
 wpAny_mono (h pins s σ H D (I.wish _) hw) (λ_ _ q=>q.Qg) λ_ _ z=>False.elim z
end
section
variable {X : Cx} {st : Stmt} {rest : List Stmt} {t u : TS} {e : Expr} {te : TE} {pos : Pos}
def tNext:TS:=λD σ H=>D.nx σ H
def tSeq(t u:TS):TS:=λD σ H=>t { D with nx:=u D } σ H
theorem Ca:PSs X [] tNext:=λ_ _ σ H _ I h=>wpAny_execs_nil ⟨σ,H,I,h⟩
theorem ja(h1:PS X st t)(h2:PSs X rest u):PSs X (st::rest) (tSeq t u):=by
 intro pins s σ H D I h;refine wpAny_execs_cons (thn (h1 pins s σ H { D with nx:=u D } I h) λf s1 q=>?_);cases f with
 | next =>
  obtain⟨σ',H',I',q⟩:=q;exact h2 pins s1 σ' H' D I' q
 | ret v=>exact q
 | brk=>exact q
 | cont=>exact q
theorem ka(h1:PS X st t):PSs X [st] t:=by
 intro pins s σ H D I h;refine wpAny_execs_cons (thn (h1 pins s σ H D I h) λf s1 q=>?_);cases f with
 | next=>exact wpAny_execs_nil q
 | ret v=>exact q
 | brk=>exact q
 | cont=>exact q
theorem Inv.quiet{pins:List (Addr×Obj)}{σ:St}{H:Hp}{s:Shared}(I:Inv X pins σ H s):interactive X.env=false:=by simp[interactive,I.ok.kind]
def tDrop(te:TE):TS:=λD σ H=>te σ H λ_ H1=>D.nx σ H1
theorem Ta(he:PE X e te)(hs:swapsWith e none pos.line X.env=pure false:=by first|rfl|with_unfolding_all rfl):PS X (.Expr e pos) (tDrop te):=by
 intro pins s σ H D I h;exact wpAny_Expr_any (thn (he pins s σ H _ I h) λv s1 ⟨x,H1,I1,r1,q1⟩=>⟨σ,H1,I1,q1⟩) I.quiet hs
def tRet(te:TE):TS:=λD σ H=>te σ H D.rt
theorem xa(he:PE X e te):PS X (.Return (some e) pos) (tRet te):=by
 intro pins s σ H D I h;exact wpAny_Return_some (thn (he pins s σ H _ I h) λv s1 ⟨x,H1,I1,r1,q1⟩=>⟨x,σ,H1,I1,r1,q1⟩)
def tIfS(c:TT)(t u:TS):TS:=λD σ H=>c σ H λb H1=>if b=true then t D σ H1 else u D σ H1
theorem Oa{c:Expr}{a b:List Stmt}{tc:TT}(hc:PT X c tc)(ha:PSs X a t)(hb:PSs X b u):PS X (.If c a b pos) (tIfS tc t u):=by
 intro pins s σ H D I h;refine wpAny_If (thn (hc pins s σ H _ I h) λd s1 hqq=>?_);obtain⟨H1,I1,q1⟩:=hqq;cases d with
 | true=>exact ha pins s1 σ H1 D I1 q1
 | false=>exact hb pins s1 σ H1 D I1 q1
def tNever:TS:=λ_ _ _=>False
theorem Va:PS X st tNever:=λ_ _ _ _ _ _ h=>h.elim
end
abbrev TG:=V->St->Hp->(St->Hp->Prop)->Prop
abbrev TGs:=List V->St->Hp->(St->Hp->Prop)->Prop
def PG(X:Cx)(target:Expr)(t:TG):Prop :=
 ∀(pins:List (Addr×Obj)) (s:Shared) (σ:St) (H:Hp) (v:V) (u:Value) (Q:St->Hp->Prop),Inv X pins σ H s->RelV v u->t v σ H Q ->
  wpAny (model X.prog X.w) X.A (assign target X.env u) (λ_ s'=>∃σ' H',Inv X pins σ' H' s'/\Q σ' H') X.xe s
def PGs(X:Cx)(ts:List Expr)(t:TGs):Prop :=
 ∀(pins:List (Addr×Obj)) (s:Shared) (σ:St) (H:Hp) (vs:List V) (us:List Value) (Q:St->Hp->Prop),Inv X pins σ H s->Vals vs us->t vs σ H Q ->
  wpAny (model X.prog X.w) X.A (assignInOrder ((assignEach ts X.env).map (·.2)) us) (λ_ s'=>∃σ' H',Inv X pins σ' H' s'/\Q σ' H') X.xe s
abbrev TSet:=V->V->V->Hp->(Hp->Prop)->Prop
def PSet(X:Cx)(t:TSet):Prop :=
 ∀(pins:List (Addr×Obj)) (s:Shared) (σ:St) (H:Hp) (o i v:V) (ov iv u:Value) (Q:Hp->Prop),Inv X pins σ H s->RelV o ov->RelV i iv->RelV v u->t o i v H Q ->
  wpAny (model X.prog X.w) X.A (setItem ov iv u) (λ_ s'=>∃H',Inv X pins σ H' s'/\Q H') X.xe s
abbrev TIp:=V->V->Hp->VK->Prop
def PIp(X:Cx)(op:Operator)(t:TIp):Prop :=
 ∀(pins:List (Addr×Obj)) (s:Shared) (σ:St) (H:Hp) (x y:V) (v u:Value) (Q:VK),Inv X pins σ H s->RelV x v->RelV y u->t x y H Q ->
  wpAny (model X.prog X.w) X.A (inplaceOp op v u) (EP X pins σ Q) X.xe s
section
variable {X : Cx} {pos : Pos}
def Mn(i:Nat):TG:=λv σ H Q=>Q (σ.set i (some v)) H
theorem Ga{i:Nat}{x:Str}(hN:X.N.Nodup)(hi:X.N[i]?=some x)(hx:Loc X.env.scope x)(hf:X.fn x=true\/X.env.scope.names.lookup x=some .local:=by first|exact .inl rfl|exact .inr rfl|assumption|with_unfolding_all exact .inl rfl|with_unfolding_all exact .inr rfl):PG X (.Name x pos) (Mn i):=by
 intro pins s σ H v u Q I r h;exact wpAny_assign_Name (Oj I hN hi hx r (λs' I'=>⟨_,H,I',h⟩) hf)
def gNil:TGs:=λvs σ H Q=>vs=[]/\Q σ H
def gCons(t:TG)(u:TGs):TGs:=λvs σ H Q=>∃v r,vs=v::r/\t v σ H λσ' H'=>u r σ' H' Q
theorem Kc:PGs X [] gNil:=by
 intro pins s σ H vs us Q I r h;obtain⟨e,h⟩:=h;subst e;cases r;exact assignInOrder_nil ⟨σ,H,I,h⟩
theorem Qa{e:Expr}{es:List Expr}{t:TG}{u:TGs}(h1:PG X e t)(h2:PGs X es u)
 (hs:(assignEach (e::es) X.env).map (·.2)=assign e X.env::(assignEach es X.env).map (·.2):=by first|rfl|with_unfolding_all rfl):PGs X (e::es) (gCons t u):=by
 intro pins s σ H vs us Q I r h;obtain⟨v,vr,e1,h⟩:=h;subst e1;cases r with
 | cons r rr =>
  rw[hs];refine assignInOrder_cons (thn (h1 pins s σ H _ _ _ I r h) λ_ s1 hqq=>?_);obtain⟨σ1,H1,I1,q1⟩:=hqq;exact h2 pins s1 σ1 H1 _ _ Q I1 rr q1
def gTup(K:PySem.W.Frag)(n:Nat)(t:TGs):TG:=λv σ H Q=>∃a xs,v= .ref a/\SqT K H a xs/\xs.length=n/\t xs σ H Q
theorem pg_tup{es:List Expr}{k:Nat}{t:TGs}{n:Nat}(hc:X.calm=true)(h:PGs X es t)
 (hn:(assignEach es X.env).length=n:=by first|rfl|with_unfolding_all rfl)(hst:(assignEach es X.env).findIdx? (·.1)=none:=by first|rfl|with_unfolding_all rfl):PG X (.Tuple es k pos) (gTup X.K n t):=by
 intro pins s σ H v u Q I r hw;obtain⟨a,xs,e1,hq,hl,hw⟩:=hw;subst e1;cases r;obtain⟨its,rv,ht,hz⟩:=I.tuple hq;refine assign_Tuple_tuple (I.ok.hd hc) ht (by simp[hn,<-hl,rv.length]) hst λh' hx=>?_;have I1:Inv X pins σ H { s with heap:=h' }:=I.kept (t':=s.toks) λb o e=>hx b o (Nat.ne_of_lt (Heap.lt_size e)) e;exact h pins _ σ H xs _ Q I1 (by simpa using rv) hw
def gSub(to ti:TE)(t:TSet):TG:=λv σ H Q=>to σ H λo H1=>ti σ H1 λi H2=>t o i v H2 λH3=>Q σ H3
theorem Zh{o i:Expr}{to ti:TE}{t:TSet}(ho:PE X o to)(hi:PE X i ti)(hs:PSet X t)
 (ha:∀v,assign (.Subscript o i pos) X.env v=(do
   let ov<-holding [v] (eval o X.env)
   let iv<-holding [v,ov] (eval i X.env)
   standAt pos
   holding [v,ov,iv] (setItem ov iv v)
   release [v,ov,iv] []):=by intro _;first|rfl|with_unfolding_all rfl):PG X (.Subscript o i pos) (gSub to ti t):=by
 intro pins s σ H v u Q I r h;rw[ha];refine wpAny_bind (wpAny_holding (thn (ho pins s σ H _ I h) λov s1 hqq=>?_));obtain⟨x,H1,I1,r1,q1⟩:=hqq;refine wpAny_bind (wpAny_holding (thn (hi pins s1 σ H1 _ I1 q1) λiv s2 hqq=>?_));obtain⟨y,H2,I2,r2,q2⟩:=hqq;refine wpAny_bind (wpAny_standAt (wpAny_bind (wpAny_holding (thn (hs pins s2 σ H2 x y v ov iv u _ I2 r1 r2 r q2) λ_ s3 hqq=>?_))));obtain⟨H3,I3,q3⟩:=hqq;exact wpAny_release ⟨σ,H3,I3,q3⟩
def tAsg(te:TE)(g:TG):TS:=λD σ H=>te σ H λx H1=>g x σ H1 D.nx
theorem Tg{tg e:Expr}{te:TE}{g:TG}(he:PE X e te)(hg:PG X tg g)(hs:swapsWithSole [tg] e pos.line X.env=pure false:=by first|rfl|with_unfolding_all rfl)(hw:swappedStores [tg] e X.env=pure none:=by first|rfl|with_unfolding_all rfl)
 (h1:(assignEach [tg] X.env).map (·.2)=[assign tg X.env]:=by first|rfl|with_unfolding_all rfl):PS X (.Assign [tg] e pos) (tAsg te g):=by
 intro pins s σ H D I h;refine wpAny_Assign_stores (thn (he pins s σ H _ I h) λv s1 ⟨x,H1,I1,r1,q1⟩=>?_) hs hw;rw[h1];exact thn (hg pins s1 σ H1 x v _ I1 r1 q1) λ_ s2 q=>q
theorem Ia{i:Nat}{x:Str}{e:Expr}{te:TE}{pos':Pos}(hN:X.N.Nodup)(hi:X.N[i]?=some x)(hx:Loc X.env.scope x)(he:PE X e te)(hs:swapsWith e (some (.Name x pos')) pos.line X.env=pure false:=by first|rfl|with_unfolding_all rfl)(hf:X.fn x=true\/X.env.scope.names.lookup x=some .local:=by first|exact .inl rfl|exact .inr rfl|assumption|with_unfolding_all exact .inl rfl|with_unfolding_all exact .inr rfl) :
 PS X (.Assign [.Name x pos'] e pos) (tAsg te (Mn i)):=by
 intro pins s σ H D I h;refine wpAny_Assign_Name (thn (he pins s σ H _ I h) λv s1 ⟨y,H1,I1,r1,q1⟩=>?_) hs;exact Oj I1 hN hi hx r1 (λs2 I2=>⟨_,H1,I2,q1⟩) hf
def tAug(i:Nat)(te:TE)(ti:TIp):TS:=λD σ H=>∃x,σ[i]?=some (some x)/\te σ H λy H1=>ti x y H1 λz H2=>D.nx (σ.set i (some z)) H2
theorem kr{i:Nat}{x:Str}{e:Expr}{te:TE}{op:Operator}{ti:TIp}{pos':Pos}(hN:X.N.Nodup)(hi:X.N[i]?=some x)(hx:Loc X.env.scope x)(he:PE X e te)(ho:PIp X op ti)(hf:X.fn x=true\/X.env.scope.names.lookup x=some .local:=by first|exact .inl rfl|exact .inr rfl|assumption|with_unfolding_all exact .inl rfl|with_unfolding_all exact .inr rfl) :
 PS X (.AugAssign (.Name x pos') op e pos) (tAug i te ti):=by
 intro pins s σ H D I h;obtain⟨v,e1,h⟩:=h;obtain⟨m,hn,hl⟩:=I.loc;have vis:Vis X.env.scope x:=by rcases hx with k|k;exact .inl k;exact .inr (.inl k)
 obtain⟨u,r,l⟩:=hl i x v hi e1 vis;refine wpAny_AugAssign_Name ?_;have go:wpAny (model X.prog X.w) X.A (eval e X.env) (λw s₂=>wpAny (model X.prog X.w) X.A (inplaceOp op u w) (λr s₃=>wpAny (model X.prog X.w) X.A (storeName X.env x r) (λ_=>SP X pins D .next) X.xe s₃) X.xe s₂) X.xe s:=by
  refine thn (he pins s σ H _ I h) λw s1 hqq=>?_;obtain⟨y,H1,I1,r1,q1⟩:=hqq;refine thn (ho pins s1 σ H1 v y u w _ I1 r r1 q1) λz s2 hqq=>?_;obtain⟨zv,H2,I2,r2,q2⟩:=hqq;exact Oj I2 hN hi hx r2 (λs3 I3=>⟨_,H2,I3,q2⟩) hf
 rcases l with⟨hk,hm⟩|⟨hk,c,hc,hcell⟩
 . exact wpAny_loadName_local I.ok.kind hk hn hm go
 . rcases hk with hk|hk
   . exact wpAny_loadName_cell I.ok.kind hk hc hcell go
   . rcases hx with k|k
     . have:X.env.scope.names.lookup x=some .free:=hk
       rw[k]at this;cases this
     . have:X.env.scope.names.lookup x=some .free:=hk
       rw[k]at this;cases this
def ipI(f:Int->Int->Int):TIp:=λx y H Q=>∃i j,x= .int i/\y= .int j/\Q (.int (f i j)) H
theorem Fw:PIp X .Sub (ipI λi j=>i-j):=by
 intro pins s σ H x y v u Q I r1 r2 h;obtain⟨i,j,e1,e2,q⟩:=h;subst e1;subst e2;obtain⟨t,rfl⟩:=r1;obtain⟨t',rfl⟩:=r2;exact isub_int ⟨.int _,H,I.tok _,⟨_,rfl⟩,q⟩
end
structure It where
 go:Nat->Hp->Prop
 yld:Nat->Hp->V->Hp->Prop
 stop:Nat->Hp->Prop
def FpOk(X:Cx)(pins:List (Addr×Obj))(H:Hp)(b:Addr):Prop :=
 H b=none/\b≠X.env.locals/\b∉X.fs/\(b∈X.ex\/X.s₀.heap.objs.size<=b)/\(∀x c,X.env.cells.lookup x=some c->c≠b)/\∀p∈X.pn++pins,p.1≠b
theorem Inv.fpOk{X:Cx}{pins:List (Addr×Obj)}{σ:St}{H H':Hp}{s:Shared}{b:Addr}(I:Inv X pins σ H s)(hb:s.heap.objs.size<=b)(hn:H' b=none):FpOk X pins H' b:=by
 refine⟨hn,Nat.ne_of_gt (Nat.lt_of_lt_of_le I.lt hb),I.nofs hb,.inr (Nat.le_trans I.sz hb),λx c e z=>?_,λp hp z=>?_⟩
 . obtain⟨v,q⟩:=I.cell x c e
   exact absurd (Nat.lt_of_lt_of_le q.lt (by rw[z];exact hb)) (Nat.lt_irrefl _)
 . exact absurd (Nat.lt_of_lt_of_le (Heap.lt_size (I.pin p hp).1) (by rw[z];exact hb)) (Nat.lt_irrefl _)
structure Turn(P:Program)(w:World)(K:PySem.W.Frag)(tg:Expr)(J:It)(fp:List Addr)(it:Addr)(tn:Nat->Heap->Prop):Prop where
 mem:it∈fp
 obj:∀i h,tn i h->∀b∈fp,∃o,h.get? b=some o/\∀v,o.data≠ .cell v
 keep:∀i h h',tn i h->(∀b∈fp,∀o,h.get? b=some o->h'.get? b=some o)->tn i h'
 item:∀(X:Cx),X.prog=P->X.w=w->X.K=K->X.calm=true->∀(i:Nat) (pins:List (Addr×Obj)) (s:Shared) (σ:St) (H:Hp) (E:Value->Shared->Prop),Inv X pins σ H s->(∀b∈fp,FpOk X pins H b)->tn i s.heap->J.go i H ->
  wpAny (model P w) X.A (pyNext (.ref it)) (λr s1=>∃u,r=some u /\
   wpAny (model P w) X.A (letOwnedTupleGo tg (.ref it) u) (λ_ s2=>∃x H',Inv X pins σ H' s2/\RelV x u/\J.yld i H x H'/\tn (i+1) s2.heap/\∀b∈fp,H' b=none) E s1) E s
 done:∀(X:Cx),X.prog=P->X.w=w->X.K=K->X.calm=true->∀(i:Nat) (pins:List (Addr×Obj)) (s:Shared) (σ:St) (H:Hp) (E:Value->Shared->Prop),Inv X pins σ H s->(∀b∈fp,FpOk X pins H b)->tn i s.heap->J.stop i H ->
  wpAny (model P w) X.A (pyNext (.ref it)) (λr s1=>r=none/\Inv X pins σ H s1) E s
 self:∀(A:Around) (i:Nat) (s:Shared) (Q:Value->Shared->Prop) (E:Value->Shared->Prop),tn i s.heap->Q (.ref it) s->wpAny (model P w) A (pyIter (.ref it)) Q E s
abbrev TI:=St->Hp->(It->Hp->Prop)->Prop
def PIE(X:Cx)(pins:List (Addr×Obj))(σ:St)(tg:Expr)(R:It->Hp->Prop)(itv:Value)(s2:Shared):Prop :=
 ∃(it:Addr) (fp:List Addr) (tn:Nat->Heap->Prop) (J:It) (H':Hp),itv= .ref it/\Inv X pins σ H' s2/\Turn X.prog X.w X.K tg J fp it tn/\tn 0 s2.heap/\(∀b∈fp,FpOk X pins H' b)/\R J H'
def PI(X:Cx)(tg iter:Expr)(wi:TI):Prop :=
 ∀(pins:List (Addr×Obj)) (s:Shared) (σ:St) (H:Hp) (R:It->Hp->Prop),Inv X pins σ H s->wi σ H R ->
  wpAny (model X.prog X.w) X.A (eval iter X.env) (λv s1=>wpAny (model X.prog X.w) X.A (pyIter v) (PIE X pins σ tg R) X.xe s1) X.xe s
theorem oz{M:Model}{A:Around}{E:Value->Shared->Prop}{s:Shared}{tg:Expr}{it:Addr}{u:Value}{o:Obj}{n:String}{vs:Array Value}{Q:Unit->Shared->Prop}(ho:s.heap.get? it=some o)(hc:o.cls= .type n)(hd:o.data= .fields vs)
 (hn:["enumerate","zip","dict_itemiterator","dict_reverseitemiterator","odict_iterator","itertools.zip_longest","itertools.pairwise"].contains n=false)(hQ:Q () s):wpAny M A (letOwnedTupleGo tg (.ref it) u) Q E s:=by
 unfold letOwnedTupleGo;cases tg<;>first
  | exact wpAny_pure hQ
  | (cases u<;>first
      | exact wpAny_pure hQ
      | (refine wpAny_bind (wpAny_load ho ?_)
         rw[hc,hd];show wpAny M A (if (["enumerate","zip","dict_itemiterator","dict_reverseitemiterator","odict_iterator","itertools.zip_longest","itertools.pairwise"].contains n&&vs[0]?==some (rawInt _))=true then _ else _) Q E s;rw[if_neg (by intro h;rw[hn,Bool.false_and]at h;cases h)];exact wpAny_pure hQ))
def Itl(K:PySem.W.Frag)(a:Addr):It :=
 ⟨λi H=>∃xs x,SqL K H a xs/\xs[i]?=some x,λi H x H'=>H'=H/\∀xs,SqL K H a xs->xs[i]?=some x,λi H=>∃xs,SqL K H a xs/\xs.length<=i⟩
def Itt(K:PySem.W.Frag)(a:Addr):It :=
 ⟨λi H=>∃xs x,SqT K H a xs/\xs[i]?=some x,λi H x H'=>H'=H/\∀xs,SqT K H a xs->xs[i]?=some x,λi H=>∃xs,SqT K H a xs/\xs.length<=i⟩
def Itr(lo:Int)(n:Nat):It:=⟨λi _=>i<n,λi H x H'=>H'=H/\x= .int (lo+i),λi _=>n<=i⟩
theorem Dl{P:Program}{w:World}{K:PySem.W.Frag}{tg:Expr}(a it:Addr):Turn P w K tg (Itl K a) [it] it (λi h=>h.IsListIter it a i) where
 mem:=by simp
 obj:=λi h st b hb=>by
  have e:b=it:=by simpa using hb
  subst e;obtain⟨o,e,c,d⟩:=st;exact⟨o,e,λv z=>by rw[d]at z;cases z⟩
 keep:=λi h h' st k=>st.at λo e=>k it (by simp) o e
 item:=by
  intro X hP hw hK hc i pins s σ H E I hf st hg;subst hP hw hK;obtain⟨xs,x,hq,hx⟩:=hg;obtain⟨its,rv,p,hz⟩:=I.list hq;obtain⟨u,hu,ru⟩:=rv.get hx;obtain⟨f0,f1,f2,f3,f4,f5⟩:=hf it (by simp);refine wpAny_pyNext_list_item st p.isList (x:=u) (by simpa using hu) λh' st' sb=>?_;have I1:Inv X pins σ H { s with heap:=h' }:=I.turned (t':=s.toks) (λb o hb e=>(sb.2 b hb).trans e) f0 f1 f3 f4 f5;obtain⟨o,e,c,d⟩:=id st';exact⟨u,rfl,oz (s:={ s with heap:=h' }) e c d (by decide) ⟨x,H,I1,ru,⟨rfl,λys hy=>by rw[I.Fo hy hq];exact hx⟩,st',λb hb=>(hf b hb).1⟩⟩
 done:=by
  intro X hP hw hK hc i pins s σ H E I hf st hg;subst hP hw hK;obtain⟨xs,hq,hx⟩:=hg;obtain⟨its,rv,p,hz⟩:=I.list hq;obtain⟨f0,f1,f2,f3,f4,f5⟩:=hf it (by simp);have hl:=rv.length;exact wpAny_pyNext_list_end (I.ok.hd hc) st p.isList (by simp;omega) λh' eb=>⟨rfl,I.turned (t':=s.toks) (λb o hb e=>eb b o hb e) f0 f1 f3 f4 f5⟩
 self:=λ_ _ _ _ _ st h=>wpAny_pyIter_listiter st h
theorem oj{P:Program}{w:World}{K:PySem.W.Frag}{tg:Expr}(a it:Addr):Turn P w K tg (Itt K a) [it] it (λi h=>h.IsTupleIter it a i) where
 mem:=by simp
 obj:=λi h st b hb=>by
  have e:b=it:=by simpa using hb
  subst e;obtain⟨o,e,c,d⟩:=st;exact⟨o,e,λv z=>by rw[d]at z;cases z⟩
 keep:=λi h h' st k=>st.at λo e=>k it (by simp) o e
 item:=by
  intro X hP hw hK hc i pins s σ H E I hf st hg;subst hP hw hK;obtain⟨xs,x,hq,hx⟩:=hg;obtain⟨its,rv,p,hz⟩:=I.tuple hq;obtain⟨u,hu,ru⟩:=rv.get hx;obtain⟨f0,f1,f2,f3,f4,f5⟩:=hf it (by simp);refine wpAny_pyNext_tuple_item st (show s.heap.IsTuple a its.toArray from p) (x:=u) (by simpa using hu) λh' st' sb=>?_;have I1:Inv X pins σ H { s with heap:=h' }:=I.turned (t':=s.toks) (λb o hb e=>(sb.2 b hb).trans e) f0 f1 f3 f4 f5;obtain⟨o,e,c,d⟩:=id st';exact⟨u,rfl,oz (s:={ s with heap:=h' }) e c d (by decide) ⟨x,H,I1,ru,⟨rfl,λys hy=>by rw[I.Fl hy hq];exact hx⟩,st',λb hb=>(hf b hb).1⟩⟩
 done:=by
  intro X hP hw hK hc i pins s σ H E I hf st hg;subst hP hw hK;obtain⟨xs,hq,hx⟩:=hg;obtain⟨its,rv,p,hz⟩:=I.tuple hq;obtain⟨f0,f1,f2,f3,f4,f5⟩:=hf it (by simp);have hl:=rv.length;exact wpAny_pyNext_tuple_end (I.ok.hd hc) st (show s.heap.IsTuple a its.toArray from p) (by simp;omega) λh' eb=>⟨rfl,I.turned (t':=s.toks) (λb o hb e=>eb b o hb e) f0 f1 f3 f4 f5⟩
 self:=λ_ _ _ _ _ st h=>wpAny_pyIter_tupleiter st h
theorem Vo{P:Program}{w:World}{K:PySem.W.Frag}{tg:Expr}(it:Addr)(lo:Int)(n:Nat):Turn P w K tg (Itr lo n) [it] it (λi h=>IsRangeIter h it (lo+(i:Nat)*1) ((n:Int)-(i:Nat)) 1) where
 mem:=by simp
 obj:=λi h st b hb=>by
  have e:b=it:=by simpa using hb
  subst e;exact⟨_,st,λv z=>by
   have z':Data.fields _=Data.cell v:=z;cases z'⟩
 keep:=λi h h' st k=>k it (by simp) _ st
 item:=by
  intro X hP hw hK hc i pins s σ H E I hf st hg;subst hP hw hK;obtain⟨f0,f1,f2,f3,f4,f5⟩:=hf it (by simp);have W:=Walks.range (prog:=X.prog) (w:=X.w) (I.ok.hd hc) it lo 1 n;refine W.item i s _ _ hg st λv h' tk hv st' kk=>?_;obtain⟨t,rfl⟩:=hv;have I1:Inv X pins σ H { s with heap:=h',toks:=tk }:=I.turned (λb o hb e=>kk b o (by simpa using hb) e) f0 f1 f3 f4 f5;refine⟨_,rfl,oz (s:={ s with heap:=h',toks:=tk }) (n:="range_iterator") st' rfl rfl (by decide) ⟨.int (lo+i),H,I1,⟨t,?_⟩,⟨rfl,rfl⟩,st',λb hb=>(hf b hb).1⟩⟩;rw[Int.mul_one]
 done:=by
  intro X hP hw hK hc i pins s σ H E I hf st hg;subst hP hw hK;obtain⟨f0,f1,f2,f3,f4,f5⟩:=hf it (by simp);exact wpAny_pyNext_range_end (I.ok.hd hc) st (by have:n<=i:=hg;omega) λh' eb=>⟨rfl,I.turned (t':=s.toks) (λb o hb e=>eb b o hb e) f0 f1 f3 f4 f5⟩
 self:=λ_ _ _ _ _ st h=>wpAny_pyIter_rangeiter st h
end L2
namespace L2
open PySem PySem.Spec PyProof.Rows
section
variable {X : Cx} {tg : Expr}
def vv(K:PySem.W.Frag)(tl:TE):TI:=λσ H R=>tl σ H λx H1=>∃a,x= .ref a/\(∃xs,SqL K H1 a xs)/\R (Itl K a) H1
def iTup(K:PySem.W.Frag)(tl:TE):TI:=λσ H R=>tl σ H λx H1=>∃a,x= .ref a/\(∃xs,SqT K H1 a xs)/\R (Itt K a) H1
theorem Fy{l:Expr}{tl:TE}(hl:PE X l tl):PI X tg l (vv X.K tl):=by
 intro pins s σ H R I h;refine thn (hl pins s σ H _ I h) λv s1 hqq=>?_;obtain⟨x,H1,I1,r1,q1⟩:=hqq;obtain⟨a,e,⟨xs,hq⟩,q⟩:=q1;subst e;cases r1;obtain⟨its,rv,p,hz⟩:=I1.list hq;refine wpAny_pyIter_list p.isList ?_;refine⟨s1.heap.objs.size,[s1.heap.objs.size],_,_,H1,rfl,I1.kept (t':=s1.toks) λb o e=>Heap.get?_push_of_some _ e,Dl a _,⟨_,Heap.get?_push_size _ rfl,rfl,rfl⟩,λb hb=>?_,q⟩;have e:b=s1.heap.objs.size:=by simpa using hb
 subst e;exact I1.fpOk (Nat.le_refl _) (I1.hok.fresh (Nat.le_refl _))
theorem pi_tup{l:Expr}{tl:TE}(hl:PE X l tl):PI X tg l (iTup X.K tl):=by
 intro pins s σ H R I h;refine thn (hl pins s σ H _ I h) λv s1 hqq=>?_;obtain⟨x,H1,I1,r1,q1⟩:=hqq;obtain⟨a,e,⟨xs,hq⟩,q⟩:=q1;subst e;cases r1;obtain⟨its,rv,p,hz⟩:=I1.tuple hq;refine wpAny_pyIter_tuple (show s1.heap.IsTuple a its.toArray from p) ?_;refine⟨s1.heap.objs.size,[s1.heap.objs.size],_,_,H1,rfl,I1.kept (t':=s1.toks) λb o e=>Heap.get?_push_of_some _ e,oj a _,⟨_,Heap.get?_push_size _ rfl,rfl,rfl⟩,λb hb=>?_,q⟩;have e:b=s1.heap.objs.size:=by simpa using hb
 subst e;exact I1.fpOk (Nat.le_refl _) (I1.hok.fresh (Nat.le_refl _))
theorem qu{pins:List (Addr×Obj)}{σ:St}{H:Hp}{s:Shared}{R:It->Hp->Prop}{E:Value->Shared->Prop}{lo hi:Int}{t u v:Tok}{tk:Nat}(I:Inv X pins σ H s)(h1: -(2^62)<=lo)(h2:lo<2^62)(h3: -(2^62)<=hi)(h4:hi<2^62)
 (q:R (Itr lo (hi-lo).toNat) H):wpAny (model X.prog X.w) X.A (pyIter (.ref s.heap.objs.size)) (PIE X pins σ tg R) E { s with heap:=s.heap.push { cls:=.type "range",data:=.fields #[.int lo t,.int hi u,.int 1 v] },toks:=tk }:=by
 refine wpAny_pyIter_range (IsRange.new ..) (small_one h1 h2 h3 h4) ?_;have I1:Inv X pins σ H { s with heap:=s.heap.push { cls:=.type "range",data:=.fields #[.int lo t,.int hi u,.int 1 v] },toks:=tk }:=I.kept λb o e=>Heap.get?_push_of_some _ e;refine⟨(s.heap.push { cls:=.type "range",data:=.fields #[.int lo t,.int hi u,.int 1 v] }).objs.size,[(s.heap.push { cls:=.type "range",data:=.fields #[.int lo t,.int hi u,.int 1 v] }).objs.size],_,_,H,rfl,
  I1.kept (t':=tk) λb o e=>Heap.get?_push_of_some _ e,Vo _ lo (hi-lo).toNat,?_,λb hb=>?_,q⟩
 . have e1:lo+((0:Nat):Int)*1=lo:=by simp
   have e2:(((hi-lo).toNat:Nat):Int)-((0:Nat):Int)=Builtin.Range.rangeSize lo hi 1:=by rw[rangeSize_one];split<;>omega
   show IsRangeIter _ _ (lo+((0:Nat):Int)*1) ((((hi-lo).toNat:Nat):Int)-((0:Nat):Int)) 1;rw[e1,e2];exact Heap.get?_push_size _ rfl
 . have e:b=(s.heap.push { cls:=.type "range",data:=.fields #[.int lo t,.int hi u,.int 1 v] }).objs.size:=by simpa using hb
   subst e;exact I1.fpOk (Nat.le_refl _) (I1.hok.fresh (Nat.le_refl _))
def iz(ta:TA):TI:=λσ H R=>ta σ H λvs H1=>∃j:Int,vs=[.int j]/\ -(2^62)<=j/\j<2^62/\R (Itr 0 j.toNat) H1
theorem Jc{a:Expr}{ta:TA}{p pos:Pos}(hg:Gl X "range")(hm:X.mg "range"=none)(ha:PA X [a] ta)(hs:starEach [a] X.env=[(false,eval a X.env)]:=by first|rfl|with_unfolding_all rfl):PI X tg (.Call (.Name "range" p) [a] [] pos) (iz ta):=by
 intro pins s σ H R I h;refine Call_ (yf I hg hm boot_range (PyProof.Rows.callWith_type1 (thn (ha pos pins s σ H _ I h) λus s1 ⟨vs,H1,I1,r1,q1⟩=>?_) hs rfl));obtain⟨j,e,q1,q2,q⟩:=q1;subst e;cases r1 with
 | cons r rr =>
  cases rr;obtain⟨t,rfl⟩:=r;exact call_range_1 (qu I1 (by omega) (by omega) q1 q2 (by simpa using q))
def tFor(wi:TI)(g:TG)(tb:TS):TS:=λD σ H=>wi σ H λJ H1=>∃W:Nat->Nat->St->Hp->Prop,(∃m,W 0 m σ H1)/\∀i m σ H,W i m σ H ->
 (J.stop i H/\D.nx σ H)\/(J.go i H/\∃N:St->Hp->Prop,(∀σ' H',N σ' H'->∃m',m' <m/\W (i+1) m' σ' H')/\∀x H',J.yld i H x H'->g x σ H' λσ2 H2=>tb { D with nx:=N,ct:=N,bk:=D.nx } σ2 H2)
def Yl(fp:List Addr)(h:Heap):List (Addr×Obj):=fp.filterMap λb=>(h.get? b).map λo=>(b,o)
theorem bf{fp:List Addr}{h:Heap}{b:Addr}{o:Obj}(hb:b∈fp)(e:h.get? b=some o):(b,o)∈Yl fp h:=List.mem_filterMap.mpr ⟨b,hb,by rw[e];rfl⟩
theorem Sr{fp:List Addr}{h:Heap}{p:Addr×Obj}(hp:p∈Yl fp h):p.1∈fp/\h.get? p.1=some p.2:=by
 obtain⟨b,hb,e⟩:=List.mem_filterMap.mp hp;cases q:h.get? b with
 | none=>rw[q]at e;cases e
 | some o =>
  rw[q]at e;have e':(b,o)=p:=Option.some.inj e;subst e';exact⟨hb,q⟩
theorem Inv.pinned{pins:List (Addr×Obj)}{σ:St}{H:Hp}{s:Shared}{fp:List Addr}(I:Inv X pins σ H s)(hf:∀b∈fp,FpOk X pins H b)(ho:∀b∈fp,∃o,s.heap.get? b=some o/\∀v,o.data≠ .cell v):Inv X (pins++Yl fp s.heap) σ H s :=
 I.Lf λp hp=>(List.mem_append.mp hp).elim (λz=>I.pin p (List.mem_append_right _ z)) λz=>by
  obtain⟨hb,e⟩:=Sr z;obtain⟨f0,f1,f2,_⟩:=hf p.1 hb;obtain⟨o,e',d⟩:=ho p.1 hb;rw[e]at e';cases e';exact⟨e,f0,f1,f2,d⟩
theorem Inv.Jj{pins pl:List (Addr×Obj)}{σ:St}{H:Hp}{s:Shared}(I:Inv X (pins++pl) σ H s):Inv X pins σ H s:=I.Lf λp hp=>I.pin p (List.mem_append_right _ (List.mem_append_left _ hp))
theorem zd{iter:Expr}{body:List Stmt}{wi:TI}{g:TG}{tb:TS}{pos:Pos}(hp:PassesOwn (model X.prog X.w) X.A X.env X.xe)(hc:X.calm=true)(hi:PI X tg iter wi)(hg:PG X tg g)(hb:PSs X body tb)
 (hs:∀x,foldedSetIterable iter X.env x=pure x:=by intro _;first|rfl|with_unfolding_all rfl):PS X (.For tg iter body [] pos) (tFor wi g tb):=by
 intro pins s σ H D I h;refine wpAny_For (thn (hi pins s σ H _ I h) λv s1 h1=>thn h1 λitv s2 h2=>?_) hs;obtain⟨it,fp,tn,J,H2,e,I2,T,st2,f2,W,⟨m0,w0⟩,turn⟩:=h2;subst e;have stat:∀{H':Hp},(∀b∈fp,H' b=none)->∀b∈fp,FpOk X pins H' b:=λhn b hb=>⟨hn b hb,(f2 b hb).2⟩
 refine codeAny_forLoop_any (λn s'=>∃i σ' H',Inv X pins σ' H' s'/\tn i s'.heap/\(∀b∈fp,H' b=none)/\W i n σ' H') ?_ m0 ⟨0,σ,H2,I2,st2,λb hb=>(f2 b hb).1,w0⟩;rintro n s3 ⟨i,σ3,H3,I3,st3,fr3,w3⟩
 rcases turn i n σ3 H3 w3 with⟨stop,qn⟩|⟨go,N,hN,step⟩
 . refine wpAny_passesOwn hp (thn (T.done X rfl rfl rfl hc i pins s3 σ3 H3 X.xe I3 (stat fr3) st3 stop) λr s4 hqq=>?_)
   obtain⟨hr,I4⟩:=hqq;subst hr;exact wpAny_execs_nil ⟨σ3,H3,I4,qn⟩
 . refine wpAny_passesOwn hp (thn (T.item X rfl rfl rfl hc i pins s3 σ3 H3 X.xe I3 (stat fr3) st3 go) λr s4 hqq=>?_)
   obtain⟨u,hr,h4⟩:=hqq;subst hr;refine wpAny_passesOwn hp (thn h4 λ_ s5 hqq=>?_);obtain⟨x,H5,I5,r5,y5,st5,fr5⟩:=hqq;have I5':=I5.pinned (stat fr5) (T.obj _ _ st5);refine wpAny_passesOwn hp (thn (hg _ s5 σ3 H5 x u _ I5' r5 (step x H5 y5)) λ_ s6 hqq=>?_);obtain⟨σ6,H6,I6,q6⟩:=hqq;refine wpAny_passesOwn hp (thn (hb _ s6 σ6 H6 _ I6 q6) λf s7 q7=>?_);have again:∀{σ7:St} {H7:Hp},Inv X (pins++Yl fp s5.heap) σ7 H7 s7->N σ7 H7->∃m,m<n/\∃i σ' H',Inv X pins σ' H' s7/\tn i s7.heap/\(∀b∈fp,H' b=none)/\W i m σ' H':=λ{σ7 H7} I7 n7=>by
    obtain⟨m',hm,w7⟩:=hN σ7 H7 n7;refine⟨m',hm,i+1,σ7,H7,I7.Jj,T.keep _ _ _ st5 λb hb o e=>(I7.pin (b,o) (List.mem_append_right _ (List.mem_append_right _ (bf hb e)))).1,λb hb=>?_,w7⟩;obtain⟨o,e,d⟩:=T.obj _ _ st5 b hb;exact(I7.pin (b,o) (List.mem_append_right _ (List.mem_append_right _ (bf hb e)))).2.1
   cases f with
   | next=>obtain⟨σ7,H7,I7,n7⟩:=q7;exact again I7 n7
   | cont=>obtain⟨σ7,H7,I7,n7⟩:=q7;exact again I7 n7
   | brk=>obtain⟨σ7,H7,I7,q7⟩:=q7;exact⟨σ7,H7,I7.Jj,q7⟩
   | ret v=>obtain⟨x7,σ7,H7,I7,r7,q7⟩:=q7;exact⟨x7,σ7,H7,I7.Jj,r7,q7⟩
end
theorem Dv{K:PySem.W.Frag}{a:Addr}{xs:List V}{g:TG}{tb:TS}{D:Ends}{σ:St}{H:Hp}(Pv:Nat->St->Hp->Prop)(h0:Pv 0 σ H)(hl:∀i σ H,i<=xs.length->Pv i σ H->SqL K H a xs)
 (hs:∀i x σ H,xs[i]?=some x->Pv i σ H->g x σ H λσ2 H2=>tb { D with nx:=Pv (i+1),ct:=Pv (i+1),bk:=D.nx } σ2 H2)(hd:∀σ H,Pv xs.length σ H->D.nx σ H) :
 ∃W:Nat->Nat->St->Hp->Prop,(∃m,W 0 m σ H)/\∀i m σ H,W i m σ H ->
  ((Itl K a).stop i H/\D.nx σ H)\/((Itl K a).go i H/\∃N:St->Hp->Prop,(∀σ' H',N σ' H'->∃m',m' <m/\W (i+1) m' σ' H')/\∀x H',(Itl K a).yld i H x H'->g x σ H' λσ2 H2=>tb { D with nx:=N,ct:=N,bk:=D.nx } σ2 H2):=by
 refine⟨λi m σ H=>m=xs.length-i/\i<=xs.length/\Pv i σ H,⟨xs.length,by simp,Nat.zero_le _,h0⟩,?_⟩;rintro i m σ H ⟨rfl,hi,p⟩
 have q:=hl i σ H hi p;by_cases hlt:i<xs.length
 . refine .inr ⟨⟨xs,xs[i],q,by simp[hlt]⟩,Pv (i+1),λσ' H' p'=>⟨xs.length-(i+1),by omega,rfl,hlt,p'⟩,λx H' y=>?_⟩
   obtain⟨e,y⟩:=y;subst e;exact hs i x σ _ (y xs q) p
 . have e:i=xs.length:=by omega
   subst e;exact .inl ⟨⟨xs,q,Nat.le_refl _⟩,hd σ H p⟩
theorem Hs{lo:Int}{n:Nat}{g:TG}{tb:TS}{D:Ends}{σ:St}{H:Hp}(Pv:Nat->St->Hp->Prop)(h0:Pv 0 σ H)
 (hs:∀i σ H,i<n->Pv i σ H->g (.int (lo+i)) σ H λσ2 H2=>tb { D with nx:=Pv (i+1),ct:=Pv (i+1),bk:=D.nx } σ2 H2)(hd:∀σ H,Pv n σ H->D.nx σ H) :
 ∃W:Nat->Nat->St->Hp->Prop,(∃m,W 0 m σ H)/\∀i m σ H,W i m σ H ->
  ((Itr lo n).stop i H/\D.nx σ H)\/((Itr lo n).go i H/\∃N:St->Hp->Prop,(∀σ' H',N σ' H'->∃m',m' <m/\W (i+1) m' σ' H')/\∀x H',(Itr lo n).yld i H x H'->g x σ H' λσ2 H2=>tb { D with nx:=N,ct:=N,bk:=D.nx } σ2 H2):=by
 refine⟨λi m σ H=>m=n-i/\i<=n/\Pv i σ H,⟨n,by simp,Nat.zero_le _,h0⟩,?_⟩;rintro i m σ H ⟨rfl,hi,p⟩
 by_cases hlt:i<n
 . refine .inr ⟨hlt,Pv (i+1),λσ' H' p'=>⟨n-(i+1),by omega,rfl,hlt,p'⟩,λx H' y=>?_⟩
   obtain⟨e,y⟩:=y;subst e y;exact hs i σ _ hlt p
 . have e:i=n:=by omega
   subst e;exact .inl ⟨Nat.le_refl _,hd σ H p⟩
end L2
namespace L2
open PySem PySem.Spec PyProof.Rows
abbrev R2:=V->V->Hp->VK->Prop
def OpR(X:Cx)(f:Value->Value->Sem Value)(r:R2):Prop :=
 ∀(pins:List (Addr×Obj)) (s:Shared) (σ:St) (H:Hp) (x y:V) (v u:Value) (Q:VK),Inv X pins σ H s->RelV x v->RelV y u->r x y H Q ->
  wpAny (model X.prog X.w) X.A (f v u) (EP X pins σ Q) X.xe s
def UnR(X:Cx)(f:Value->Sem Value)(r:V->Hp->VK->Prop):Prop :=
 ∀(pins:List (Addr×Obj)) (s:Shared) (σ:St) (H:Hp) (x:V) (v:Value) (Q:VK),Inv X pins σ H s->RelV x v->r x H Q ->
  wpAny (model X.prog X.w) X.A (f v) (EP X pins σ Q) X.xe s
def vc(X:Cx)(f:Value)(r:List V->Hp->VK->Prop):Prop :=
 ∀(pins:List (Addr×Obj)) (s:Shared) (σ:St) (H:Hp) (xs:List V) (us:List Value) (Q:VK),Inv X pins σ H s->Vals xs us->r xs H Q ->
  wpAny (model X.prog X.w) X.A (call f us) (EP X pins σ Q) X.xe s
def TruR(X:Cx)(r:V->Hp->(Bool->Hp->Prop)->Prop):Prop :=
 ∀(pins:List (Addr×Obj)) (s:Shared) (σ:St) (H:Hp) (x:V) (v:Value) (Q:Bool->Hp->Prop),Inv X pins σ H s->RelV x v->r x H Q ->
  wpAny (model X.prog X.w) X.A (truthy v) (TP X pins σ Q) X.xe s
def tOp(r:R2)(ta tb:TE):TE:=λσ H Q=>ta σ H λx H1=>tb σ H1 λy H2=>r x y H2 Q
def tUn(r:V->Hp->VK->Prop)(ta:TE):TE:=λσ H Q=>ta σ H λx H1=>r x H1 Q
def rI(C:Int->Int->Prop)(g:Int->Int->V):R2:=λx y H Q=>∃i j,x= .int i/\y= .int j/\C i j/\Q (g i j) H
def rI0(g:Int->Int->V):R2:=λx y H Q=>∃i j,x= .int i/\y= .int j/\Q (g i j) H
def rU(g:Int->V):V->Hp->VK->Prop:=λx H Q=>∃i,x= .int i/\Q (g i) H
section
variable {X : Cx} {a b c : Expr} {ta tb tc : TE} {pos : Pos}
theorem binT(ha:PE X a ta)(hb:PE X b tb){pins:List (Addr×Obj)}{s:Shared}{σ:St}{H:Hp}{R:V->V->Hp->Prop}(I:Inv X pins σ H s)
 (h:ta σ H λx H1=>tb σ H1 λy H2=>R x y H2){Q:Value->Shared->Prop}{f:Value->Value->Sem Value}
 (hf:∀v u s2 x y H2,Inv X pins σ H2 s2->RelV x v->RelV y u->R x y H2->wpAny (model X.prog X.w) X.A (f v u) Q X.xe s2) :
 wpAny (model X.prog X.w) X.A (eval a X.env) (λv s₁=>wpAny (model X.prog X.w) X.A (eval b X.env) (λu s₂=>wpAny (model X.prog X.w) X.A (f v u) Q X.xe s₂) X.xe s₁) X.xe s:=by
 refine thn (ha pins s σ H _ I h) λv s1 hqq=>?_;obtain⟨x,H1,I1,r1,q1⟩:=hqq;refine thn (hb pins s1 σ H1 _ I1 q1) λu s2 hqq=>?_;obtain⟨y,H2,I2,r2,q2⟩:=hqq;exact hf v u s2 x y H2 I2 r1 r2 q2
theorem Pa{op:Operator}{r:R2}(ho:OpR X (binaryOp op) r)(ha:PE X a ta)(hb:PE X b tb):PE X (.BinOp a op b pos) (tOp r ta tb):=by
 intro pins s σ H Q I h;exact wpAny_BinOp (binT ha hb I h λv u s2 x y H2 I2 rx ry q=>ho pins s2 σ H2 x y v u Q I2 rx ry q)
theorem Fp{op:UnaryOp}{r:V->Hp->VK->Prop}(ho:UnR X (unaryOp op) r)(ha:PE X a ta):PE X (.UnaryOp op a pos) (tUn r ta):=by
 intro pins s σ H Q I h;exact UnaryOp_ (thn (ha pins s σ H _ I h) λv s1 ⟨x,H1,I1,r1,q1⟩=>ho pins s1 σ H1 x v Q I1 r1 q1)
theorem opI{f:Value->Value->Sem Value}{C:Int->Int->Prop}{g:Int->Int->Int}
 (rule:∀(i j:Int) (t u:Tok) (s:Shared) (Q:Value->Shared->Prop) (E:Value->Shared->Prop),C i j->Q (.int (g i j) s.toks) { s with toks:=s.toks+1 }->wpAny (model X.prog X.w) X.A (f (.int i t) (.int j u)) Q E s) :
 OpR X f (rI C λi j=>.int (g i j)):=by
 intro pins s σ H x y v u Q I rx ry h;obtain⟨i,j,rfl,rfl,hc,q⟩:=h;obtain⟨t,rfl⟩:=rx;obtain⟨t',rfl⟩:=ry;exact rule i j t t' s _ _ hc ⟨.int (g i j),H,I.tok _,⟨_,rfl⟩,q⟩
theorem opI0{f:Value->Value->Sem Value}{g:Int->Int->Int}
 (rule:∀(i j:Int) (t u:Tok) (s:Shared) (Q:Value->Shared->Prop) (E:Value->Shared->Prop),Q (.int (g i j) s.toks) { s with toks:=s.toks+1 }->wpAny (model X.prog X.w) X.A (f (.int i t) (.int j u)) Q E s) :
 OpR X f (rI0 λi j=>.int (g i j)):=by
 intro pins s σ H x y v u Q I rx ry h;obtain⟨i,j,rfl,rfl,q⟩:=h;obtain⟨t,rfl⟩:=rx;obtain⟨t',rfl⟩:=ry;exact rule i j t t' s _ _ ⟨.int (g i j),H,I.tok _,⟨_,rfl⟩,q⟩
theorem opB0{f:Value->Value->Sem Value}{g:Int->Int->Bool}
 (rule:∀(i j:Int) (t u:Tok) (s:Shared) (Q:Value->Shared->Prop) (E:Value->Shared->Prop),Q (.bool (g i j)) s->wpAny (model X.prog X.w) X.A (f (.int i t) (.int j u)) Q E s) :
 OpR X f (rI0 λi j=>.bl (g i j)):=by
 intro pins s σ H x y v u Q I rx ry h;obtain⟨i,j,rfl,rfl,q⟩:=h;obtain⟨t,rfl⟩:=rx;obtain⟨t',rfl⟩:=ry;exact rule i j t t' s _ _ ⟨.bl (g i j),H,I,rfl,q⟩
def CPow(i j:Int):Prop:=0<=j/\j<=1000000/\i.natAbs<2^64
def CMul(i j:Int):Prop:=(-(2^64)<i/\i<2^64)\/(-(2^64)<j/\j<2^64)
theorem CMul.ok{i j:Int}(h:CMul i j):IntMulOk i j:=by
 rcases h with⟨h1,h2⟩|⟨h1,h2⟩
 . exact .of_left (intBits_le_64 h1 h2)
 . exact .of_right (intBits_le_64 h1 h2)
theorem op_add:OpR X (binaryOp .Add) (rI0 λi j=>.int (i+j)):=opI0 λ_ _ _ _ _ _ _ q=>add_int q
theorem ai:OpR X (binaryOp .Sub) (rI0 λi j=>.int (i-j)):=opI0 λ_ _ _ _ _ _ _ q=>sub_int q
theorem di:OpR X (binaryOp .Mod) (rI (λ_ j=>0<j) λi j=>.int (i%j)):=opI λi j _ _ _ _ _ hc q=>by
 have h1:(0:Int)<j:=hc;exact mod_int' (by omega) (by rw[Int.fmod_eq_emod_of_nonneg i (by omega)];exact q)
theorem op_pow:OpR X (binaryOp .Pow) (rI CPow λi j=>.int (i^j.toNat)):=opI λ_ _ _ _ _ _ _ hc q=>pow_int_small hc.1 hc.2.1 hc.2.2 q
theorem unI{f:Value->Sem Value}{g:Int->Int}
 (rule:∀(i:Int) (t:Tok) (s:Shared) (Q:Value->Shared->Prop) (E:Value->Shared->Prop),Q (.int (g i) s.toks) { s with toks:=s.toks+1 }->wpAny (model X.prog X.w) X.A (f (.int i t)) Q E s) :
 UnR X f (rU λi=>.int (g i)):=by
 intro pins s σ H x v Q I rx h;obtain⟨i,rfl,q⟩:=h;obtain⟨t,rfl⟩:=rx;exact rule i t s _ _ ⟨.int (g i),H,I.tok _,⟨_,rfl⟩,q⟩
theorem nj:UnR X (unaryOp .USub) (rU λi=>.int (-i)):=unI λ_ _ _ _ _ q=>neg_int q
end
def scal:V->V->Bool
 | .non,.non=>true|.non,.int _=>true|.int _,.non=>true|.non,.bl _=>true|.bl _,.non=>true|.non,.str _=>true|.str _,.non=>true
 | .int _,.int _=>true|.bl _,.bl _=>true|.str _,.str _=>true|.byt _,.byt _=>true
 | .int _,.str _=>true|.str _,.int _=>true|.bl _,.str _=>true|.str _,.bl _=>true
 | _,_=>false
def rEq:R2:=λx y H Q=>scal x y=true/\Q (.bl (decide (x=y))) H
def rNe:R2:=λx y H Q=>scal x y=true/\Q (.bl (!decide (x=y))) H
theorem Ys{i j:Int}:decide (V.int i=V.int j)=(i==j):=by
 rw[Bool.eq_iff_iff];simp
theorem Kw{i j:Bool}:decide (V.bl i=V.bl j)=(i==j):=by
 rw[Bool.eq_iff_iff];simp
theorem Xs{i j:Str}:decide (V.str i=V.str j)=(i==j):=by
 rw[Bool.eq_iff_iff];simp
theorem Zs{i j:Array UInt8}:decide (V.byt i=V.byt j)=(i.toList==j.toList):=by
 rw[Bool.eq_iff_iff];cases i;cases j;simp
section
variable {X : Cx} {a b c : Expr} {ta tb tc : TE} {pos : Pos}
theorem Xa{pins:List (Addr×Obj)}{σ:St}{H:Hp}{s:Shared}{Q:VK}{k k':Bool}(I:Inv X pins σ H s)(q:Q (.bl k) H)(e:k=k'):EP X pins σ Q (.bool k') s:=by
 subst e;exact⟨.bl k,H,I,rfl,q⟩
theorem op_eq:OpR X (compareOp .Eq) rEq:=by
 intro pins s σ H x y v u Q I rx ry h;obtain⟨hs,q⟩:=h;cases x with
 | non =>
  cases rx;cases y with
  | non=>cases ry;exact PySem.EqNone.eq_none_none (Xa I q (by simp))
  | bl j=>cases ry;exact PySem.EqNone.eq_none_bool (Xa I q (by simp))
  | int j=>obtain⟨t',rfl⟩:=ry;exact PySem.EqNone.eq_none_int (Xa I q (by simp))
  | str j=>obtain⟨t',rfl⟩:=ry;exact PySem.EqNone.eq_none_str (Xa I q (by simp))
  | _=>exact absurd (show false=true from hs) Bool.false_ne_true
 | bl i =>
  cases rx;cases y with
  | non=>cases ry;exact PySem.EqNone.eq_bool_none (Xa I q (by simp))
  | bl j=>cases ry;exact eq_bool (Xa I q Kw)
  | str j=>obtain⟨t',rfl⟩:=ry;exact PySem.EqMixed.eq_bool_str (Xa I q (by simp))
  | _=>exact absurd (show false=true from hs) Bool.false_ne_true
 | int i =>
  obtain⟨t,rfl⟩:=rx;cases y with
  | non=>cases ry;exact PySem.EqNone.eq_int_none (Xa I q (by simp))
  | int j=>obtain⟨t',rfl⟩:=ry;exact eq_int (Xa I q Ys)
  | str j=>obtain⟨t',rfl⟩:=ry;exact PySem.EqMixed.eq_int_str (Xa I q (by simp))
  | _=>exact absurd (show false=true from hs) Bool.false_ne_true
 | str i =>
  obtain⟨t,rfl⟩:=rx;cases y with
  | non=>cases ry;exact PySem.EqNone.eq_str_none (Xa I q (by simp))
  | bl j=>cases ry;exact PySem.EqMixed.eq_str_bool (Xa I q (by simp))
  | int j=>obtain⟨t',rfl⟩:=ry;exact PySem.EqMixed.eq_str_int (Xa I q (by simp))
  | str j=>obtain⟨t',rfl⟩:=ry;exact eq_str (Xa I q Xs)
  | _=>exact absurd (show false=true from hs) Bool.false_ne_true
 | byt i =>
  obtain⟨t,rfl⟩:=rx;cases y with
  | byt j=>obtain⟨t',rfl⟩:=ry;exact PySem.W.eq_bytes (Xa I q Zs)
  | _=>exact absurd (show false=true from hs) Bool.false_ne_true
 | _=>cases y<;>exact absurd (show false=true from hs) Bool.false_ne_true
theorem op_ne:OpR X (compareOp .NotEq) rNe:=by
 intro pins s σ H x y v u Q I rx ry h;obtain⟨hs,q⟩:=h;cases x with
 | non =>
  cases rx;cases y with
  | non=>cases ry;exact PySem.EqNone.ne_none_none (Xa I q (by simp))
  | bl j=>cases ry;exact PySem.EqNone.ne_none_bool (Xa I q (by simp))
  | int j=>obtain⟨t',rfl⟩:=ry;exact PySem.EqNone.ne_none_int (Xa I q (by simp))
  | str j=>obtain⟨t',rfl⟩:=ry;exact PySem.EqNone.ne_none_str (Xa I q (by simp))
  | _=>exact absurd (show false=true from hs) Bool.false_ne_true
 | bl i =>
  cases rx;cases y with
  | non=>cases ry;exact PySem.EqNone.ne_bool_none (Xa I q (by simp))
  | bl j=>cases ry;exact ne_bool (Xa I q (congrArg not Kw))
  | str j=>obtain⟨t',rfl⟩:=ry;exact PySem.EqMixed.ne_bool_str (Xa I q (by simp))
  | _=>exact absurd (show false=true from hs) Bool.false_ne_true
 | int i =>
  obtain⟨t,rfl⟩:=rx;cases y with
  | non=>cases ry;exact PySem.EqNone.ne_int_none (Xa I q (by simp))
  | int j=>obtain⟨t',rfl⟩:=ry;exact ne_int (Xa I q (congrArg not Ys))
  | str j=>obtain⟨t',rfl⟩:=ry;exact PySem.EqMixed.ne_int_str (Xa I q (by simp))
  | _=>exact absurd (show false=true from hs) Bool.false_ne_true
 | str i =>
  obtain⟨t,rfl⟩:=rx;cases y with
  | non=>cases ry;exact PySem.EqNone.ne_str_none (Xa I q (by simp))
  | bl j=>cases ry;exact PySem.EqMixed.ne_str_bool (Xa I q (by simp))
  | int j=>obtain⟨t',rfl⟩:=ry;exact PySem.EqMixed.ne_str_int (Xa I q (by simp))
  | str j=>obtain⟨t',rfl⟩:=ry;exact ne_str (Xa I q (congrArg not Xs))
  | _=>exact absurd (show false=true from hs) Bool.false_ne_true
 | byt i =>
  obtain⟨t,rfl⟩:=rx;cases y with
  | byt j=>obtain⟨t',rfl⟩:=ry;exact PySem.W.ne_bytes (Xa I q (congrArg not Zs))
  | _=>exact absurd (show false=true from hs) Bool.false_ne_true
 | _=>cases y<;>exact absurd (show false=true from hs) Bool.false_ne_true
theorem op_lt:OpR X (compareOp .Lt) (rI0 λi j=>.bl (decide (i<j))):=opB0 λ_ _ _ _ _ _ _ q=>lt_int q
theorem op_le:OpR X (compareOp .LtE) (rI0 λi j=>.bl (decide (i<=j))):=opB0 λ_ _ _ _ _ _ _ q=>le_int q
theorem yk:OpR X (compareOp .Gt) (rI0 λi j=>.bl (decide (j<i))):=opB0 λ_ _ _ _ _ _ _ q=>gt_int q
theorem kn:OpR X (compareOp .GtE) (rI0 λi j=>.bl (decide (j<=i))):=opB0 λ_ _ _ _ _ _ _ q=>ge_int q
theorem op_isN:OpR X (compareOp .Is) (λx y H Q=>y= .non/\Q (.bl (decide (x= .non))) H):=by
 intro pins s σ H x y v u Q I rx ry h;obtain⟨rfl,q⟩:=h;cases ry;refine is_none_gen (Xa I q ?_);cases x<;>first
  | (cases rx;rfl)
  | (obtain⟨t,rfl⟩:=rx;rfl)
theorem Ly:OpR X (compareOp .IsNot) (λx y H Q=>y= .non/\Q (.bl (!decide (x= .non))) H):=by
 intro pins s σ H x y v u Q I rx ry h;obtain⟨rfl,q⟩:=h;cases ry;refine isnot_none_gen (Xa I q ?_);cases x<;>first
  | (cases rx;rfl)
  | (obtain⟨t,rfl⟩:=rx;rfl)
theorem OpR.or{f:Value->Value->Sem Value}{r r':R2}(h:OpR X f r)(h':OpR X f r'):OpR X f (λx y H Q=>r x y H Q\/r' x y H Q):=by
 intro pins s σ H x y v u Q I rx ry q;rcases q with q|q
 . exact h pins s σ H x y v u Q I rx ry q
 . exact h' pins s σ H x y v u Q I rx ry q
theorem Aa(b:Expr){op:CmpOp}(h:op≠ .In:=by decide)(h2:op≠ .NotIn:=by decide):behindInMarks op b=false:=by
 have e1:(op==CmpOp.In)=false:=by cases op<;>first|rfl|exact absurd rfl h
 have e2:(op==CmpOp.NotIn)=false:=by cases op<;>first|rfl|exact absurd rfl h2
 cases b<;>simp[behindInMarks,e1,e2]
theorem Bb{op:CmpOp}{r:R2}(ho:OpR X (compareOp op) r)(ha:PE X a ta)(hb:PE X b tb)(hm:behindInMarks op b=false):PE X (.Compare a [op] [b] pos) (tOp r ta tb):=by
 intro pins s σ H Q I h;exact wpAny_Compare1 (binT ha hb I h λv u s2 x y H2 I2 rx ry q=>ho pins s2 σ H2 x y v u Q I2 rx ry q) hm
def tTest(t:TE):TT:=λσ H Q=>t σ H λx H'=>∃k,x= .bl k/\Q k H'
theorem ua{op:CmpOp}{r:R2}(ho:OpR X (compareOp op) r)(ha:PE X a ta)(hb:PE X b tb)(hm:behindInMarks op b=false):PT X (.Compare a [op] [b] pos) (tTest (tOp r ta tb)):=by
 intro pins s σ H Q I h;refine wpAny_isTrue_Compare1 (thn (ha pins s σ H _ I h) λv s1 ⟨x,H1,I1,r1,q1⟩=>thn (hb pins s1 σ H1 _ I1 q1) λu s2 ⟨y,H2,I2,r2,q2⟩ =>
  thn (ho pins s2 σ H2 x y v u _ I2 r1 r2 q2) λc s3 ⟨z,H3,I3,r3,k,e,q3⟩=>?_) hm
 subst e;cases r3;exact wpAny_truthy_bool ⟨H3,I3,q3⟩
def TruV(K:PySem.W.Frag)(x:V)(H:Hp)(k:Bool):Prop :=
 match x with
 | .non=>k=false
 | .bl b=>k=b
 | .int i=>k=(i !=0)
 | .str y=>y.length<=sizeLine/\k=((y.length:Int) !=0)
 | .byt y=>y.size<=sizeLine/\k=((y.size:Int) !=0)
 | .ref p=>(∃xs,SqL K H p xs/\k= !xs.isEmpty)\/(∃xs,SqT K H p xs/\k= !xs.isEmpty)\/∃kvs,H p=some (.dK kvs)/\k= !kvs.isEmpty
 | _=>False
theorem Zp{κ:Type}{kvs:List (κ×V)}{vs:List (κ×Value)}(r:KV kvs vs):(!vs.isEmpty)= !kvs.isEmpty:=by
 cases r<;>rfl
theorem Aj{xs:List V}{its:List Value}(r:Vals xs its):(!its.toArray.isEmpty)= !xs.isEmpty:=by
 cases r<;>simp
theorem kg:(sizeLine:Nat)<2^63:=by rw[sizeLine_eq];decide
theorem tru_ok:TruR X (λx H Q=>∃k,TruV X.K x H k/\Q k H):=by
 intro pins s σ H x v Q I rx h;obtain⟨k,e,q⟩:=h;have hl:=kg;have hs:sizeLine=16777216:=sizeLine_eq;cases x with
 | non =>
  cases rx;have e':k=false:=e;subst e';exact truthy_none ⟨H,I,q⟩
 | bl b =>
  cases rx;have e':k=b:=e;subst e';exact wpAny_truthy_bool ⟨H,I,q⟩
 | int i =>
  obtain⟨t,rfl⟩:=rx;have e':k=(i !=0):=e;subst e';exact PySem.P.truthy_int ⟨H,I,q⟩
 | str y =>
  obtain⟨t,rfl⟩:=rx;obtain⟨hy,e'⟩:y.length<=sizeLine/\k=((y.length:Int) !=0):=e;subst e';exact PySem.P.truthy_str (by omega) ⟨H,I.tok _,q⟩
 | byt y =>
  obtain⟨t,rfl⟩:=rx;obtain⟨hy,e'⟩:y.size<=sizeLine/\k=((y.size:Int) !=0):=e;subst e';exact PySem.W.truthy_bytes (by omega) ⟨H,I.tok _,q⟩
 | ref p =>
  cases rx;have e':(∃xs,SqL X.K H p xs/\k= !xs.isEmpty)\/(∃xs,SqT X.K H p xs/\k= !xs.isEmpty)\/∃kvs,H p=some (.dK kvs)/\k= !kvs.isEmpty:=e;rcases e' with⟨xs,hx,e'⟩|⟨xs,hx,e'⟩|⟨kvs,hx,e'⟩
  . subst e'
    obtain⟨its,r,pl,hz⟩:=I.list hx;have hlen:=r.length;exact wpAny_truthy_list pl.isList (by simp only[List.size_toArray];omega) ⟨H,I.tok _,by rw[Aj r];exact q⟩
  . subst e'
    obtain⟨its,r,pl,hz⟩:=I.tuple hx;have hlen:=r.length;exact truthy_tuple pl (by simp only[List.size_toArray];omega) ⟨H,I.tok _,by rw[Aj r];exact q⟩
  . subst e'
    obtain⟨hz,hS,vs,r,m⟩:kvs.length<=sizeLine/\(p==sysModules)=false/\∃vs,KV kvs vs/\s.heap.DictOf (Qb X.prog X.w) p vs:=I.hok p _ hx;have hlen:kvs.length=vs.length:=Paired.length r;exact wpAny_truthy_dict hS m (by omega) ⟨H,I.tok _,by rw[Zp r];exact q⟩
 | _=>exact(show False from e).elim
theorem Gu(ha:PE X a ta)(he:∀whole,isTrue a X.env whole=(do let v<-whole;standAt a.pos;holding [v] (truthy v))) :
 PT X a (λσ H Q=>ta σ H λx H'=>∃k,TruV X.K x H' k/\Q k H'):=by
 intro pins s σ H Q I h;exact isTrue_plain (thn (ha pins s σ H _ I h) λv s1 ⟨x,H1,I1,r1,q1⟩=>tru_ok pins s1 σ H1 x v Q I1 r1 q1) (he _)
theorem yj:OpR X (binaryOp .Add) (λx y H Q=>∃i j,x= .str i/\y= .str j/\i.length+j.length<=sizeLine/\Q (.str (i++j)) H):=by
 intro pins s σ H x y v u Q I rx ry h;obtain⟨i,j,rfl,rfl,hz,q⟩:=h;obtain⟨t,rfl⟩:=rx;obtain⟨t',rfl⟩:=ry;exact add_str (λt' tk=>⟨.str (i++j),H,I.tok _,⟨_,rfl⟩,q⟩) hz
theorem vals1{x:V}{us:List Value}(r:Vals [x] us):∃u,us=[u]/\RelV x u:=by
 cases r with
 | cons r1 r2=>cases r2;exact⟨_,rfl,r1⟩
theorem vals2{x y:V}{us:List Value}(r:Vals [x,y] us):∃u w',us=[u,w']/\RelV x u/\RelV y w':=by
 cases r with
 | cons r1 r2 =>
  cases r2 with
  | cons r3 r4=>cases r4;exact⟨_,_,rfl,r1,r3⟩
theorem Mv:vc X (.builtin "abs") (λxs H Q=>∃i,xs=[.int i]/\Q (.int (if i<0 then -i else i)) H):=by
 intro pins s σ H xs us Q I r h;obtain⟨i,rfl,q⟩:=h;obtain⟨u,rfl,t,rfl⟩:=vals1 r;exact call_abs_int λu tk=>⟨.int (if i<0 then -i else i),H,I.tok _,⟨_,rfl⟩,q⟩
theorem xt(hc:X.calm=true):vc X (.builtin "min") (λxs H Q=>∃i j,xs=[.int i,.int j]/\Q (.int (if j<i then j else i)) H):=by
 intro pins s σ H xs us Q I r h;obtain⟨i,j,rfl,q⟩:=h;obtain⟨u,w',rfl,⟨t,rfl⟩,⟨t',rfl⟩⟩:=vals2 r;refine min_two_ints (I.ok.hd hc) λh' tk k=>⟨_,H,I.kept k,?_,q⟩
 by_cases hj:j<i
 . rw[if_pos hj,if_pos hj];exact⟨_,rfl⟩
 . rw[if_neg hj,if_neg hj];exact⟨_,rfl⟩
end
end L2
namespace L2
open PySem PySem.Spec PyProof.Rows
structure ObjM(h:Heap)(x dx C:Addr)(mA:Str->Option Value):Prop where
 obj:h.get? x=some (PySem.W.instObj C dx)
 ns:h.Ns1 dx mA
 ne:dx≠x
theorem Wr{h:Heap}{dx:Addr}{mA:Str->Option Value}(n:h.Ns1 dx mA):∃od,h.get? dx=some od/\∀name,PySem.W.lookIn name od=some (mA name):=by
 obtain⟨o,es,ep,ho,hd,hk,_,hm⟩:=n;refine⟨o,ho,λname=>?_⟩;have e:=hm name;unfold nsFind findBy at e;rw[<-Array.find?_toList]at e;unfold PySem.W.lookIn;rw[hd];dsimp only;split
 . rename_i y q
   rw[q]at e;exact congrArg some e
 . rename_i q
   rw[q]at e;have a:es.toList.any (·.refKey)=false:=by
    rw[List.any_eq_false];intro y hy;obtain⟨z,t,hkey⟩:=hk y (Array.mem_toList_iff.mp hy);simp[DictEntry.refKey,hkey]
   have a':¬es.toList.any (·.refKey)=true:=by rw[a];exact Bool.false_ne_true
   rw[if_neg a'];exact congrArg some e
theorem ObjM.look{h:Heap}{x dx C:Addr}{mA:Str->Option Value}(I:ObjM h x dx C mA):∃od,PySem.W.InstAt h x (PySem.W.instObj C dx) C (some od)/\∀name,PySem.W.lookIn name od=some (mA name) :=
 let ⟨od,ho,hl⟩:=Wr I.ns
 ⟨od,⟨I.obj,rfl,rfl,ho⟩,hl⟩
section
variable {prog : Program} {w : World} {A : Around} {E : Value -> Shared -> Prop} {s : Shared} {K : PySem.W.Frag} {x dx C f : Addr} {mA : Str -> Option Value} {name : Str} {v : Value}
theorem get_map{expr:Bool}{Q:Value->Shared->Prop}(X:K.In s.heap)(I:ObjM s.heap x dx C mA)(hg:PySem.W.plainGet K C name=true)(hh:PySem.W.hasDictIn K C=true)
 (ha:PySem.W.findIn K (.ref C) name=some none)(hv:mA name=some v)(hv':PySem.W.handedIn v=true)(h:Q v { s with toks:=s.toks+1 }) :
 wpAny (model prog w) A (getAttr (.ref x) name expr) Q E s:=by
 obtain⟨od,J,hl⟩:=I.look;exact PySem.W.get_value X J (PySem.W.plainGet_of hg).1 (PySem.W.findObj_own hh ha rfl (by rw[hl,hv])) hv' h
theorem Bv{pl:Sem Bool}{Q:Value×List Value->Shared->Prop}(X:K.In s.heap)(I:ObjM s.heap x dx C mA)(hg:PySem.W.plainGet K C name=true)
 (hf:PySem.W.findIn K (.ref C) name=some (some (.ref f)))(ht:PySem.W.isFn K (.ref f)=true)(hv:mA name=none)(h:Q (.ref f,[.ref x]) s) :
 wpAny (model prog w) A (getMethod (.ref x) name pl) Q E s:=by
 obtain⟨od,J,hl⟩:=I.look;exact PySem.W.method_fn X J (PySem.W.plainGet_of hg).1 (PySem.W.plainGet_of hg).2 hf (beq_iff_eq.mp ht) (by show (PySem.W.lookIn name od).map (·.isSome)=some false;rw[hl,hv];rfl) h
theorem Jx{ns:List Str}{Q:Unit->Shared->Prop}(X:K.In s.heap)(I:ObjM s.heap x dx C mA)
 (hs:PySem.W.findIn K (.ref C) "__setattr__"=some (some (.builtin "object.__setattr__")))(hp:PySem.W.plainOver K C=true)(ht:PySem.W.takerIn K C name=some none)(hh:PySem.W.hasDictIn K C=true)
 (hw:PySem.Within mA ns)(hsz:ns.length<=sizeLine)
 (h:∀h',ObjM h' x dx C (λy=>if y=name then some v else mA y)->Heap.SameBut dx s.heap h'->Q () { s with heap:=h',toks:=s.toks+2 }) :
 wpAny (model prog w) A (setAttr (.ref x) name v) Q E s:=by
 obtain⟨od,J,hl⟩:=I.look;refine PySem.W.set_plain X J hs (PySem.W.osa_open (s:={ s with toks:=s.toks+1 }) (r:=none) X J hp ht λb=>?_);obtain⟨cd,hc,hd'⟩:=PySem.W.any_some hh;have hx:s.heap.get? x=some ⟨.ref C,some dx,.plain,#[]⟩:=I.obj;refine wpAny_bind (wpAny_pure (wpAny_bind (wpAny_bind (wpAny_loadPart hx (wpAny_bind (PySem.W.Looks.here (s:={ s with toks:=s.toks+1 }) (PySem.W.looks_clsIn X hc) ?_))))));rw[hd'];refine wpAny_pure (a:=some dx) (wpAny_bind (wpAny_pure (wpAny_bind ?_)));refine wpAny_nsSet1 (s:={ s with toks:=s.toks+1 }) I.ns λh' hn2 hs2=>?_;obtain⟨oD,esD,epD,hoD,hdD,hcD⟩:=hn2.count (PySem.Within.cons name v hw);refine wpAny_bind (wpAny_lookBehind hoD (by rw[hdD];exact pastItsLine_dict (Nat.le_trans hcD (by rw[List.length_cons];omega))) ?_);exact wpAny_pure (h _ ⟨(hs2.2 _ (Ne.symm I.ne)).trans I.obj,hn2,I.ne⟩ hs2)
theorem Zu{R:Result->Shared->Prop}{vs:List Value}{kw:List (Str×Value)}(X:K.In s.heap)(hm:PySem.W.makesIn K C=true)
 (hi:PySem.W.findIn K (.ref C) "__init__"=some (some (.ref f)))(hf:PySem.W.typeIn K (.ref f)=some (.type "function"))
 (h:codeAny (model prog w) (A.under (.builtin "type.__call__" ⟨.ref C::vs,kw⟩)) (.call (.ref f) ⟨.ref (s.heap.objs.size+1)::vs,kw⟩) (PySem.W.InitBack (s.heap.objs.size+1) R)
   { s with heap:=(s.heap.push PySem.W.emptyDict).push (PySem.W.instObj C s.heap.objs.size) }) :
 codeAny (model prog w) A (.call (.ref C) ⟨vs,kw⟩) R s:=by
 obtain⟨hh,g,d,t,os⟩:=s;exact PySem.W.make_core (PySem.W.makes_of X hm) (PySem.W.looks_findIn X hi) (λself=>PySem.W.bind_fn X self hf) (.inl rfl) h
end
def putF(f:Str)(v:V):List (Str×V)->List (Str×V)
 | []=>[(f,v)]
 | (g,x)::r=>if g=f then (g,v)::r else (g,x)::putF f v r
theorem oi(f g:Str)(v:V):∀fs:List (Str×V),(putF f v fs).lookup g=if g=f then some v else fs.lookup g
 | [] => by
  show List.lookup g [(f,v)]=_;by_cases h:g=f
  . have hb:(g==f)=true:=beq_iff_eq.mpr h
    simp only[List.lookup,hb,if_pos h]
  . have hb:(g==f)=false:=beq_eq_false_iff_ne.mpr h
    simp only[List.lookup,hb,if_neg h]
 | (k, x) :: r => by
  have ih:=oi f g v r;rw[show putF f v ((k,x)::r)=(if k=f then (k,v)::r else (k,x)::putF f v r) from rfl];by_cases hk:k=f
  . rw[if_pos hk]
    by_cases h:g=k
    . have hb:(g==k)=true:=beq_iff_eq.mpr h
      simp only[List.lookup,hb,if_pos (h.trans hk)]
    . have hb:(g==k)=false:=beq_eq_false_iff_ne.mpr h
      simp only[List.lookup,hb,if_neg (λe:g=f=>h (e.trans hk.symm))]
  . rw[if_neg hk]
    by_cases h:g=k
    . have hb:(g==k)=true:=beq_iff_eq.mpr h
      simp only[List.lookup,hb,if_neg (λe:g=f=>hk (h.symm.trans e))]
    . have hb:(g==k)=false:=beq_eq_false_iff_ne.mpr h
      simp only[List.lookup,hb];exact ih
theorem si(f:Str)(v:V):∀fs:List (Str×V),f∈(putF f v fs).map (·.1)/\∀g,g∈fs.map (·.1)->g∈(putF f v fs).map (·.1)
 | []=>⟨by simp[putF],λg h=>by simp at h⟩
 | (k, x) :: r => by
  obtain⟨i1,i2⟩:=si f v r;rw[show putF f v ((k,x)::r)=(if k=f then (k,v)::r else (k,x)::putF f v r) from rfl];by_cases hk:k=f
  . rw[if_pos hk]
    subst hk;exact⟨by simp,λg h=>by simpa using h⟩
  . rw[if_neg hk]
    refine⟨?_,λg h=>?_⟩
    . rw[List.map_cons]
      exact List.mem_cons_of_mem _ i1
    . rw[List.map_cons]at h ⊢
      rcases List.mem_cons.mp h with e|e
      . exact List.mem_cons.mpr (.inl e)
      . exact List.mem_cons_of_mem _ (i2 g e)
theorem Qf(f:Str)(v:V):∀fs:List (Str×V),(putF f v fs).length<=fs.length+1
 | []=>by simp[putF]
 | (k,x)::r=>by
  have ih:=Qf f v r;rw[show putF f v ((k,x)::r)=(if k=f then (k,v)::r else (k,x)::putF f v r) from rfl];by_cases hk:k=f
  . rw[if_pos hk,List.length_cons,List.length_cons];omega
  . rw[if_neg hk,List.length_cons,List.length_cons];omega
theorem RelO.some_of{v:V}{o:Option Value}(r:RelO (some v) o):∃u,o=some u/\RelV v u:=by
 cases o with
 | none=>exact(show False from r).elim
 | some u=>exact⟨u,rfl,r⟩
theorem RelO.none_of{o:Option Value}(r:RelO none o):o=none:=by
 cases o with
 | none=>rfl
 | some u=>exact(show False from r).elim
theorem Gs{v:V}{u:Value}(r:RelV v u):PySem.W.handedIn u=true:=by
 cases v with
 | non=>cases(show u=Value.none from r);rfl
 | bl b=>cases(show u=Value.bool b from r);rfl
 | int i=>obtain⟨t,e⟩:=(show ∃t,u=Value.int i t from r);cases e;rfl
 | str x=>obtain⟨t,e⟩:=(show ∃t,u=Value.str x t from r);cases e;rfl
 | byt b=>obtain⟨t,e⟩:=(show ∃t,u=Value.bytes b t from r);cases e;rfl
 | flt b=>obtain⟨t,e⟩:=(show ∃t,u=Value.float b t from r);cases e;rfl
 | ref a=>cases(show u=Value.ref a from r);rfl
 | ty n=>cases(show u=Value.type n from r);rfl
section
variable {P : Program} {w : World} {H H' : Hp} {h h' : Heap} {a C dx : Addr} {fs fs' : List (Str × V)}
theorem Ln(hok:HOk P w H h)(e:H a=some (.ins C dx fs)):∃mA,ObjM h a dx C mA/\(∀f,RelO (fs.lookup f) (mA f))/\PySem.Within mA (fs.map (·.1))/\fs.length<=1000/\H dx=some (.own a):=by
 obtain⟨d,z,ne,ob,mA,n,r,q⟩:=(show Bc P w H h a (.ins C dx fs) from hok a _ e)
 exact⟨mA,⟨ob,n,ne⟩,r,q,z,d⟩
end
structure Cls(K:PySem.W.Frag)(C:Addr):Prop where
 pg:PySem.W.plainGet K C Str.empty=true
 hd:PySem.W.hasDictIn K C=true
 po:PySem.W.plainOver K C=true
 sa:PySem.W.findIn K (.ref C) "__setattr__"=some (some (.builtin "object.__setattr__"))
theorem Cls.get{K:PySem.W.Frag}{C:Addr}(c:Cls K C)(f:Str):PySem.W.plainGet K C f=true:=c.pg
def Im(K:PySem.W.Frag)(C:Addr)(f:Str):Prop:=PySem.W.findIn K (.ref C) f=some none
theorem Im.taker{K:PySem.W.Frag}{C:Addr}{f:Str}(n:Im K C f):PySem.W.takerIn K C f=some none:=by
 unfold PySem.W.takerIn;rw[show PySem.W.findIn K (.ref C) f=some none from n];rfl
structure Meth(K:PySem.W.Frag)(C:Addr)(m:Str)(f:Addr):Prop where
 at_:PySem.W.findIn K (.ref C) m=some (some (.ref f))
 fn:PySem.W.isFn K (.ref f)=true
 kp:PySem.W.keepIn K (.ref f)=true
section
variable {X : Cx} {pins : List (Addr × Obj)} {σ : St} {H : Hp} {s : Shared} {a C dx : Addr} {fs : List (Str × V)} {f : Str} {v : V} {A : Around} {E : Value -> Shared -> Prop}
theorem aq{b:Bool}{Q:Value->Shared->Prop}(I:Inv X pins σ H s)(e:H a=some (.ins C dx fs))(c:Cls X.K C)(n:Im X.K C f)(l:fs.lookup f=some v)
 (h:∀u s',Inv X pins σ H s'->RelV v u->Q u s'):wpAny (model X.prog X.w) A (getAttr (.ref a) f b) Q E s:=by
 obtain⟨mA,O,r,_,_,_⟩:=Ln I.hok e;obtain⟨u,hu,ru⟩:=RelO.some_of (v:=v) (o:=mA f) (by rw[<-l];exact r f);exact get_map I.kIn O (c.get f) c.hd n hu (Gs ru) (h u _ (I.tok _) ru)
theorem Bj{m:Str}{g:Addr}{pl:Sem Bool}{Q:Value×List Value->Shared->Prop}(I:Inv X pins σ H s)(e:H a=some (.ins C dx fs))(c:Cls X.K C)(k:Meth X.K C m g)(l:fs.lookup m=none)
 (h:Q (.ref g,[.ref a]) s):wpAny (model X.prog X.w) A (getMethod (.ref a) m pl) Q E s:=by
 obtain⟨mA,O,r,_,_,_⟩:=Ln I.hok e;have hn:mA m=none:=RelO.none_of (by rw[<-l];exact r m);exact Bv I.kIn O (c.get m) k.at_ k.fn hn h
theorem vp{y:V}{u:Value}{Q:Unit->Shared->Prop}(I:Inv X pins σ H s)(e:H a=some (.ins C dx fs))(c:Cls X.K C)(n:Im X.K C f)(hl:fs.length<1000)(ry:RelV y u)
 (h:∀s',Inv X pins σ (upd H a (.ins C dx (putF f y fs))) s'->Q () s'):wpAny (model X.prog X.w) A (setAttr (.ref a) f u) Q E s:=by
 obtain⟨mA,O,r,wi,_,ho⟩:=Ln I.hok e;have hz:(fs.map (·.1)).length<=sizeLine:=by rw[List.length_map,sizeLine_eq];omega
 refine Jx I.kIn O c.sa c.po n.taker c.hd wi hz λh' O' sb=>h _ ?_;have hd:∃o,h'.get? dx=some o:=let ⟨o,_,_,e',_⟩:=O'.ns;⟨o,e'⟩;refine I.write (x:=a) (e:=dx) (by rw[e];exact True.intro) (.inr ho) (λb q hb z=>(sb.2 b hb).trans z) hd ?_;refine⟨by rw[va O.ne];exact ho,?_,O.ne,O'.obj,_,O'.ns,λg=>?_,λg hg=>?_⟩
 . have:=Qf f y fs;omega
 . show RelO ((putF f y fs).lookup g) (if g=f then some u else mA g)
   rw[oi];by_cases q:g=f
   . rw[if_pos q,if_pos q];exact ry
   . rw[if_neg q,if_neg q];exact r g
 . by_cases q:g=f
   . rw[q];exact(si f y fs).1
   . refine(si f y fs).2 g (wi g λz=>hg ?_)
     show (if g=f then some u else mA g)=none;rw[if_neg q];exact z
theorem Inv.made(I:Inv X pins σ H s):Inv X pins σ (upd (upd H s.heap.objs.size (.own (s.heap.objs.size+1))) (s.heap.objs.size+1) (.ins C s.heap.objs.size []))
 { s with heap:=(s.heap.push PySem.W.emptyDict).push (PySem.W.instObj C s.heap.objs.size) }:=by
 have e1:(s.heap.push PySem.W.emptyDict).get? s.heap.objs.size=some PySem.W.emptyDict:=Heap.get?_push_size s.heap rfl;have e2:((s.heap.push PySem.W.emptyDict).push (PySem.W.instObj C s.heap.objs.size)).get? (s.heap.objs.size+1)=some (PySem.W.instObj C s.heap.objs.size):=by
  have:=Heap.get?_push_size (s.heap.push PySem.W.emptyDict) (o:=PySem.W.instObj C s.heap.objs.size) rfl;rwa [Heap.size_push]at this
 have e3:(s.heap.push PySem.W.emptyDict).Ns s.heap.objs.size (λ_=>none):=⟨PySem.W.emptyDict,#[],_,e1,rfl,(λe he=>absurd he (by simp)),λ_=>rfl⟩
 have I1:=I.laid (a:=s.heap.objs.size) (o:=.own (s.heap.objs.size+1)) (h':=s.heap.push PySem.W.emptyDict) (t':=s.toks) (λb u q=>Heap.get?_push_of_some _ q) (Nat.le_refl _) ⟨_,e1⟩;refine I1.laid (a:=s.heap.objs.size+1) (o:=.ins C s.heap.objs.size []) (t':=s.toks) (λb u q=>Heap.get?_push_of_some _ q) (Nat.le_of_eq (Heap.size_push _ _)) ?_;have ne:s.heap.objs.size≠s.heap.objs.size+1:=Nat.ne_of_lt (Nat.lt_succ_self _);refine⟨by rw[va ne,da],Nat.zero_le _,ne,e2,λ_=>none,(Heap.Ns1.of_empty e3).at λo q=>Heap.get?_push_of_some _ q,λ_=>True.intro,λy hy=>absurd rfl hy⟩
theorem Dz{prog:Program}{w:World}{env:Env}{e:Expr}{f:Str}{pos:Pos}{s:Shared}{Q:Value->Shared->Prop}(hb:attributeBase e f env (eval e env)=eval e env)
 (h:wpAny (model prog w) A (eval e env) (λo s₁=>wpAny (model prog w) A (getAttr o f true) Q E s₁) E s):wpAny (model prog w) A (eval (.Attribute e f pos) env) Q E s :=
 Attribute_any_ h (by rw[arm_eval_Attribute,hb])
end
end L2
namespace L2
open PySem PySem.Spec PyProof.Rows
structure Room(k:Nat)(A:Around):Prop where
 hd:A.handled=none
 dp:A.depth+3*k+5<recursionLimit
 un:A.units+16*k+200<cLine
theorem Room.mono{j k:Nat}{A:Around}(r:Room k A)(h:j<=k):Room j A:=⟨r.hd,by have:=r.dp;omega,by have:=r.un;omega⟩
theorem Room.deeper{k:Nat}{A:Around}(r:Room (k+1) A)(env:Env):Room k (A.deeper env) :=
 ⟨r.hd,by have:=r.dp;show A.depth+1+3*k+5<_;omega,by have:=r.un;show A.units+3+16*k+200<_;omega⟩
theorem Qp{A:Around}{C:Addr}{us:List Value}{kw:List (Str×Value)}:(A.under (.builtin "type.__call__" ⟨.ref C::us,kw⟩)).depth=A.depth+1:=by
 first|rfl|simp[Around.under,Code.weight,Code.isCreation,Code.isGuard,Code.isCaller,Code.frames,Code.isFrame,guardIds]
theorem Pp{A:Around}{C:Addr}{us:List Value}{kw:List (Str×Value)}:(A.under (.builtin "type.__call__" ⟨.ref C::us,kw⟩)).units=A.units+1:=by
 first|rfl|simp[Around.under,Code.cUnits,Code.frames,Code.isFrame]
theorem Room.make{k:Nat}{A:Around}(r:Room (k+1) A)(C:Addr)(us:List Value)(kw:List (Str×Value)):Room k (A.under (.builtin "type.__call__" ⟨.ref C::us,kw⟩)) :=
 ⟨r.hd,by have:=r.dp;rw[Qp];omega,by have:=r.un;rw[Pp];omega⟩
theorem Room.depth{k:Nat}{A:Around}(r:Room k A):A.depth<recursionLimit:=by have:=r.dp;omega
theorem Room.units{k:Nat}{A:Around}(r:Room k A):A.units+64<cLine:=by have:=r.un;omega
def tNil:TA:=λ_ H Q=>Q [] H
def tCons(ta:TE)(tr:TA):TA:=λσ H Q=>ta σ H λx H1=>tr σ H1 λxs H2=>Q (x::xs) H2
section
variable {X : Cx} {e : Expr} {es : List Expr} {te : TE} {t : TA} {pos : Pos}
theorem ia:PA X [] tNil:=λ_ _ _ _ H Q I h=>Calls.spliced_nil ⟨[],H,I,.nil,h⟩
theorem aa(ha:PE X e te)(hr:PA X es t)(hs:starEach (e::es) X.env=(false,eval e X.env)::starEach es X.env:=by first|rfl|with_unfolding_all rfl):PA X (e::es) (tCons te t):=by
 intro pos pins s σ H Q I h;rw[hs];show wpAny _ _ (spliced ((false,eval e X.env)::backTo pos (starEach es X.env))) _ _ s;refine Calls.spliced_cons (thn (ha pins s σ H _ I h) λu s1 hqq=>?_);obtain⟨x,H1,I1,r1,q1⟩:=hqq;exact thn (hr pos pins s1 σ H1 _ I1 q1) λus s2 ⟨xs,H2,I2,r2,q2⟩=>⟨x::xs,H2,I2,.cons r1 r2,q2⟩
def tTup(t:TA):TE:=λσ H Q=>t σ H λxs H1=>xs.length<=sizeLine/\∀p,H1 p=none->Q (.ref p) (upd H1 p (.tup xs))
def tLst(t:TA):TE:=λσ H Q=>t σ H λxs H1=>xs.length<=sizeLine/\∀p,H1 p=none->Q (.ref p) (upd H1 p (.lst xs))
theorem Sa{x1}(h:PA X es t):PE X (.Tuple es x1 pos) (tTup t):=by
 intro pins s σ H Q I hq;refine wpAny_Tuple_spliced (thn (h pos pins s σ H _ I hq) λus s1 ⟨xs,H1,I1,r,z,q⟩=>⟨by rw[<-r.length];exact z,?_⟩);have hf:H1 s1.heap.objs.size=none:=I1.hok.fresh (Nat.le_refl _);refine⟨.ref s1.heap.objs.size,upd H1 s1.heap.objs.size (.tup xs),I1.laid (t':=s1.toks) (λb u e=>Heap.get?_push_of_some _ e) (Nat.le_refl _) ?_,rfl,q _ hf⟩;exact⟨z,us,r,⟨_,Heap.get?_push_size _ rfl,rfl,_,rfl⟩⟩
theorem Hb(h:PA X es t):PE X (.List es pos) (tLst t):=by
 intro pins s σ H Q I hq;refine wpAny_List_spliced (thn (h pos pins s σ H _ I hq) λus s1 ⟨xs,H1,I1,r,z,q⟩=>⟨by rw[<-r.length];exact z,?_⟩);have hf:H1 s1.heap.objs.size=none:=I1.hok.fresh (Nat.le_refl _);refine⟨.ref s1.heap.objs.size,upd H1 s1.heap.objs.size (.lst xs),I1.laid (t':=s1.toks) (λb u e=>Heap.get?_push_of_some _ e) (Nat.le_refl _) ?_,rfl,q _ hf⟩;exact⟨z,us,0,r,Heap.get?_push_size _ rfl⟩
end
abbrev Sp:=List V->Hp->VK->XK->Prop
abbrev CXT:=List Env->Hp->Shared->XK->Value->Shared->Prop
structure Env0(P:Program)(w:World)(K:PySem.W.Frag)(mg:Str->Option Value)(base:Heap)(A:Around)(outer:List Env)(s:Shared)(H:Hp):Prop where
 frames:A.frames=some outer
 mod:Mod K mg base
 bs:∀b o,base.get? b=some o->s.heap.get? b=some o/\H b=none
 bsz:base.objs.size<=s.heap.objs.size
 funs:s.heap.FunFrames base outer
 frf:∀b∈frs outer,H b=none
 hok:HOk P w H s.heap
 bare:AllBare s.gens
def CE(outer:List Env)(P:Program)(w:World)(H:Hp)(s:Shared)(Q:VK)(u:Value)(s':Shared):Prop :=
 ∃v H',s'.os=s.os/\AllBare s'.gens/\Un (frs outer) [] H H' s.heap s'.heap/\HOk P w H' s'.heap/\RelV v u/\Q v H'
def CR(CX:CXT)(outer:List Env)(P:Program)(w:World)(H:Hp)(s:Shared)(Q:VK)(E:XK)(r:Result)(s':Shared):Prop :=
 match r with
 | .ok (.ret u)=>CE outer P w H s Q u s'
 | .ok _=>False
 | .error e=>CX outer H s E e s'
structure FnOk(P:Program)(w:World)(K:PySem.W.Frag)(mg:Str->Option Value)(base:Heap)(CX:CXT)(k:Nat)(f:Addr)(fd:FuncData)(ps:List Str)(sp:Sp):Prop where
 len:∀vs H Q E,sp vs H Q E->vs.length=ps.length
 run:∀(A:Around) (outer:List Env) (s:Shared) (H:Hp) (args:Args) (us:List Value) (vs:List V) (Q:VK) (E:XK),Room k A->Env0 P w K mg base A outer s H->BindsTo s fd args (ps.zip us)->Vals vs us->sp vs H Q E ->
  codeAny (model P w) A (.call (.ref f) args) (CR CX outer P w H s Q E) s
theorem Env0.make{P:Program}{w:World}{K:PySem.W.Frag}{mg:Str->Option Value}{base:Heap}{A:Around}{outer:List Env}{s:Shared}{H:Hp}(e:Env0 P w K mg base A outer s H)(C:Addr)(us:List Value)(kw:List (Str×Value)) :
 Env0 P w K mg base (A.under (.builtin "type.__call__" ⟨.ref C::us,kw⟩)) outer s H:=⟨by first|exact e.frames|(simpa[Around.under,Code.envs,Code.isFrame,pushEnvs] using e.frames),e.mod,e.bs,e.bsz,e.funs,e.frf,e.hok,e.bare⟩
section
variable {X : Cx} {pins : List (Addr × Obj)} {σ : St} {H : Hp} {s s' : Shared}
theorem Inv.env0(I:Inv X pins σ H s):Env0 X.prog X.w X.K X.mg X.base X.A X.stack s H :=
 ⟨I.ok.frames,I.ok.mod,I.bs,Nat.le_trans I.ok.bsz I.sz,I.stack,I.tq,I.hok,I.bare⟩
theorem Inv.after{Q:VK}{u:Value}(I:Inv X pins σ H s)(h:CE X.stack X.prog X.w H s Q u s'):EP X pins σ Q u s':=by
 obtain⟨v,H',os,bare,un,hok,r,q⟩:=h;obtain⟨hh,g,d,t,os'⟩:=s';obtain rfl:os'=s.os:=os;exact⟨v,H',I.call (h':=hh) (g':=g) (d':=d) (t':=t) (ch:=[]) un hok bare (λb z=>absurd z (by simp)),r,q⟩
end
def tCall(sp:Sp)(dvs:List V)(E:XK)(t:TA):TE:=λσ H Q=>t σ H λvs H1=>sp (vs++dvs) H1 Q E
def Nt(C:Addr)(m:Str)(sp:Sp)(dvs:List V)(E:XK)(ta:TE)(t:TA):TE:=λσ H Q=>ta σ H λx H1=>∃a dx fs,x= .ref a/\H1 a=some (.ins C dx fs)/\fs.lookup m=none /\
 t σ H1 λvs H2=>sp (x::(vs++dvs)) H2 Q E
def Ot(C:Addr)(sp:Sp)(dvs:List V)(E:XK)(t:TA):TE:=λσ H Q=>t σ H λvs H1=>∀x dx,H1 x=none->H1 dx=none->dx≠x ->
 sp (.ref x::(vs++dvs)) (upd (upd H1 dx (.own x)) x (.ins C dx [])) (λv H2=>v= .non/\Q (.ref x) H2) E
def Binds(K:PySem.W.Frag)(fd:FuncData)(ps:List Str)(ds:List Value):Prop :=
 ∀(s:Shared) (us:List Value),K.In s.heap->(us++ds).length=ps.length->BindsTo s fd ⟨us,[]⟩ (ps.zip (us++ds))
theorem Binds.all{K:PySem.W.Frag}{fd:FuncData}{ps:List Str}(h:∀us:List Value,us.length=ps.length->bindArgs fd ⟨us,[]⟩=pure (ps.zip us)):Binds K fd ps []:=λs us _ hl=>by
 rw[List.append_nil]at hl ⊢;exact .of_eq (h us hl)
def Passes(CX:CXT)(X:Cx)(E:XK):Prop:=∀(pins:List (Addr×Obj)) (σ:St) (H:Hp) (s:Shared) (e:Value) (s':Shared),Inv X pins σ H s->CX X.stack H s E e s'->X.xe e s'
section
variable {X : Cx} {CX : CXT} {k : Nat} {f C : Addr} {fd : FuncData} {ps : List Str} {sp : Sp} {dvs : List V} {ds : List Value} {E : XK} {x m : Str} {p pos apos : Pos} {e o : Expr} {es : List Expr} {ta : TE} {t : TA}
theorem Sq{pins:List (Addr×Obj)}{σ:St}{H:Hp}{s:Shared}{Q:VK}{us:List Value}{vs:List V}(F:FnOk X.prog X.w X.K X.mg X.base CX k f fd ps sp)(hr:Room k X.A)(hb:Binds X.K fd ps ds)(hd:Vals dvs ds)(hx:Passes CX X E)
 (I:Inv X pins σ H s)(r:Vals vs us)(h:sp (vs++dvs) H Q E):wpAny (model X.prog X.w) X.A (call (.ref f) us) (EP X pins σ Q) X.xe s:=by
 have r2:Vals (vs++dvs) (us++ds):=r.append hd;have hl:(us++ds).length=ps.length:=by rw[<-r2.length];exact F.len _ _ _ _ h
 refine wpAny_call (codeAny_mono (F.run X.A X.stack s H ⟨us,[]⟩ (us++ds) (vs++dvs) Q E hr I.env0 (hb s us I.kIn hl) r2 h) λr s' hq=>?_);cases r with
 | error e=>exact hx pins σ H s e s' I hq
 | ok fl =>
  cases fl with
  | ret u=>exact I.after hq
  | next=>exact False.elim hq
  | brk=>exact False.elim hq
  | cont=>exact False.elim hq
theorem Ky(F:FnOk X.prog X.w X.K X.mg X.base CX k f fd ps sp)(hr:Room k X.A)(hg:Gl X x)(hm:X.mg x=some (.ref f))(hk:PySem.W.keepIn X.K (.ref f)=true)(hb:Binds X.K fd ps ds)(hd:Vals dvs ds)(hx:Passes CX X E)
 (ha:PA X (e::es) t)(hdb:(x==("__debug__":Str))=false:=by decide)(he:starEach (e::es) X.env=(false,eval e X.env)::starEach es X.env:=by first|rfl|with_unfolding_all rfl)(hpl:(backTo pos (starEach es X.env)).any (·.1)=false:=by first|rfl|with_unfolding_all rfl) :
 PE X (.Call (.Name x p) (e::es) [] pos) (tCall sp dvs E t):=by
 intro pins s σ H Q I h;refine wpAny_Call_Name_kw (Lk I hg hm ?_ hdb);refine PySem.W.callWith_K (h₀:=X.base) I.ok.mod.kin hk (thn (ha pos pins s σ H _ I h) λus s1 ⟨vs,H1,I1,r,q⟩=>⟨I1.kIn,?_⟩) he hpl;exact Sq F hr hb hd hx I1 r q
theorem Iy{pl:Sem Bool}(he:PE X o ta)(c:Cls X.K C)(hm:Meth X.K C m f)(F:FnOk X.prog X.w X.K X.mg X.base CX k f fd ps sp)(hr:Room k X.A)(hb:Binds X.K fd ps ds)(hd:Vals dvs ds)(hx:Passes CX X E)(ha:PA X (e::es) t)
 (hst:starEach (e::es) X.env=(false,eval e X.env)::starEach es X.env:=by first|rfl|with_unfolding_all rfl)(hpl:(backTo pos (starEach es X.env)).any (·.1)=false:=by first|rfl|with_unfolding_all rfl)
 (ht:eval (.Call (.Attribute o m apos) (e::es) [] pos) X.env=(do
   let ov<-eval o X.env
   standAt apos.atName
   let (f,first)<-holding [ov] (getMethod ov m pl)
   callWith pos f first (backTo pos (starEach (e::es) X.env)) (backToKw pos (keywordEach [] X.env))):=by first|rfl|with_unfolding_all rfl) :
 PE X (.Call (.Attribute o m apos) (e::es) [] pos) (Nt C m sp dvs E ta t):=by
 intro pins s σ H Q I h;refine PySem.W.methodCall_KW (pl:=pl) (thn (he pins s σ H _ I h) λu s1 ⟨x,H1,I1,rx,a,dx,fs,ex,ea,l,q⟩=>?_) ht;subst ex;obtain rfl:u=Value.ref a:=rx;refine Bj I1 ea c hm l ?_;refine PySem.W.callWith_K (first:=[.ref a]) (h₀:=X.base) I.ok.mod.kin hm.kp (thn (ha pos pins s1 σ H1 _ I1 q) λus s2 ⟨vs,H2,I2,r,q2⟩=>⟨I2.kIn,?_⟩) hst hpl;exact Sq (us:=.ref a::us) (vs:=.ref a::vs) F hr hb hd hx I2 (.cons rfl r) q2
theorem Nu{pl:Sem Bool}(he:PE X o ta)(c:Cls X.K C)(hm:Meth X.K C m f)(F:FnOk X.prog X.w X.K X.mg X.base CX k f fd ps sp)(hr:Room k X.A)(hb:Binds X.K fd ps ds)(hd:Vals dvs ds)(hx:Passes CX X E)
 (ht:eval (.Call (.Attribute o m apos) [] [] pos) X.env=(do
   let ov<-eval o X.env
   standAt apos.atName
   let (f,first)<-holding [ov] (getMethod ov m pl)
   callWith pos f first (backTo pos (starEach [] X.env)) (backToKw pos (keywordEach [] X.env))):=by first|rfl|with_unfolding_all rfl) :
 PE X (.Call (.Attribute o m apos) [] [] pos) (Nt C m sp dvs E ta tNil):=by
 intro pins s σ H Q I h;refine PySem.W.methodCall_KW (pl:=pl) (thn (he pins s σ H _ I h) λu s1 ⟨x,H1,I1,rx,a,dx,fs,ex,ea,l,q⟩=>?_) ht;subst ex;obtain rfl:u=Value.ref a:=rx;refine Bj I1 ea c hm l ?_;exact PySem.W.callWith_K0 (first:=[.ref a]) I1.kIn hm.kp (Sq (us:=[.ref a]) (vs:=[.ref a]) F hr hb hd hx I1 (.cons rfl .nil) q)
structure Mk(K:PySem.W.Frag)(C f:Addr):Prop where
 makes:PySem.W.makesIn K C=true
 init:PySem.W.findIn K (.ref C) "__init__"=some (some (.ref f))
 fn:PySem.W.isFn K (.ref f)=true
 kp:PySem.W.keepIn K (.ref C)=true
theorem yo{pins:List (Addr×Obj)}{σ:St}{H:Hp}{s:Shared}{Q:VK}{us:List Value}{vs:List V}(M:Mk X.K C f)(F:FnOk X.prog X.w X.K X.mg X.base CX k f fd ps sp)(hr:Room (k+1) X.A)(hb:Binds X.K fd ps ds)(hd:Vals dvs ds)
 (hx:Passes CX X E)(I:Inv X pins σ H s)(r:Vals vs us)
 (h:∀x dx,H x=none->H dx=none->dx≠x->sp (.ref x::(vs++dvs)) (upd (upd H dx (.own x)) x (.ins C dx [])) (λv H2=>v= .non/\Q (.ref x) H2) E) :
 wpAny (model X.prog X.w) X.A (call (.ref C) us) (EP X pins σ Q) X.xe s:=by
 have hq:=h (s.heap.objs.size+1) s.heap.objs.size (I.hok.fresh (Nat.le_succ _)) (I.hok.fresh (Nat.le_refl _)) (Nat.ne_of_lt (Nat.lt_succ_self _));have I2:=Inv.made (C:=C) I;have r2:Vals (V.ref (s.heap.objs.size+1)::(vs++dvs)) (Value.ref (s.heap.objs.size+1)::(us++ds)):=.cons rfl (r.append hd);have hl:(Value.ref (s.heap.objs.size+1)::us++ds).length=ps.length:=by
  have e:=r2.length;rw[F.len _ _ _ _ hq]at e;exact e.symm
 refine wpAny_call (Zu (f:=f) I.kIn M.makes M.init (beq_iff_eq.mp M.fn) (codeAny_mono (F.run _ X.stack _ _ ⟨Value.ref (s.heap.objs.size+1)::us,[]⟩ (Value.ref (s.heap.objs.size+1)::(us++ds)) _ _ E (hr.make C us [])
  (I2.env0.make C us []) (hb _ (Value.ref (s.heap.objs.size+1)::us) I2.kIn hl) r2 hq) λr s' hq'=>?_))
 cases r with
 | error e=>exact hx pins σ _ _ e s' I2 hq'
 | ok fl =>
  cases fl with
  | ret u =>
   obtain⟨v,H',I3,rv,ev,q3⟩:=I2.after hq';subst ev;exact⟨rv,⟨V.ref (s.heap.objs.size+1),H',I3,rfl,q3⟩⟩
  | next=>exact False.elim hq'
  | brk=>exact False.elim hq'
  | cont=>exact False.elim hq'
theorem Jy(M:Mk X.K C f)(F:FnOk X.prog X.w X.K X.mg X.base CX k f fd ps sp)(hr:Room (k+1) X.A)(hg:Gl X x)(hm:X.mg x=some (.ref C))(hb:Binds X.K fd ps ds)(hd:Vals dvs ds)(hx:Passes CX X E)
 (ha:PA X (e::es) t)(hdb:(x==("__debug__":Str))=false:=by decide)(he:starEach (e::es) X.env=(false,eval e X.env)::starEach es X.env:=by first|rfl|with_unfolding_all rfl)(hpl:(backTo pos (starEach es X.env)).any (·.1)=false:=by first|rfl|with_unfolding_all rfl) :
 PE X (.Call (.Name x p) (e::es) [] pos) (Ot C sp dvs E t):=by
 intro pins s σ H Q I h;refine wpAny_Call_Name_kw (Lk I hg hm ?_ hdb);refine PySem.W.callWith_K (h₀:=X.base) I.ok.mod.kin M.kp (thn (ha pos pins s σ H _ I h) λus s1 ⟨vs,H1,I1,r,q⟩=>⟨I1.kIn,?_⟩) he hpl;exact yo M F hr hb hd hx I1 r q
theorem Ou(M:Mk X.K C f)(F:FnOk X.prog X.w X.K X.mg X.base CX k f fd ps sp)(hr:Room (k+1) X.A)(hg:Gl X x)(hm:X.mg x=some (.ref C))(hb:Binds X.K fd ps ds)(hd:Vals dvs ds)(hx:Passes CX X E)
 (hdb:(x==("__debug__":Str))=false:=by decide):PE X (.Call (.Name x p) [] [] pos) (Ot C sp dvs E tNil):=by
 intro pins s σ H Q I h;refine wpAny_Call_Name_kw (Lk I hg hm ?_ hdb);exact PySem.W.callWith_K0 I.kIn M.kp (yo (us:=[]) M F hr hb hd hx I .nil h)
end
def PK(X:Cx)(kws:List Keyword)(t:TA):Prop :=
 ∀(pos:Pos) (pins:List (Addr×Obj)) (s:Shared) (σ:St) (H:Hp) (Q:List V->Hp->Prop),Inv X pins σ H s->t σ H Q->wpAny (model X.prog X.w) X.A (evalAll ((backToKw pos (keywordEach kws X.env)).map (·.2))) (AP X pins σ Q) X.xe s
section
variable {X : Cx} {CX : CXT} {k : Nat} {f C : Addr} {fd : FuncData} {ps ks : List Str} {sp : Sp} {E : XK} {x m : Str} {p pos apos kpos : Pos} {e o : Expr} {es : List Expr} {kws : List Keyword} {te ta : TE} {t tk : TA} {nm : Option Str}
theorem Ar:PK X [] tNil:=λ_ _ _ _ H Q I h=>wpAny_evalAll_nil ⟨[],H,I,.nil,h⟩
variable {g : List Value -> List Value -> List Value} {gV : List V -> List V -> List V}
end
structure wa(N P:List Str)(sc:Scope):Prop where
 kind:sc.kind= .function
 co:sc.isCoroutine=false
 gen:sc.isGenerator=false
 nd:N.Nodup
 pre:N.take P.length=P
 par:∀x∈P,sc.names.lookup x=some .local\/sc.names.lookup x=some .cell
 nofree:∀y∈sc.names,y.2≠ .free
theorem Bm{kindOf:Str->Option NameKind}{x:Str}:∀{binds:List (Str×Value)} {m:Str->Option Value},(∀v,(x,v)∉binds)->bindL kindOf binds m x=m x
 | [],_,_=>rfl
 | (n, v) :: r, m, h => by
  unfold bindL;rw[Bm λw hw=>h w (List.mem_cons_of_mem _ hw)];split
  . have:x≠n:=by rintro rfl;exact h v List.mem_cons_self
    simp[this]
  . rfl
theorem Fm{kindOf:Str->Option NameKind}{x:Str}:∀{binds:List (Str×Value)} {m:Str->Option Value},(∀v,(x,v)∉binds)->bindC kindOf binds m x=m x
 | [],_,_=>rfl
 | (n, v) :: r, m, h => by
  unfold bindC;rw[Fm λw hw=>h w (List.mem_cons_of_mem _ hw)];split
  . rfl
  . have:x≠n:=by rintro rfl;exact h v List.mem_cons_self
    simp[this]
theorem Em{kindOf:Str->Option NameKind}{x:Str}{v:Value}:∀{P:List Str} {vs:List Value} {i:Nat} {m:Str->Option Value},P.Nodup->P[i]?=some x->vs[i]?=some v->kindOf x=some .local ->
 bindL kindOf (P.zip vs) m x=some v
 | [],_,_,_,_,h,_,_=>by simp at h
 | _::_,[],_,_,_,_,h,_=>by simp at h
 | p::P,w::vs,0,m,nd,h1,h2,hk=>by
  simp at h1 h2;subst h1;subst h2;show bindL kindOf ((p,w)::P.zip vs) m p=_;unfold bindL;rw[Bm λv hv=>(List.nodup_cons.mp nd).1 (List.of_mem_zip hv).1,if_pos hk];simp
 | p::P,w::vs,i+1,m,nd,h1,h2,hk=>by
  show bindL kindOf ((p,w)::P.zip vs) m x=_;unfold bindL;exact Em (i:=i) (List.nodup_cons.mp nd).2 (by simpa using h1) (by simpa using h2) hk
theorem Gm{kindOf:Str->Option NameKind}{x:Str}{v:Value}:∀{P:List Str} {vs:List Value} {i:Nat} {m:Str->Option Value},P.Nodup->P[i]?=some x->vs[i]?=some v->kindOf x≠some .local ->
 bindC kindOf (P.zip vs) m x=some v
 | [],_,_,_,_,h,_,_=>by simp at h
 | _::_,[],_,_,_,_,h,_=>by simp at h
 | p::P,w::vs,0,m,nd,h1,h2,hk=>by
  simp at h1 h2;subst h1;subst h2;show bindC kindOf ((p,w)::P.zip vs) m p=_;unfold bindC;rw[Fm λv hv=>(List.nodup_cons.mp nd).1 (List.of_mem_zip hv).1,if_neg hk];simp
 | p::P,w::vs,i+1,m,nd,h1,h2,hk=>by
  show bindC kindOf ((p,w)::P.zip vs) m x=_;unfold bindC;exact Gm (i:=i) (List.nodup_cons.mp nd).2 (by simpa using h1) (by simpa using h2) hk
def start(N:List Str)(vs:List V):St:=vs.map some++List.replicate (N.length-vs.length) none
def cxOf(CX:CXT)(P:Program)(w:World)(K:PySem.W.Frag)(mg:Str->Option Value)(base:Heap)(N:List Str)(qual:Str)(scope:Scope)(f:Addr)(cd:Value)(A:Around)(outer:List Env)(s:Shared)(H:Hp)(E:XK):Cx where
 prog:=P
 w:=w
 K:=K
 mg:=mg
 base:=base
 A:=A.deeper (envOfC qual scope s.heap.objs.size f cd)
 N:=N
 s₀:=s
 H₀:=H
 env:=envOfC qual scope s.heap.objs.size f cd
 outer:=outer
 stack:=envOfC qual scope s.heap.objs.size f cd::outer
 ex:=[]
 calm:=true
 fn:=λ_=>true
 pn:=[]
 xe:=λe s'=>wpAny (model P w) (A.deeper (envOfC qual scope s.heap.objs.size f cd)) (leaving (envOfC qual scope s.heap.objs.size f cd) e) (λ_ s''=>CX outer H s E e s'') (λe' s''=>CX outer H s E e' s'') s'
theorem To{sc:Scope}{n:Nat}{x:Str}(h:sc.names.lookup x=some .cell):∃c,(cellsFrom n sc.names []).lookup x=some c:=by
 have q:=PySem.W.cellsFrom_some sc.names n [] (.inl h);exact Option.isSome_iff_exists.mp q
theorem Ds{CX:CXT}{P:Program}{w:World}{K:PySem.W.Frag}{mg:Str->Option Value}{base:Heap}{N ps:List Str}{qual:Str}{scope:Scope}{f:Addr}{cd:Value}{A:Around}{outer:List Env}{s s1:Shared}{H:Hp}{E:XK}{us:List Value}{vs:List V}
 (S:wa N ps scope)(hd:A.handled=none)(e0:Env0 P w K mg base A outer s H)(hl:vs.length=ps.length)(r:Vals vs us)
 (x:InCallC s s.heap.objs.size (bindL (envOfC qual scope s.heap.objs.size f cd).kindOf (ps.zip us) λ_=>none) (cellsFrom (s.heap.objs.size+1) scope.names []) (bindC (envOfC qual scope s.heap.objs.size f cd).kindOf (ps.zip us) λ_=>none) s1) :
 Inv (cxOf CX P w K mg base N qual scope f cd A outer s H E) [] (start N vs) H s1:=by
 have hpl:ps.length<=N.length:=by have:=congrArg List.length S.pre;rw[List.length_take]at this;omega
 obtain⟨h1,tk,rfl,hk⟩:=x.done;have noA:∀b:Addr,b∉(cxOf CX P w K mg base N qual scope f cd A outer s H E).ex:=λb z=>absurd (show b∈([]:List Addr) from z) (by simp);refine⟨⟨e0.mod,S.kind,rfl,rfl,Nat.le_refl _,λy z c h1 h2=>?_,λy hy=>?_,λy c _ h=>?_,λ_=>hd,Around.frames_deeper e0.frames,.inr ⟨rfl,rfl⟩,λb z=>absurd z (noA b),e0.bs,e0.bsz,λb _ _=>noA b,λb z=>absurd z (noA b),e0.funs,e0.frf⟩,
  rfl,e0.bare,Un.kept hk,⟨_,x.toInCall.ns,λi y v h1 h2 h3=>?_⟩,λy c h=>⟨_,x.cell y c h⟩,e0.hok.fresh (Nat.le_refl _),λy c h=>?_,λp hp=>absurd (show p∈([]:List (Addr×Obj)) from hp) (by simp),e0.hok.kept hk,?_⟩
 . exact name_of_addr x.apart (PySem.mem_of_lookup h1) (PySem.mem_of_lookup h2)
 . have hy:scope.names.lookup y=some .cell\/scope.names.lookup y=some .free:=hy
   rcases hy with hy|hy
   . exact To hy
   . exact absurd rfl (S.nofree _ (PySem.mem_of_lookup hy))
 . exact Nat.le_of_lt (x.above y c (PySem.mem_of_lookup h))
 . have hi:i<vs.length:=by
    unfold start at h2;by_cases hi:i<vs.length
    . exact hi
    . rw[List.getElem?_append_right (by simpa using hi)]at h2
      rw[List.getElem?_replicate]at h2;split at h2<;>cases h2
   have ha:vs[i]?=some v:=by
    unfold start at h2;rw[List.getElem?_append_left (by simpa using hi),List.getElem?_map]at h2;cases e:vs[i]? with
    | none=>rw[e]at h2;cases h2
    | some a=>rw[e]at h2;cases h2;rfl
   obtain⟨u,hu,rv⟩:=r.get ha;have hp:ps[i]?=some y:=by
    rw[<-S.pre,List.getElem?_take_of_lt (by omega)];exact h1
   have ndP:ps.Nodup:=by rw[<-S.pre];exact S.nd.sublist (List.take_sublist _ _)
   refine⟨u,rv,?_⟩;rcases S.par y (List.mem_of_getElem? hp) with k|k
   . exact .inl ⟨k,Em ndP hp hu k⟩
   . obtain⟨c,e⟩:=To (n:=s.heap.objs.size+1) k
     refine .inr ⟨.inl k,c,e,?_⟩;have q:=x.cell y c e;rw[Gm ndP hp hu (by show scope.names.lookup y≠_;rw[k];decide)]at q;exact q
 . exact e0.hok.fresh (Nat.le_of_lt (x.above y c (PySem.mem_of_lookup h)))
 . unfold start
   show _=N.length;rw[List.length_append,List.length_map,List.length_replicate];omega
theorem fn_of{CX:CXT}{P:Program}{w:World}{K:PySem.W.Frag}{mg:Str->Option Value}{base:Heap}{k:Nat}{f:Addr}{name qual:Str}{params:Arguments}{body:List Stmt}{scope:Scope}{dV kV doc pm cdv ct oc:Value}{an od:Option Addr}
 {osl:Array (Option Value)}{N ps:List Str}{sp:Sp}(lk:K.lookup f=some ⟨oc,od,.func (PySem.W.fnOf name qual params body scope dV kV doc pm an cdv ct),osl⟩)(hcd:PySem.W.codeIn K cdv qual=true)(S:wa N ps scope)
 (len:∀vs H Q E,sp vs H Q E->vs.length=ps.length)
 (hbody:∀(A:Around) (outer:List Env) (s:Shared) (H:Hp) (vs:List V) (Q:VK) (E:XK),Room k (A.deeper (envOfC qual scope s.heap.objs.size f cdv))->sp vs H Q E ->
   ∃t,PSs (cxOf CX P w K mg base N qual scope f cdv A outer s H E) body t/\t { nx:=λ_ H'=>Q .non H',rt:=Q } (start N vs) H) :
 FnOk P w K mg base CX (k+1) f (PySem.W.fnOf name qual params body scope dV kV doc pm an cdv ct) ps sp:=by
 refine⟨len,λA outer s H args us vs Q E hr e0 hb r hsp=>?_⟩;have hl:=len _ _ _ _ hsp;have KX:K.In s.heap:=e0.mod.kin.keeps λb o e=>(e0.bs b o e).1;have lim:s.heap.NoLimit:=e0.mod.nolimit.keeps λb o e=>(e0.bs b o e).1;have hkind:∀y∈ps.zip us,scope.names.lookup y.1=some .local\/(scope.names.lookup y.1=some .cell/\((cellsFrom (s.heap.objs.size+1) scope.names []).lookup y.1).isSome=true):=λ⟨n,v⟩ hy=>by
  rcases S.par n (List.of_mem_zip hy).1 with q|q
  . exact .inl q
  . exact .inr ⟨q,PySem.W.cellsFrom_some _ _ _ (.inl q)⟩
 refine codeAny_call_function hr.depth (KX _ _ lk) rfl S.co S.gen rfl (PySem.W.codeRec_of KX hcd) (hb _ _ _ _ ?_);refine wpAny_newFunctionEnv_cells S.kind hkind λenv he s1 x=>?_;subst he;refine⟨lim.keeps x.toInCall.keep,codeAny_func ?_⟩;obtain⟨t,ht,hq⟩:=hbody A outer s H vs Q E (hr.deeper _) hsp;have I:Inv (cxOf CX P w K mg base N qual scope f cdv A outer s H E) [] (start N vs) H s1:=Ds S hr.hd e0 hl r x;refine wpAny_mono (ht [] s1 (start N vs) H _ I hq) (λfl s' hs=>?_) λe s' hs=>hs;have fin:∀{σ':St} {H':Hp} {v:V} {u:Value},Inv (cxOf CX P w K mg base N qual scope f cdv A outer s H E) [] σ' H' s'->RelV v u->Q v H'->CE outer P w H s Q u s' :=
  λ{σ' H' v u} J rv q=>⟨v,H',J.os,J.bare,J.base,J.hok,rv,q⟩
 cases fl with
 | ret u =>
  obtain⟨v,σ',H',J,rv,q⟩:=hs;exact fin J rv q
 | next =>
  obtain⟨σ',H',J,q⟩:=hs;exact fin (v:=V.non) (u:=Value.none) J rfl q
 | brk =>
  obtain⟨_,_,_,q⟩:=hs;exact False.elim q
 | cont =>
  obtain⟨_,_,_,q⟩:=hs;exact False.elim q
end L2
namespace L2
open PySem PySem.Spec PyProof.Rows
section
variable {X : Cx} {x : Str} {p pos : Pos} {e : Expr} {es : List Expr} {t : TA} {id T : String} {r : List V -> Hp -> VK -> Prop}
def tCB(r:List V->Hp->VK->Prop)(t:TA):TE:=λσ H Q=>t σ H λvs H1=>r vs H1 Q
theorem Ea(hc:vc X (.builtin id) r)(hg:Gl X x)(hm:X.mg x=none)(hv:bootBuiltins x=some (.builtin id))(ha:PA X (e::es) t)(hn:x≠"__name__":=by decide)(hdb:(x==("__debug__":Str))=false:=by decide)
 (he:starEach (e::es) X.env=(false,eval e X.env)::starEach es X.env:=by first|rfl|with_unfolding_all rfl)(hpl:(backTo pos (starEach es X.env)).any (·.1)=false:=by first|rfl|with_unfolding_all rfl):PE X (.Call (.Name x p) (e::es) [] pos) (tCB r t):=by
 intro pins s σ H Q I h;refine wpAny_Call_Name_kw (yf I hg hm hv ?_ hn hdb);exact PyProof.Rows.callWith_builtin1 (thn (ha pos pins s σ H _ I h) λus s1 ⟨vs,H1,I1,r1,q1⟩=>hc pins s1 σ H1 vs us Q I1 r1 q1) he hpl
theorem Ua(hc:vc X (.type T) r)(hg:Gl X x)(hm:X.mg x=none)(hv:bootBuiltins x=some (.type T))(ha:PA X (e::es) t)(hn:x≠"__name__":=by decide)(hdb:(x==("__debug__":Str))=false:=by decide)
 (he:starEach (e::es) X.env=(false,eval e X.env)::starEach es X.env:=by first|rfl|with_unfolding_all rfl)(hpl:(backTo pos (starEach es X.env)).any (·.1)=false:=by first|rfl|with_unfolding_all rfl):PE X (.Call (.Name x p) (e::es) [] pos) (tCB r t):=by
 intro pins s σ H Q I h;refine wpAny_Call_Name_kw (yf I hg hm hv ?_ hn hdb);exact PyProof.Rows.callWith_type1 (thn (ha pos pins s σ H _ I h) λus s1 ⟨vs,H1,I1,r1,q1⟩=>hc pins s1 σ H1 vs us Q I1 r1 q1) he hpl
end
end L2
namespace HT
open PySem PyProof.Rows
def lexLt:List Int->List Int->Bool
 | [],[]=>false
 | [],_::_=>true
 | _::_,[]=>false
 | x::xs,y::ys=>if x=y then lexLt xs ys else decide (x<y)
theorem Tp(x y:Int)(xs ys:List Int):lexLt (x::xs) (y::ys)=if x=y then lexLt xs ys else decide (x<y):=rfl
theorem Kk:lexLt [] []=false:=rfl
theorem fj(y:Int)(ys:List Int):lexLt [] (y::ys)=true:=rfl
theorem gj(x:Int)(xs:List Int):lexLt (x::xs) []=false:=rfl
theorem Mo(A:Around)(s:Shared)(a:Int)(t:Tok)(c:Int)(u:Tok):∃e,SeqAt.EqAt A s (.int a t) (.int c u) e/\(e=true↔a=c) :=
 ⟨(a==c),SeqAt.EqAt.int_int a t c u,by simp⟩
theorem lu(A:Around)(s:Shared)(a:Int)(t:Tok)(c:Int)(u:Tok)(prog:Program)(w:World)(E:Value->Shared->Prop)(Q:Value->Shared->Prop)(h:Q (.bool (decide (a<c))) s) :
 wpAny (model prog w) A (richCompare .Lt (.int a t) (.int c u)) Q E s :=
 (PyProof.Rows.lt_int h:wpAny (model prog w) A (compareOp .Lt (.int a t) (.int c u)) Q E s)
section
open PySem.SeqAt
open PySem.AutoSeq1 (wpAny_loadPart')
open PySem.MeetsSeq PySem.MeetsSeq2 PySem.MeetsSeq3
theorem Lj(l b:Addr)(items items2:Array Value)(n n2:Nat)(dd dd2:Option Addr)(sl sl2:Array (Option Value))(ns ms:List Int)(hi:IntsAre items.toList ns)(hj:IntsAre items2.toList ms) :
 Meets (Builtin.«tuple.__lt__» ⟨[.ref l,.ref b],[]⟩)
  (λ_ R s=>s.heap.get? l=some { cls:=.type "tuple",dict:=dd,data:=.seq items n,slots:=sl }/\s.heap.get? b=some { cls:=.type "tuple",dict:=dd2,data:=.seq items2 n2,slots:=sl2 } /\
    R (.ok (.ret (.bool (lexLt ns ms)))) s) :=
 .of_wp λprog w A R s h=>by
  obtain⟨hp,g,d,tk,os⟩:=s;obtain⟨hl,hb,h⟩:=h;have f2:=AutoSeq1.sub_tuple_tuple;have z1:items.size=ns.length:=by rw[<-hi.length];simp
  have z2:items2.size=ms.length:=by rw[<-hj.length];simp
  wp_walk using wpAny_loadPart' hl,wpAny_loadPart' hb,wpAny_forIn_list _ (λrest b s'=>b.1=none/\s'=⟨hp,g,d,tk,os⟩/\∃(vs ws:List Value) (ns' ms':List Int),rest=vs.zip ws /\
   IntsAre vs ns'/\IntsAre ws ms'/\ns'.length+items2.size=ms'.length+items.size/\R (.ok (.ret (.bool (lexLt ns' ms')))) ⟨hp,g,d,tk,os⟩) _
  case turn =>
   rintro⟨y,x⟩ rest b s' ⟨hb',rfl,vs,ws,ns',ms',hz,hvi,hwi,hlen,hR⟩
   cases hvi with
   | nil=>rw[List.zip_nil_left]at hz;cases hz
   | cons a t hvi' =>
    cases hwi with
    | nil=>rw[List.zip_nil_right]at hz;cases hz
    | cons c u hwi' =>
     rw[List.zip_cons_cons]at hz;injection hz with hyx hrest
     injection hyx with hy hx
     subst hy hx;rw[Tp]at hR;simp only[List.length_cons]at hlen;obtain⟨e,he,hiff⟩:=Mo A.in1 ⟨hp,g,d,tk,os⟩ a t c u;refine wpAny_bind (he prog w _ _ ?_);cases e with
     | true =>
      rw[if_pos (hiff.mp rfl)]at hR;wp_walk
      exact⟨rfl,rfl,_,_,_,_,hrest,hvi',hwi',by omega,hR⟩
     | false =>
      rw[if_neg (λq=>absurd (hiff.mpr q) Bool.false_ne_true)]at hR;have hri:=lu A.in1 ⟨hp,g,d,tk,os⟩ a t c u prog w;wp_walk using hri
      exact⟨_,rfl,by simpa using hR⟩
  case fin =>
   rintro⟨b1,b2⟩ s' ⟨hb',rfl,vs,ws,ns',ms',hz,hvi,hwi,hlen,hR⟩
   simp only at hb';subst hb';have hv:lexLt ns' ms'=decide (items.size<items2.size):=by
    cases hvi with
    | nil =>
     cases hwi with
     | nil =>
      simp only[List.length_nil]at hlen;rw[Kk];exact(decide_eq_false (by omega)).symm
     | cons c u hw =>
      simp only[List.length_nil,List.length_cons]at hlen;rw[fj];exact(decide_eq_true (by omega)).symm
    | cons a t hv =>
     cases hwi with
     | nil =>
      simp only[List.length_nil,List.length_cons]at hlen;rw[gj];exact(decide_eq_false (by omega)).symm
     | cons c u hw =>
      rw[List.zip_cons_cons]at hz;cases hz
   rw[hv]at hR;wp_walk
   exact⟨_,rfl,by simpa[Builtin.Tuple.tupleCompareSizes] using hR⟩
  case h =>
   exact⟨rfl,rfl,items.toList,items2.toList,ns,ms,rfl,hi,hj,by omega,h⟩
end
section
variable {prog : Program} {w : World} {A : Around} {E : Value -> Shared -> Prop} {s : Shared}
theorem Rp{l b:Addr}{items items2:Array Value}{ns ms:List Int}{Q:Value->Shared->Prop}(hl:IsTup s.heap l items)(hb:IsTup s.heap b items2)(hi:IntsAre items.toList ns)(hj:IntsAre items2.toList ms)
 (hu:A.units<cLine)(h:Q (.bool (lexLt ns ms)) s):wpAny (model prog w) A (compareOp .Lt (.ref l) (.ref b)) Q E s:=by
 obtain⟨⟨cls,dd,data,sl⟩,ho,hc,n,hd⟩:=id hl;obtain⟨⟨cls2,dd2,data2,sl2⟩,ho2,hc2,n2,hd2⟩:=id hb;simp only at hc hd hc2 hd2;subst hc hd hc2 hd2;exact richCompare_meets_room (op:=.Lt) ⟨_,ho,rfl⟩ ⟨_,ho2,rfl⟩ PySem.F.slot_tuple_lt PySem.F.entry_tuple_lt (PySem.F.args_tuple_lt_2 _ _) (Lj l b items items2 n n2 dd dd2 sl sl2 ns ms hi hj)
  ⟨ho,ho2,show Value.bool (lexLt ns ms)≠Value.notImplemented/\Q (.bool (lexLt ns ms)) s from⟨(λx=>nomatch x),h⟩⟩ hu
theorem Az{t b:Addr}{vs ws:List Value}{Q:Value->Shared->Prop}(ht:IsTup s.heap t vs.toArray)(hb:IsTup s.heap b ws.toArray)(hv:vs≠[])
 (h1:ws=[]->Q (.ref t) s)(h2:ws≠[]->Q (.ref s.heap.objs.size) { s with heap:=s.heap.push { cls:=.type "tuple",data:=.seq (vs++ws).toArray } })
 (hsz:vs.length+ws.length<=sizeLine):wpAny (model prog w) A (binaryOp .Add (.ref t) (.ref b)) Q E s:=by
 obtain⟨⟨cls,dd,data,sl⟩,ho,hc,n,hd⟩:=id ht;obtain⟨⟨cls2,dd2,data2,sl2⟩,ho2,hc2,n2,hd2⟩:=id hb;simp only at hc hd hc2 hd2;subst hc hd hc2 hd2;have e:vs.toArray++ws.toArray=(vs++ws).toArray:=by simp
 by_cases hw:ws=[]
 . exact concat_meets ⟨_,ho,rfl⟩ ⟨_,ho2,rfl⟩ noFill_tuple_add seq_tuple_add PySem.F.slot_tuple_add PySem.F.entry_tuple_add (PySem.F.args_tuple_add_2 _ _)
    (tuple_addW1 t b vs.toArray ws.toArray n n2 dd dd2 sl sl2 (by simpa using hv) (by simp[hw])) ⟨ho,ho2,h1 hw⟩
 . refine concat_meets ⟨_,ho,rfl⟩ ⟨_,ho2,rfl⟩ noFill_tuple_add seq_tuple_add PySem.F.slot_tuple_add PySem.F.entry_tuple_add (PySem.F.args_tuple_add_2 _ _)
    (tuple_addW2 t b vs.toArray ws.toArray n n2 dd dd2 sl sl2 (by simpa using hv) (by simpa using hw) (by rw[List.size_toArray,List.size_toArray];exact hsz)) ⟨ho,ho2,?_⟩
   rw[e];exact h2 hw
def sIx(n d:Nat):Option Int->Nat
 | none=>d
 | some v=>if v<0 then (v+(n:Int)).toNat else min v.toNat n
theorem xo(n d:Nat):sIx n d none=d:=rfl
theorem Rq(n d k:Nat):sIx n d (some (k:Int))=min k n:=by
 show (if (k:Int)<0 then ((k:Int)+(n:Int)).toNat else min (k:Int).toNat n)=min k n;rw[if_neg (by omega),Int.toNat_natCast]
theorem sIx_le(n d:Nat)(hd:d<=n)(o:Option Int):sIx n d o<=n:=by
 cases o with
 | none=>exact hd
 | some v =>
  show (if v<0 then (v+(n:Int)).toNat else min v.toNat n)<=n;by_cases hv:v<0
  . rw[if_pos hv];omega
  . rw[if_neg hv];exact Nat.min_le_right _ _
theorem ot(v:Int)(n d:Nat):(if v<0 then max (v+(n:Int)) 0 else min v (n:Int))=((sIx n d (some v):Nat):Int):=by
 show (if v<0 then max (v+(n:Int)) 0 else min v (n:Int))=(((if v<0 then (v+(n:Int)).toNat else min v.toNat n):Nat):Int);by_cases hv:v<0
 . simp only[if_pos hv];omega
 . simp only[if_neg hv];omega
theorem dq(lo hi:Option Int)(n:Nat):Builtin.Slice.sliceAdjust lo hi 1 (n:Int)=(((sIx n 0 lo:Nat):Int),((sIx n n hi:Nat):Int)):=by
 have h1:¬((1:Int)<0):=by omega
 unfold Builtin.Slice.sliceAdjust;simp only[h1,if_false];refine Prod.ext ?_ ?_
 . cases lo with
   | none=>rfl
   | some v=>exact ot v n 0
 . cases hi with
   | none=>rfl
   | some v=>exact ot v n n
theorem Ep(i j:Nat):Builtin.Slice.slicePlaces (i:Int) (j:Int) 1=j-i:=by
 unfold Builtin.Slice.slicePlaces;have h1:(1:Int)>0:=by omega
 simp only[h1,if_true,Int.ediv_one];split<;>omega
theorem tj{v:Value}{o:Option Int}{Q:Option Int->Shared->Prop}(p:IsPart v o)(h:Q o s):wpAny (model prog w) A (Builtin.Slice.slicePartIndex v) Q E s:=by
 cases p with
 | none=>exact slicePart_none h
 | int i t=>exact slicePart_int h
theorem fe{sl:Addr}{vl vu:Value}{lo hi:Option Int}{n:Nat}{Q:Int×Int×Nat->Shared->Prop}(hs:s.heap.IsSliceOf sl vl vu .none)(pl:IsPart vl lo)(pu:IsPart vu hi)
 (h:Q (((sIx n 0 lo:Nat):Int),1,sIx n n hi-sIx n 0 lo) s):wpAny (model prog w) A (Builtin.Slice.sliceApplied (.ref sl) (pure (n:Int))) Q E s:=by
 obtain⟨os,hos,hcs,hds⟩:=id hs;unfold Builtin.Slice.sliceApplied Builtin.Slice.sliceFields;refine wpAny_bind (wpAny_bind (wpAny_field hos hds (x:=vl) rfl (wpAny_bind (wpAny_field hos hds (x:=vu) rfl (wpAny_bind (wpAny_field hos hds (x:=.none) rfl (wpAny_pure ?_)))))));refine wpAny_bind (slicePart_none ?_);show wpAny _ _ (if ((1:Int)==0)=true then _ else _) _ _ s;rw[if_neg (by decide)];refine wpAny_bind (tj pl (wpAny_bind (tj pu (wpAny_bind (wpAny_pure ?_)))));show wpAny _ _ (match Builtin.Slice.sliceAdjust lo hi 1 (n:Int) with|(lo,hi)=>pure (lo,(1:Int),Builtin.Slice.slicePlaces lo hi 1)) _ _ s;rw[dq lo hi n];show wpAny _ _ (pure (((sIx n 0 lo:Nat):Int),(1:Int),Builtin.Slice.slicePlaces ((sIx n 0 lo:Nat):Int) ((sIx n n hi:Nat):Int) 1)) _ _ s;rw[Ep];exact wpAny_pure h
theorem Lu(xs:Array Value)(i k:Nat):((List.range k).filterMap λ(m:Nat)=>xs[((i:Int)+(m:Int)*1).toNat]?).toArray=((xs.toList.drop i).take k).toArray:=by
 have e:(λ(m:Nat)=>xs[((i:Int)+(m:Int)*1).toNat]?)=λm=>xs[i+m]?:=by
  funext m
  have:((i:Int)+(m:Int)*1).toNat=i+m:=by omega
  rw[this]
 rw[e];have:=pick_run xs i k;rw[List.filterMap_map]at this;have e2:((λx=>xs[x]?)∘λx=>i+x)=λm=>xs[i+m]?:=rfl;rw[e2]at this;rw[this]
theorem Jg{t sl:Addr}{items:Array Value}{vl vu:Value}{lo hi:Option Int}{Q:Value->Shared->Prop}(ht:IsTup s.heap t items)(hs:s.heap.IsSliceOf sl vl vu .none)(pl:IsPart vl lo)(pu:IsPart vu hi)
 (hw:¬(sIx items.size 0 lo=0/\sIx items.size items.size hi=items.size))
 (h:Q (.ref s.heap.objs.size) { s with heap:=s.heap.push { cls:=.type "tuple",data:=.seq ((items.toList.drop (sIx items.size 0 lo)).take (sIx items.size items.size hi-sIx items.size 0 lo)).toArray } })
 (hsz:items.size<=sizeLine):wpAny (model prog w) A (getItem (.ref t) (.ref sl)) Q E s:=by
 have htake:sizeOk (.seq ((items.toList.drop (sIx items.size 0 lo)).take (sIx items.size items.size hi-sIx items.size 0 lo)).toArray):=by
  show ((items.toList.drop (sIx items.size 0 lo)).take (sIx items.size items.size hi-sIx items.size 0 lo)).toArray.size<=sizeLine;rw[List.size_toArray,List.length_take,List.length_drop,Array.length_toList];omega
 have hj:sIx items.size items.size hi<=items.size:=sIx_le _ _ (Nat.le_refl _) hi;obtain⟨os,hos,hcs,hds⟩:=id hs;have hTs:s.TypeIs (.ref sl) "slice":=⟨os,hos,hcs⟩
 unfold getItem
 try with_reducible refine wpAny_holding ?_
 first|refine wpAny_bind (wpAny_pure ?_)|skip
 refine wpAny_bind (wpAny_sequenceKey ht.typeIs (by decide) ?_);refine wpAny_bind (wpAny_callSpecial?_slot (name:=Str.ofString "__getitem__") ht.typeIs PyProof.Rows.slot_tuple_getitem
  (wpAny_call_entry PyProof.Rows.slot_tuple_getitem ht.typeIs entry_tuple_getitem ?_ (args_tuple_getitem _ _)))
 show wpAny _ _ (Builtin.Tuple.tupleItemsOf (.ref t) >>= _) _ _ s;refine wpAny_bind (tupleItemsOf_ ht ?_);refine wpAny_bind (wpAny_typeOf hTs ?_);rw[if_pos (by decide)];refine wpAny_bind (fe hs pl pu ?_);have hno:¬((((sIx items.size 0 lo:Nat):Int)==0&&(1:Int)==1&&(sIx items.size items.size hi-sIx items.size 0 lo)==items.size)=true):=by
  intro q;rw[Bool.and_eq_true,Bool.and_eq_true]at q;have q1:((sIx items.size 0 lo:Nat):Int)=0:=eq_of_beq q.1.1;have q2:sIx items.size items.size hi-sIx items.size 0 lo=items.size:=eq_of_beq q.2;exact hw ⟨by omega,by omega⟩
 show wpAny _ _ (if (((sIx items.size 0 lo:Nat):Int)==0&&(1:Int)==1&&(sIx items.size items.size hi-sIx items.size 0 lo)==items.size)=true then _ else _) _ _ s;rw[if_neg hno,Lu]
 first
  | exact wpAny_bind (m:=Builtin.Tuple.tupleExact _) (wpAny_newObj_type (wpAny_pure ⟨_,rfl,wpAny_pure h⟩) htake)
  | exact wpAny_bind (m:=Builtin.Tuple.tupleExact _) (wpAny_newObj_type (wpAny_bind (wpAny_pure (wpAny_pure ⟨_,rfl,wpAny_pure h⟩))) htake)
  | exact wpAny_bind (wpAny_bind (m:=Builtin.Tuple.tupleExact _) (wpAny_newObj_type (wpAny_pure (wpAny_pure ⟨_,rfl,wpAny_pure h⟩)) htake))
  | exact wpAny_bind (wpAny_bind (m:=Builtin.Tuple.tupleExact _) (wpAny_newObj_type (wpAny_pure ⟨_,rfl,wpAny_pure h⟩) htake))
end
end HT
namespace L2
open PySem PySem.Spec PyProof.Rows
abbrev TO:=St->Hp->(Option Int->Hp->Prop)->Prop
def PO(X:Cx)(e:Option Expr)(t:TO):Prop :=
 ∀(pins:List (Addr×Obj)) (s:Shared) (σ:St) (H:Hp) (Q:Option Int->Hp->Prop),Inv X pins σ H s->t σ H Q ->
  wpAny (model X.prog X.w) X.A (evalPart e X.env) (λu s'=>∃o H',Inv X pins σ H' s'/\IsPart u o/\Q o H') X.xe s
def pq:TO:=λ_ H Q=>Q none H
def tPart(t:TE):TO:=λσ H Q=>t σ H λx H1=>∃i,x= .int i/\Q (some i) H1
theorem intsAre_of{ns:List Int}:∀{us:List Value},Vals (ns.map V.int) us->IntsAre us ns:=by
 induction ns with
 | nil=>intro us r;rw[List.map_nil]at r;cases r;exact .nil
 | cons n ns ih =>
  intro us r;rw[List.map_cons]at r;cases r with
  | cons r1 r2 =>
   obtain⟨t,e⟩:=r1;subst e;exact .cons n t (ih r2)
section
variable {X : Cx} {e : Expr} {te : TE} {lo hi : Option Expr} {tl th : TO} {pos p2 : Pos}
theorem Bg:PO X none pq:=by
 intro pins s σ H Q I h;rw[evalPart_none];exact wpAny_pure ⟨none,H,I,.none,h⟩
theorem Ag(h:PE X e te):PO X (some e) (tPart te):=by
 intro pins s σ H Q I hw;rw[evalPart_some];refine thn (h pins s σ H _ I hw) λu s1 hqq=>?_;obtain⟨x,H1,I1,r1,q1⟩:=hqq;obtain⟨i,rfl,q⟩:=q1;obtain⟨t,rfl⟩:=r1;exact⟨some i,H1,I1,.int i t,q⟩
def SlR(X:Cx)(r:V->Option Int->Option Int->Hp->VK->Prop):Prop :=
 ∀(pins:List (Addr×Obj)) (s:Shared) (σ:St) (H:Hp) (x:V) (v vl vu:Value) (lo hi:Option Int) (sl:Addr) (Q:VK),Inv X pins σ H s->RelV x v->s.heap.IsSliceOf sl vl vu .none->IsPart vl lo->IsPart vu hi->r x lo hi H Q ->
  ∃T id,typeLookup (.type T) "__getitem__"=pure (some (.builtin id))/\s.TypeIs v T/\wpAny (model X.prog X.w) X.A (getItem v (.ref sl)) (EP X pins σ Q) X.xe s
theorem SlR.or{r r':V->Option Int->Option Int->Hp->VK->Prop}(h:SlR X r)(h':SlR X r'):SlR X (λx lo hi H Q=>r x lo hi H Q\/r' x lo hi H Q):=by
 intro pins s σ H x v vl vu lo hi sl Q I rx hs pl pu q;rcases q with q|q
 . exact h pins s σ H x v vl vu lo hi sl Q I rx hs pl pu q
 . exact h' pins s σ H x v vl vu lo hi sl Q I rx hs pl pu q
def tSl(r:V->Option Int->Option Int->Hp->VK->Prop)(te:TE)(tl th:TO):TE:=λσ H Q=>te σ H λx H1=>tl σ H1 λl H2=>th σ H2 λu H3=>r x l u H3 Q
theorem Ze{r:V->Option Int->Option Int->Hp->VK->Prop}(hr:SlR X r)(he:PE X e te)(hl:PO X lo tl)(hu:PO X hi th):PE X (.Subscript e (.Slice lo hi none p2) pos) (tSl r te tl th):=by
 intro pins s σ H Q I h;refine Subscript_ (thn (he pins s σ H _ I h) λv s1 hqq=>?_);obtain⟨x,H1,I1,r1,q1⟩:=hqq;refine wpAny_Slice (thn (hl pins s1 σ H1 _ I1 q1) λvl s2 ⟨l,H2,I2,pl,q2⟩=>thn (hu pins s2 σ H2 _ I2 q2) λvu s3 hqq=>?_);obtain⟨u,H3,I3,pu,q3⟩:=hqq;rw[evalPart_none];refine wpAny_pure ?_;have I4:Inv X pins σ H3 { s3 with heap:=s3.heap.push { cls:=.type "slice",data:=.fields #[vl,vu,.none] } }:=I3.kept (t':=s3.toks) λb ob q=>Heap.get?_push_of_some _ q;obtain⟨T,id,hT,ht,hg⟩:=hr pins { s3 with heap:=s3.heap.push { cls:=.type "slice",data:=.fields #[vl,vu,.none] } } σ H3 x v vl vu l u s3.heap.objs.size Q I4 r1 (Heap.IsSliceOf.new ..) pl pu q3;show wpAny (model X.prog X.w) X.A (subscriptTail e (.Slice lo hi none p2) v (.ref s3.heap.objs.size)) (EP X pins σ Q) X.xe { s3 with heap:=s3.heap.push { cls:=.type "slice",data:=.fields #[vl,vu,.none] } };exact tail_any (ops:=[.ref s3.heap.objs.size,v]) ht hT hg (by with_unfolding_all rfl)
def cutV(xs:List V)(lo hi:Option Int):List V:=(xs.drop (HT.sIx xs.length 0 lo)).take (HT.sIx xs.length xs.length hi-HT.sIx xs.length 0 lo)
theorem Bi(xs:List V)(lo hi:Option Int):(cutV xs lo hi).length<=xs.length:=by
 unfold cutV;rw[List.length_take,List.length_drop];omega
def rSlT(K:PySem.W.Frag):V->Option Int->Option Int->Hp->VK->Prop:=λx lo hi H Q=>∃a xs,x= .ref a/\SqT K H a xs /\
 ¬(HT.sIx xs.length 0 lo=0/\HT.sIx xs.length xs.length hi=xs.length)/\∀p,H p=none->Q (.ref p) (upd H p (.tup (cutV xs lo hi)))
theorem sl_tup:SlR X (rSlT X.K):=by
 intro pins s σ H x v vl vu lo hi sl Q I rx hs pl pu h;obtain⟨a,xs,rfl,hx,hw,q⟩:=h;cases rx;obtain⟨its,r,ht,hz⟩:=I.tuple hx;have hlen:its.toArray.size=xs.length:=by rw[List.size_toArray];exact r.length.symm
 refine⟨"tuple",_,PyProof.Rows.slot_tuple_getitem.lookup,ht.typeIs,?_⟩;refine HT.Jg ht hs pl pu (by rw[hlen];exact hw) ?_ (by rw[hlen];exact hz);rw[hlen];refine⟨.ref s.heap.objs.size,_,I.laid (t':=s.toks) (o:=.tup (cutV xs lo hi)) (λb ob q=>Heap.get?_push_of_some _ q) (Nat.le_refl _) ?_,rfl,q _ (I.hok.fresh (Nat.le_refl _))⟩;exact⟨Nat.le_trans (Bi xs lo hi) hz,_,(r.drop (HT.sIx xs.length 0 lo)).take (HT.sIx xs.length xs.length hi-HT.sIx xs.length 0 lo),IsTup.new _ _⟩
def rLtT(K:PySem.W.Frag):R2:=λx y H Q=>∃a b ns ms,x= .ref a/\y= .ref b/\SqT K H a (ns.map V.int)/\SqT K H b (ms.map V.int)/\Q (.bl (HT.lexLt ns ms)) H
theorem op_ltT(hu:X.A.units<cLine):OpR X (compareOp .Lt) (rLtT X.K):=by
 intro pins s σ H x y v u Q I rx ry h;obtain⟨a,b,ns,ms,rfl,rfl,ha,hb,q⟩:=h;cases rx;cases ry;obtain⟨its,r1,p1,_⟩:=I.tuple ha;obtain⟨its2,r2,p2,_⟩:=I.tuple hb;have i1:IntsAre its.toArray.toList ns:=intsAre_of r1;have i2:IntsAre its2.toArray.toList ms:=intsAre_of r2;exact HT.Rp p1 p2 i1 i2 hu ⟨.bl (HT.lexLt ns ms),H,I,rfl,q⟩
def rCatT(K:PySem.W.Frag):R2:=λx y H Q=>∃a b xs ys,x= .ref a/\y= .ref b/\SqT K H a xs/\SqT K H b ys/\xs≠[]/\xs.length+ys.length<=sizeLine /\
 (ys=[]->Q (.ref a) H)/\(ys≠[]->∀p,H p=none->Q (.ref p) (upd H p (.tup (xs++ys))))
theorem Vals.Bn{xs:List V}{us:List Value}(r:Vals xs us):us=[]↔xs=[]:=by
 cases r with
 | nil=>simp
 | cons _ _=>simp
theorem Lr:OpR X (binaryOp .Add) (rCatT X.K):=by
 intro pins s σ H x y v u Q I rx ry h;obtain⟨a,b,xs,ys,rfl,rfl,ha,hb,hx,hz,q1,q2⟩:=h;cases rx;cases ry;obtain⟨its,r1,p1,_⟩:=I.tuple ha;obtain⟨its2,r2,p2,_⟩:=I.tuple hb;refine HT.Az p1 p2 (λz=>hx (r1.Bn.mp z)) (λz=>⟨.ref a,H,I,rfl,q1 (r2.Bn.mp z)⟩) (λz=>?_) (by rw[<-r1.length,<-r2.length];exact hz);refine⟨.ref s.heap.objs.size,_,I.laid (t':=s.toks) (o:=.tup (xs++ys)) (λb ob q=>Heap.get?_push_of_some _ q) (Nat.le_refl _) ?_,rfl,q2 (λw=>z (r2.Bn.mpr w)) _ (I.hok.fresh (Nat.le_refl _))⟩;exact⟨by rw[List.length_append];exact hz,_,r1.append r2,IsTup.new _ _⟩
end
end L2
namespace L2
open PySem PySem.Spec PyProof.Rows
def ixN(n:Nat)(i:Int):Option Nat:=if 0<=i then (if i<n then some i.toNat else none) else if -(n:Int)<=i then some (i+n).toNat else none
def atI{α:Type}(xs:List α)(i:Int):Option α:=(ixN xs.length i).bind λj=>xs[j]?
theorem Bs{n:Nat}{i:Int}{j:Nat}(h:ixN n i=some j):seqIndex? i n=some j/\j<n/\ -(n:Int)<=i/\i<n:=by
 unfold ixN at h;by_cases h0:0<=i
 . rw[if_pos h0]at h
   by_cases h1:i<n
   . rw[if_pos h1]at h
     have e:i.toNat=j:=Option.some.inj h;exact⟨by rw[seqIndex_of h0 h1,e],by omega,by omega,h1⟩
   . rw[if_neg h1]at h;cases h
 . rw[if_neg h0]at h
   by_cases h1: -(n:Int)<=i
   . rw[if_pos h1]at h
     have e:(i+n).toNat=j:=Option.some.inj h;exact⟨by rw[seqIndex_neg (by omega) h1,e],by omega,h1,by omega⟩
   . rw[if_neg h1]at h;cases h
theorem Xk{α:Type}{xs:List α}{i:Int}{v:α}(h:atI xs i=some v):∃j,seqIndex? i xs.length=some j/\xs[j]?=some v/\j<xs.length/\ -(xs.length:Int)<=i/\i<xs.length:=by
 unfold atI at h;cases e:ixN xs.length i with
 | none=>rw[e]at h;cases h
 | some j =>
  rw[e]at h;obtain⟨h1,h2,h3,h4⟩:=Bs e;exact⟨j,h1,h,h2,h3,h4⟩
theorem kc{α:Type}{xs:List α}{j:Nat}{v:α}(h:xs[j]?=some v):atI xs (j:Int)=some v:=by
 have hj:j<xs.length:=(List.getElem?_eq_some_iff.mp h).1;have e:ixN xs.length (j:Int)=some j:=by
  unfold ixN;rw[if_pos (by omega),if_pos (by omega)];simp
 unfold atI;rw[e];exact h
theorem Ah{α:Type}(xs:List α)(v:α):atI (xs++[v]) (-1)=some v:=by
 have hl:(xs++[v]).length=xs.length+1:=by simp
 have e:ixN (xs++[v]).length (-1)=some xs.length:=by
  unfold ixN;rw[hl,if_neg (by decide),if_pos (by omega)];congr 1
  omega
 unfold atI;rw[e];show (xs++[v])[xs.length]?=some v;simp
def Fz(b:Expr):Prop:=∀o i,subscripted b false o i=operate [o,i] (getItem o i)
def IxR(X:Cx)(r:R2):Prop :=
 ∀(value slice:Expr) (pins:List (Addr×Obj)) (s:Shared) (σ:St) (H:Hp) (x y:V) (v u:Value) (Q:VK),Inv X pins σ H s->RelV x v->RelV y u->r x y H Q ->
  subscripted slice false v u=operate [v,u] (getItem v u)->wpAny (model X.prog X.w) X.A (subscriptTail value slice v u) (EP X pins σ Q) X.xe s
def MtR(X:Cx)(id:String)(r:V->List V->Hp->VK->Prop):Prop :=
 ∀(pins:List (Addr×Obj)) (s:Shared) (σ:St) (H:Hp) (x:V) (xs:List V) (v:Value) (us:List Value) (Q:VK),Inv X pins σ H s->RelV x v->Vals xs us->r x xs H Q ->
  wpAny (model X.prog X.w) X.A (call (.builtin id) (v::us)) (EP X pins σ Q) X.xe s
section
variable {X : Cx} {a b : Expr} {ta tb : TE} {pos : Pos}
theorem IxR.or{r r':R2}(h:IxR X r)(h':IxR X r'):IxR X (λx y H Q=>r x y H Q\/r' x y H Q):=by
 intro value slice pins s σ H x y v u Q I rx ry q hs;rcases q with q|q
 . exact h value slice pins s σ H x y v u Q I rx ry q hs
 . exact h' value slice pins s σ H x y v u Q I rx ry q hs
theorem Ja{r:R2}(hr:IxR X r)(ha:PE X a ta)(hb:PE X b tb)(hs:Fz b):PE X (.Subscript a b pos) (tOp r ta tb):=by
 intro pins s σ H Q I h;exact Subscript_ (binT ha hb I h λv u s2 x y H2 I2 rx ry q=>hr a b pins s2 σ H2 x y v u Q I2 rx ry q (hs _ _))
def rIxL(K:PySem.W.Frag):R2:=λx y H Q=>∃p xs i v,x= .ref p/\y= .int i/\SqL K H p xs/\atI xs i=some v/\Q v H
def rIxT(K:PySem.W.Frag):R2:=λx y H Q=>∃p xs i v,x= .ref p/\y= .int i/\SqT K H p xs/\atI xs i=some v/\Q v H
def rIxS:R2:=λx y H Q=>∃z i c,x= .str z/\y= .int i/\z.length<=sizeLine/\atI z.cps.toList i=some c/\Q (.str ⟨#[c]⟩) H
theorem dz:IxR X (rIxL X.K):=by
 intro value slice pins s σ H x y v u Q I rx ry h hs;obtain⟨p,xs,i,z,rfl,rfl,hq,he,q⟩:=h;cases rx;obtain⟨t,rfl⟩:=ry;obtain⟨its,r,pl,hz⟩:=I.list hq;obtain⟨j,h1,h2,h3,h4,h5⟩:=Xk he;obtain⟨w,ew,rw'⟩:=r.get h2;have hl:=r.length;have hn:=kg;have fin:EP X pins σ Q w s:=⟨z,H,I,rw',q⟩
 by_cases h0:0<=i
 . have hj:i.toNat=j:=by
    rw[seqIndex_of h0 h5]at h1;exact Option.some.inj h1
   exact item_listR pl.isList h0 (by omega) (by rw[hj];simpa using ew) fin hs
 . have hj:(i+(its.toArray.size:Int)).toNat=j:=by
    rw[seqIndex_neg (by omega) h4]at h1;rw[List.size_toArray,<-hl];exact Option.some.inj h1
   exact subscriptTail_builtinR (x:=w) pl.isList.typeIs slot_list_getitem.lookup
    (wpAny_getItem_list_neg (Q:=λr s'=>r=w/\EP X pins σ Q r s') pl.isList (by omega) (by rw[List.size_toArray]<;>omega) (by omega) (by rw[hj];simpa using ew) ⟨rfl,fin⟩) hs
theorem ix_tup:IxR X (rIxT X.K):=by
 intro value slice pins s σ H x y v u Q I rx ry h hs;obtain⟨p,xs,i,z,rfl,rfl,hq,he,q⟩:=h;cases rx;obtain⟨t,rfl⟩:=ry;obtain⟨its,r,pl,hz⟩:=I.tuple hq;obtain⟨j,h1,h2,h3,h4,h5⟩:=Xk he;obtain⟨w,ew,rw'⟩:=r.get h2;have hl:=r.length;have hn:=kg;have fin:EP X pins σ Q w s:=⟨z,H,I,rw',q⟩
 exact subscriptTail_builtinR (x:=w) pl.typeIs slot_tuple_getitem.lookup
  (getItem_tuple (j:=j) (Q:=λr s'=>r=w/\EP X pins σ Q r s') pl (by omega) (by omega) (by rw[List.size_toArray,<-hl];exact h1) (by simpa using ew) ⟨rfl,fin⟩) hs
theorem ix_str:IxR X rIxS:=by
 intro value slice pins s σ H x y v u Q I rx ry h hs;obtain⟨z,i,c,rfl,rfl,hz,he,q⟩:=h;obtain⟨t,rfl⟩:=rx;obtain⟨t',rfl⟩:=ry;obtain⟨j,h1,h2,h3,h4,h5⟩:=Xk he;have hl:z.cps.toList.length=z.length:=by simp[Str.length]
 rw[hl]at h1 h4 h5;have hn:=kg;exact tail_any (typeIs_str s z t) slot_str_getitem.lookup (getItem_str (c:=c) (by
  have e1:decide (i< -(2^63:Int))=false:=decide_eq_false (by omega);have e2:decide (i≥2^63)=false:=decide_eq_false (by omega);rw[e1,e2,Bool.or_false]) (by rw[h1];simpa using h2) ⟨.str ⟨#[c]⟩,H,I.tok _,⟨_,rfl⟩,q⟩) hs
theorem Np(its:List Value)(n j:Nat)(u:Value):Obj.mapSeq (·.setIfInBounds j u) { cls:=.type "list",data:=.seq its.toArray n }={ cls:=.type "list",data:=.seq (its.set j u).toArray n }:=by
 simp[Obj.mapSeq]
theorem Inv.lst{pins:List (Addr×Obj)}{σ:St}{H:Hp}{s:Shared}{p:Addr}{xs:List V}(I:Inv X pins σ H s)(h:H p=some (.lst xs)) :
 ∃(its:List Value) (n:Nat),Vals xs its/\s.heap.get? p=some { cls:=.type "list",data:=.seq its.toArray n }/\xs.length<=sizeLine:=by
 obtain⟨z,its,n,r,e⟩:=I.hok p _ h;exact⟨its,n,r,e,z⟩
theorem Inv.lstUpd{pins:List (Addr×Obj)}{σ:St}{H:Hp}{s:Shared}{p:Addr}{xs ys:List V}{its its':List Value}{n n':Nat}{f:Obj->Obj}(I:Inv X pins σ H s)(h:H p=some (.lst xs))
 (ho:s.heap.get? p=some { cls:=.type "list",data:=.seq its.toArray n })(hf:f { cls:=.type "list",data:=.seq its.toArray n }={ cls:=.type "list",data:=.seq its'.toArray n' })(r:Vals ys its')(hz:ys.length<=sizeLine)(t:Nat) :
 Inv X pins σ (upd H p (.lst ys)) { s with heap:=s.heap.update p f,toks:=t }:=by
 have e:(s.heap.update p f).get? p=some { cls:=.type "list",data:=.seq its'.toArray n' }:=by
  rw[Heap.get?_update_self f ho (by rw[hf]<;>rfl),hf]
 refine I.write (x:=p) (e:=p) (by rw[h];trivial) (.inl rfl) (λb u hb q=>(Heap.get?_update_other _ _ (Ne.symm hb)).trans q) ⟨_,e⟩ ?_;exact⟨hz,its',n',r,e⟩
def rSetL:V->V->V->Hp->(Hp->Prop)->Prop:=λo i v H Q=>∃p xs k j,o= .ref p/\i= .int k/\H p=some (.lst xs)/\ixN xs.length k=some j/\Q (upd H p (.lst (xs.set j v)))
theorem set_list:PSet X rSetL:=by
 intro pins s σ H o i v ov iv u Q I ro ri rv h;obtain⟨p,xs,k,j,rfl,rfl,hp,hj,q⟩:=h;cases ro;obtain⟨t,rfl⟩:=ri;obtain⟨its,n,r,ho,hz⟩:=I.lst hp;obtain⟨h1,h2,h3,h4⟩:=Bs hj;have hl:=r.length;have hn:=kg;have I':Inv X pins σ (upd H p (.lst (xs.set j v))) { s with heap:=s.heap.update p (Obj.mapSeq (·.setIfInBounds j u)) } :=
  I.lstUpd hp ho (Np its n j u) (r.set rv j) (by rw[List.length_set];exact hz) s.toks
 by_cases h0:0<=k
 . have hk:k.toNat=j:=by
    rw[seqIndex_of h0 h4]at h1;exact Option.some.inj h1
   exact PySem.W.ki_setAt ho h0 (by omega) (by rw[List.size_toArray,<-hl];exact h4) (by rw[hk];exact⟨_,I',q⟩)
 . have hk:(k+(its.toArray.size:Int)).toNat=j:=by
    rw[seqIndex_neg (by omega) h3]at h1;rw[List.size_toArray,<-hl];exact Option.some.inj h1
   exact PySem.W.ki_setBack ho (by omega) (by rw[List.size_toArray,<-hl];exact h3) (by omega) (by rw[hk];exact⟨_,I',q⟩)
theorem Jl(lo hi:Option Int)(n:Nat):(sliceBounds lo hi none n).1=((HT.sIx n 0 lo:Nat):Int)/\(sliceBounds lo hi none n).2.1=((HT.sIx n n hi:Nat):Int)/\(sliceBounds lo hi none n).2.2=1:=by
 refine⟨?_,?_,rfl⟩
 . cases lo with
   | none=>simp[sliceBounds,HT.sIx]
   | some i =>
    simp only[sliceBounds,HT.sIx,Option.getD_none,show (1:Int)>0 by decide,if_true];by_cases h:i<0
    . simp only[h,if_true]<;>omega
    . simp only[h,if_false]<;>omega
 . cases hi with
   | none=>simp[sliceBounds,HT.sIx]
   | some i =>
    simp only[sliceBounds,HT.sIx,Option.getD_none,show (1:Int)>0 by decide,if_true];by_cases h:i<0
    . simp only[h,if_true]<;>omega
    . simp only[h,if_false]<;>omega
theorem Rj(its:List Value)(lo hi:Option Int):slicePick its.toArray lo hi none=((its.drop (HT.sIx its.length 0 lo)).take (HT.sIx its.length its.length hi-HT.sIx its.length 0 lo)).toArray:=by
 obtain⟨h1,h2,h3⟩:=Jl lo hi its.toArray.size;unfold slicePick;rw[h1,h2,h3];simp only[sliceRange_one,pick_run,List.size_toArray]<;>rfl
def rSlL(K:PySem.W.Frag):V->Option Int->Option Int->Hp->VK->Prop:=λx lo hi H Q=>∃a xs,x= .ref a/\SqL K H a xs/\∀p,H p=none->Q (.ref p) (upd H p (.lst (cutV xs lo hi)))
theorem Fx:SlR X (rSlL X.K):=by
 intro pins s σ H x v vl vu lo hi sl Q I rx hs pl pu h;obtain⟨a,xs,rfl,hx,q⟩:=h;cases rx;obtain⟨its,r,ht,hz⟩:=I.list hx;have hlen:=r.length;refine⟨"list",_,slot_list_getitem.lookup,ht.isList.typeIs,?_⟩;refine wpAny_getItem_list_slice ht.isList hs pl pu .none (by simp) ?_ (by rw[List.size_toArray]<;>omega);rw[Rj,<-hlen];refine⟨.ref s.heap.objs.size,_,I.laid (t':=s.toks) (o:=.lst (cutV xs lo hi)) (λb ob q=>Heap.get?_push_of_some _ q) (Nat.le_refl _) ?_,rfl,q _ (I.hok.fresh (Nat.le_refl _))⟩;exact⟨Nat.le_trans (Bi xs lo hi) hz,_,0,(r.drop (HT.sIx xs.length 0 lo)).take (HT.sIx xs.length xs.length hi-HT.sIx xs.length 0 lo),Heap.get?_push_size _ rfl⟩
def Ac:V->Bool
 | .non=>true
 | .bl _=>true
 | .int _=>true
 | .str _=>true
 | _=>false
def eqV:V->V->Bool
 | .non,.non=>true
 | .bl a,.bl b=>a==b
 | .bl a,.int b=>(if a then 1 else 0)==b
 | .int a,.bl b=>a==(if b then 1 else 0)
 | .int a,.int b=>a==b
 | .str a,.str b=>a==b
 | _,_=>false
theorem Ls{A:Around}{s:Shared}{y x:V}{u v:Value}(ry:RelV y u)(rx:RelV x v)(fy:Ac y=true)(fx:Ac x=true):SeqAt.EqAt A s u v (eqV y x):=by
 cases y with
 | non =>
  cases ry;cases x with
  | non=>cases rx;exact SeqAt.EqAt.same _
  | bl b=>cases rx;exact SeqAt.EqAt.none_bool b
  | int b=>obtain⟨t,rfl⟩:=rx;exact SeqAt.EqAt.none_int b t
  | str b=>obtain⟨t,rfl⟩:=rx;exact SeqAt.EqAt.none_str b t
  | _=>exact absurd (show false=true from fx) Bool.false_ne_true
 | bl a =>
  cases ry;cases x with
  | non=>cases rx;exact SeqAt.EqAt.bool_none a
  | bl b=>cases rx;exact SeqAt.EqAt.bool_bool a b
  | int b=>obtain⟨t,rfl⟩:=rx;exact SeqAt.EqAt.bool_int a b t
  | str b=>obtain⟨t,rfl⟩:=rx;exact SeqAt.EqAt.bool_str a b t
  | _=>exact absurd (show false=true from fx) Bool.false_ne_true
 | int a =>
  obtain⟨t',rfl⟩:=ry;cases x with
  | non=>cases rx;exact SeqAt.EqAt.int_none a t'
  | bl b=>cases rx;exact SeqAt.EqAt.int_bool a t' b
  | int b=>obtain⟨t,rfl⟩:=rx;exact SeqAt.EqAt.int_int a t' b t
  | str b=>obtain⟨t,rfl⟩:=rx;exact SeqAt.EqAt.int_str a t' b t
  | _=>exact absurd (show false=true from fx) Bool.false_ne_true
 | str a =>
  obtain⟨t',rfl⟩:=ry;cases x with
  | non=>cases rx;exact SeqAt.EqAt.str_none a t'
  | bl b=>cases rx;exact SeqAt.EqAt.str_bool a t' b
  | int b=>obtain⟨t,rfl⟩:=rx;exact SeqAt.EqAt.str_int a t' b t
  | str b=>obtain⟨t,rfl⟩:=rx;exact SeqAt.EqAt.str_str a t' b t
  | _=>exact absurd (show false=true from fx) Bool.false_ne_true
 | _=>exact absurd (show false=true from fy) Bool.false_ne_true
def eqU(x:V)(u:Value):Bool:=match u with
 | .none=>eqV .non x
 | .bool b=>eqV (.bl b) x
 | .int i _=>eqV (.int i) x
 | .str z _=>eqV (.str z) x
 | _=>false
theorem Iw{x y:V}{u:Value}(r:RelV y u)(f:Ac y=true):eqU x u=eqV y x:=by
 cases y with
 | non=>cases r;rfl
 | bl b=>cases r;rfl
 | int i=>obtain⟨t,rfl⟩:=r;rfl
 | str z=>obtain⟨t,rfl⟩:=r;rfl
 | _=>exact absurd (show false=true from f) Bool.false_ne_true
theorem Gi{x:V}:∀{xs:List V} {us:List Value},Vals xs us->xs.all Ac=true->us.any (eqU x)=xs.any λy=>eqV y x
 | _,_,.nil,_=>rfl
 | y::xs,u::us,.cons r t,f=>by
  rw[List.all_cons,Bool.and_eq_true]at f;rw[List.any_cons,List.any_cons,Iw r f.1,Gi t f.2]
theorem jg{A:Around}{s:Shared}{x:V}{v:Value}(rx:RelV x v)(fx:Ac x=true):∀{xs:List V} {us:List Value},Vals xs us->xs.all Ac=true->∀u∈us,SeqAt.EqAt A s u v (eqU x u)
 | _,_,.nil,_=>λu hu=>by cases hu
 | y::xs,u::us,.cons r t,f=>λu' hu=>by
  rw[List.all_cons,Bool.and_eq_true]at f;rcases List.mem_cons.mp hu with rfl|hu
  . rw[Iw r f.1];exact Ls r rx f.1 fx
  . exact jg rx fx t f.2 u' hu
def inV(x:V)(xs:List V):Bool:=xs.any λy=>eqV y x
def rIn(K:PySem.W.Frag)(neg:Bool):R2:=λx y H Q=>∃p xs,y= .ref p/\(SqL K H p xs\/SqT K H p xs)/\Ac x=true/\xs.all Ac=true/\Q (.bl (if neg then !inV x xs else inV x xs)) H
theorem Kr:OpR X (compareOp .In) (rIn X.K false):=by
 intro pins s σ H x y v u Q I rx ry h;obtain⟨p,xs,rfl,hq,fx,fs,q⟩:=h;cases ry;rcases hq with hq|hq
 . obtain⟨its,r,pl,hz⟩:=I.list hq
   refine SeqAt.in_listAt (eqU x) pl.isList (λw hw=>jg rx fx r fs w (by simpa using hw)) ⟨.bl _,H,I,rfl,?_⟩;rw[show its.toArray.any (eqU x)=its.any (eqU x) by simp,Gi r fs];exact q
 . obtain⟨its,r,pl,hz⟩:=I.tuple hq
   refine SeqAt.in_tupleAt (eqU x) pl (λw hw=>jg rx fx r fs w (by simpa using hw)) ⟨.bl _,H,I,rfl,?_⟩;rw[show its.toArray.any (eqU x)=its.any (eqU x) by simp,Gi r fs];exact q
theorem cm:OpR X (compareOp .NotIn) (rIn X.K true):=by
 intro pins s σ H x y v u Q I rx ry h;obtain⟨p,xs,rfl,hq,fx,fs,q⟩:=h;cases ry;rcases hq with hq|hq
 . obtain⟨its,r,pl,hz⟩:=I.list hq
   refine SeqAt.notIn_listAt (eqU x) pl.isList (λw hw=>jg rx fx r fs w (by simpa using hw)) ⟨.bl _,H,I,rfl,?_⟩;rw[show its.toArray.any (eqU x)=its.any (eqU x) by simp,Gi r fs];exact q
 . obtain⟨its,r,pl,hz⟩:=I.tuple hq
   refine SeqAt.notIn_tupleAt (eqU x) pl (λw hw=>jg rx fx r fs w (by simpa using hw)) ⟨.bl _,H,I,rfl,?_⟩;rw[show its.toArray.any (eqU x)=its.any (eqU x) by simp,Gi r fs];exact q
theorem Am:vc X (.builtin "len") (λxs H Q=>∃p ys,xs=[.ref p]/\(SqL X.K H p ys\/SqT X.K H p ys)/\Q (.int ys.length) H):=by
 intro pins s σ H xs us Q I r h;obtain⟨p,ys,rfl,hq,q⟩:=h;obtain⟨u,rfl,rx⟩:=vals1 r;cases rx;have hn:=kg;rcases hq with hq|hq
 . obtain⟨its,r',pl,hz⟩:=I.list hq
   have hlen:=r'.length;exact Calls.call_len_list pl.isList (by simp only[List.size_toArray]<;>omega) ⟨.int ys.length,H,I.tok _,⟨s.toks+1,by rw[List.size_toArray,hlen]⟩,q⟩
 . obtain⟨its,r',pl,hz⟩:=I.tuple hq
   have hlen:=r'.length;exact len_tuple pl (by simp only[List.size_toArray]<;>omega) ⟨.int ys.length,H,I.tok _,⟨s.toks+1,by rw[List.size_toArray,hlen]⟩,q⟩
theorem zm:vc X (.type "list") (λxs H Q=>∃p ys,xs=[.ref p]/\(SqL X.K H p ys\/SqT X.K H p ys)/\∀l,H l=none->Q (.ref l) (upd H l (.lst ys))):=by
 intro pins s σ H xs us Q I r h;obtain⟨p,ys,rfl,hq,q⟩:=h;obtain⟨u,rfl,rx⟩:=vals1 r;cases rx;have fin:∀(its:List Value),Vals ys its->ys.length<=sizeLine->∀(h':Heap) (c':Nat),(∀b o',s.heap.get? b=some o'->h'.get? b=some o') ->
  h'.get? s.heap.objs.size=some { cls:=.type "list",dict:=none,data:=.seq its.toArray c',slots:= #[] }->EP X pins σ Q (.ref s.heap.objs.size) { s with heap:=h' }:=λits r' hz h' c' kp e =>
  ⟨.ref s.heap.objs.size,_,I.laid (t':=s.toks) kp (Nat.le_refl _) (show Bc X.prog X.w _ h' _ (.lst ys) from⟨hz,its,c',r',e⟩),rfl,q _ (I.hok.fresh (Nat.le_refl _))⟩
 rcases hq with hq|hq
 . obtain⟨its,r',pl,hz⟩:=I.list hq
   have hlen:=r'.length;obtain⟨o,ho,hc,n,hd⟩:=pl.isList;exact call_list_seq p (.inl rfl) ho hc hd (λh' c' kp e=>fin its r' hz h' c' kp e) (by simp only[List.size_toArray]<;>omega)
 . obtain⟨its,r',pl,hz⟩:=I.tuple hq
   have hlen:=r'.length;obtain⟨o,ho,hc,n,hd⟩:=pl;exact call_list_seq p (.inr rfl) ho hc hd (λh' c' kp e=>fin its r' hz h' c' kp e) (by simp only[List.size_toArray]<;>omega)
theorem rg:vc X (.type "tuple") (λxs H Q=>∃p ys,xs=[.ref p]/\((SqL X.K H p ys/\∀l,H l=none->Q (.ref l) (upd H l (.tup ys)))\/(SqT X.K H p ys/\Q (.ref p) H))):=by
 intro pins s σ H xs us Q I r h;obtain⟨p,ys,rfl,h⟩:=h;obtain⟨u,rfl,rx⟩:=vals1 r;cases rx;rcases h with⟨hq,q⟩|⟨hq,q⟩
 . obtain⟨its,r',pl,hz⟩:=I.list hq
   have hlen:=r'.length;refine call_tuple_list pl.isList (λh' kp=>?_) (by simp only[List.size_toArray]<;>omega);have I1:Inv X pins σ H { s with heap:=h' }:=I.kept (t':=s.toks) kp;have I2:Inv X pins σ (upd H h'.objs.size (.tup ys)) { s with heap:=h'.push { cls:=.type "tuple",data:=.seq its.toArray } } :=
    I1.laid (t':=s.toks) (λb o e=>Heap.get?_push_of_some _ e) (Nat.le_refl _) (show Bc X.prog X.w _ _ _ (.tup ys) from⟨hz,its,r',IsTup.new _ _⟩)
   exact⟨.ref h'.objs.size,_,I2,rfl,q _ (I1.hok.fresh (Nat.le_refl _))⟩
 . obtain⟨its,r',pl,hz⟩:=I.tuple hq
   exact call_tuple_same pl ⟨.ref p,H,I,rfl,q⟩
def tyV(K:PySem.W.Frag)(T:String)(x:V)(H:Hp):Prop:=match x with
 | .str _=>T="str"
 | .int _=>T="int"
 | .ref p=>(T="list"/\∃xs,SqL K H p xs)\/(T="tuple"/\∃o,K.lookup p=some o/\o.cls= .type "tuple"/\o.dict=none) \/
  (T="dict"/\((∃kvs,H p=some (.dK kvs))\/∃kvs,H p=some (.dT kvs)))\/(T="set"/\∃S n,H p=some (.set S n))
 | _=>False
theorem tyV_is{pins:List (Addr×Obj)}{σ:St}{H:Hp}{s:Shared}{T:String}{x:V}{v:Value}(I:Inv X pins σ H s)(r:RelV x v)(ty:tyV X.K T x H) :
 s.TypeIs v T/\∀a,v= .ref a->∃ob,s.heap.get? a=some ob/\ob.dict=none:=by
 cases x with
 | str z =>
  obtain⟨t,rfl⟩:=r;cases(show T="str" from ty);exact⟨typeIs_str s z t,λ_ e=>nomatch e⟩
 | int i =>
  obtain⟨t,rfl⟩:=r;cases(show T="int" from ty);exact⟨typeIs_int s i t,λ_ e=>nomatch e⟩
 | ref p =>
  cases r;rcases ty with⟨rfl,xs,hq⟩|⟨rfl,o,hk,hc,hd⟩|⟨rfl,hk⟩|⟨rfl,S,n,hk⟩
  . obtain⟨its,_,pl,_⟩:=I.list hq
    refine⟨pl.isList.typeIs,λa e=>?_⟩;cases e;obtain⟨o,n,e,c,hd,_⟩:=pl;exact⟨o,e,hd⟩
  . refine⟨⟨o,I.kIn p o hk,hc⟩,λa e=>?_⟩
    cases e;exact⟨o,I.kIn _ o hk,hd⟩
  . have z:∃o,s.heap.get? p=some o/\o.ExactDict:=by
     rcases hk with⟨kvs,hk⟩|⟨kvs,hk⟩
     . obtain⟨_,_,_,_,o,_,_,e,ex,_⟩:=I.hok p _ hk
       exact⟨o,e,ex⟩
     . obtain⟨_,_,_,_,o,_,_,e,ex,_⟩:=I.hok p _ hk
       exact⟨o,e,ex⟩
    obtain⟨o,e,ex⟩:=z;refine⟨⟨o,e,ex.1⟩,λa e2=>?_⟩;cases e2;exact⟨o,e,ex.2.1⟩
  . obtain⟨o,_,_,_,e,ex,_⟩:=I.hok p _ hk
    refine⟨⟨o,e,ex.1⟩,λa e2=>?_⟩;cases e2;exact⟨o,e,ex.2.1⟩
 | _=>exact False.elim ty
def tBM(K:PySem.W.Frag)(T:String)(r:V->List V->Hp->VK->Prop)(to:TE)(t:TA):TE:=λσ H Q=>to σ H λx H1=>tyV K T x H1/\t σ H1 λxs H2=>r x xs H2 Q
variable {o e : Expr} {es : List Expr} {to : TE} {t : TA} {name : Str} {apos cpos : Pos} {T id : String} {r : V -> List V -> Hp -> VK -> Prop}
theorem Zm(pa:PlainAttrs T)(slot:Slot T name id)(hty:typeOf (.builtin id)=pure (.type "method_descriptor"))(hm:MtR X id r)(ho:PE X o to)(ha:PA X (e::es) t)
 (hbase:attributeBase o name X.env (eval o X.env)=eval o X.env:=by first|rfl|with_unfolding_all rfl)
 (hfew:((backTo cpos (starEach (e::es) X.env)).all (λx=> !x.1)&&(backToKw cpos (keywordEach [] X.env)).all (λx=>x.1.isSome)
   && decide ((e::es).length+([]:List Keyword).length+(if ([]:List Keyword).isEmpty then 0 else 1)<30))=true:=by first|rfl|with_unfolding_all rfl)
 (hline:(apos.endLine==cpos.line)=true:=by first|rfl|with_unfolding_all rfl)(hs:starEach (e::es) X.env=(false,eval e X.env)::starEach es X.env:=by first|rfl|with_unfolding_all rfl)(hplain:(backTo cpos (starEach es X.env)).any (·.1)=false:=by first|rfl|with_unfolding_all rfl) :
 PE X (.Call (.Attribute o name apos) (e::es) [] cpos) (tBM X.K T r to t):=by
 intro pins s σ H Q I h;refine wpAny_Call_method_late hbase hfew hline rfl (thn (ho pins s σ H _ I h) λv s1 hqq=>?_);obtain⟨x,H1,I1,r1,ty,q1⟩:=hqq;obtain⟨h1,h2⟩:=tyV_is I1 r1 ty;refine⟨T,id,pa,slot,hty,h1,h2,?_⟩;have hA:=ha cpos pins s1 σ H1 _ I1 q1;rw[hs]at hA ⊢;refine Calls.callWith_builtin (by show (false||(backTo cpos (starEach es X.env)).any (·.1))=false;rw[hplain]<;>rfl) (Calls.evalArgs_plain ?_);exact thn hA λus s2 ⟨vs,H2,I2,r2,q2⟩=>hm pins s2 σ H2 x vs v us Q I2 r1 r2 q2
end
end L2
namespace L2
open PySem PySem.Spec PyProof.Rows
def MtM(X:Cx)(id:String)(r:V->List V->Hp->VK->Prop):Prop :=
 ∀(pins:List (Addr×Obj)) (s:Shared) (σ:St) (H:Hp) (x:V) (xs:List V) (v:Value) (us:List Value) (Q:VK),Inv X pins σ H s->RelV x v->Vals xs us->r x xs H Q ->
  wpAny (model X.prog X.w) X.A (call (.builtin id) (v::us)) (EP X pins σ Q) X.xe s
theorem Vals.one:∀{x:V} {us:List Value},Vals [x] us->∃u,us=[u]/\RelV x u
 | _,_,.cons r .nil=>⟨_,rfl,r⟩
theorem Vals.reverse{xs:List V}{us:List Value}(h:Vals xs us):Vals xs.reverse us.reverse:=by
 induction h with
 | nil=>exact .nil
 | cons r t ih=>rw[List.reverse_cons,List.reverse_cons];exact Vals.append ih (.cons r .nil)
theorem Vals.rep{xs:List V}{us:List Value}(h:Vals xs us):∀k:Nat,Vals (List.replicate k xs).flatten (List.replicate k us).flatten
 | 0=>.nil
 | k+1=>by
  rw[List.replicate_succ,List.replicate_succ,List.flatten_cons,List.flatten_cons];exact Vals.append h (Vals.rep h k)
theorem foldl_rep(its:List Value):∀(k:Nat) (acc:List Value),
 List.foldl (λx1 x2=>x1++x2) acc.toArray (List.replicate k its.toArray)=(acc++(List.replicate k its).flatten).toArray
 | 0,acc=>by simp
 | k + 1, acc => by
  have e:acc.toArray++its.toArray=(acc++its).toArray:=by simp
  have e2:(acc++its)++(List.replicate k its).flatten=acc++(List.replicate (k+1) its).flatten:=by
   rw[List.replicate_succ,List.flatten_cons,List.append_assoc]
  rw[<-e2,<-foldl_rep its k (acc++its),<-e,List.replicate_succ,List.foldl_cons]
section
variable {X : Cx} {pins : List (Addr × Obj)} {σ : St} {H : Hp} {s : Shared} {l b : Addr} {xs ys zs : List V}
theorem Inv.lset{its its':List Value}{n:Nat}{f:Array Value->Array Value}{t':Nat}(I:Inv X pins σ H s)(hH:H l=some (.lst xs))
 (e:s.heap.get? l=some { cls:=.type "list",data:=.seq its.toArray n })(hf:f its.toArray=its'.toArray)(hv:Vals ys its')(hz:ys.length<=sizeLine) :
 Inv X pins σ (upd H l (.lst ys)) { s with heap:=s.heap.update l (Obj.mapSeq f),toks:=t' }:=by
 have q:=PySem.IsL.update e f;rw[hf]at q;refine I.write (x:=l) (e:=l) (by rw[hH];exact trivial) (.inl rfl) (λb' u hb hu=>(Heap.get?_update_other s.heap (Obj.mapSeq f) (Ne.symm hb)).trans hu) ⟨_,q⟩ ?_;exact⟨hz,its',_,hv,q⟩
theorem Inv.lnew{its:List Value}{t':Nat}(I:Inv X pins σ H s)(hv:Vals ys its)(hz:ys.length<=sizeLine) :
 Inv X pins σ (upd H s.heap.objs.size (.lst ys)) { s with heap:=s.heap.push { cls:=.type "list",data:=.seq its.toArray },toks:=t' } :=
 I.laid (λ_ _ q=>Heap.get?_push_of_some _ q) (Nat.le_refl _) ⟨hz,its,0,hv,Heap.get?_push_size _ rfl⟩
theorem Inv.fresh(I:Inv X pins σ H s):H s.heap.objs.size=none:=I.hok.fresh (Nat.le_refl _)
theorem Inv.lstM(I:Inv X pins σ H s)(hH:H l=some (.lst xs)):xs.length<=sizeLine/\∃(its:List Value) (n:Nat),Vals xs its/\xs.length=its.length/\s.heap.get? l=some { cls:=.type "list",data:=.seq its.toArray n }:=by
 obtain⟨z,its,n,r,e⟩:=I.hok l _ hH;exact⟨z,its,n,r,r.length,e⟩
theorem Wu{n:Nat}(h:n<=sizeLine):Builtin.List.listTooLong n=false:=by
 unfold Builtin.List.listTooLong;exact decide_eq_false (by omega)
end
section
variable {X : Cx}
def ir:V->List V->Hp->VK->Prop:=λx vs H Q=>∃l xs y,x= .ref l/\vs=[y]/\H l=some (.lst xs)/\xs.length<sizeLine/\Q .non (upd H l (.lst (xs++[y])))
theorem Bd:MtM X "list.append" ir:=by
 intro pins s σ H x vs v us Q I rx rv h;obtain⟨l,xs,y,rfl,rfl,hH,hz,q⟩:=h;cases rx;obtain⟨u,rfl,ru⟩:=rv.one;obtain⟨z,its,n,r,hl,e⟩:=I.lstM hH;refine call_meets F.slot_list_append ⟨_,e,rfl⟩ F.entry_list_append (F.args_list_append_2 _ _) (PySem.list_append l its.toArray n u (by rw[List.size_toArray];omega)) ⟨e,?_⟩;refine⟨.non,_,I.lset (its':=its++[u]) hH e (by simp) (r.append (.cons ru .nil)) ?_,rfl,q⟩;rw[List.length_append,List.length_singleton];omega
def rCat:R2:=λx y H Q=>∃l b xs zs,x= .ref l/\y= .ref b/\H l=some (.lst xs)/\H b=some (.lst zs)/\xs.length+zs.length<=sizeLine/\∀p,H p=none->Q (.ref p) (upd H p (.lst (xs++zs)))
theorem op_cat:OpR X (binaryOp .Add) rCat:=by
 intro pins s σ H x y v u Q I rx ry h;obtain⟨l,b,xs,zs,rfl,rfl,hH,hB,hz,q⟩:=h;cases rx;cases ry;obtain⟨z,its,n,r,hl,e⟩:=I.lstM hH;obtain⟨z2,its2,n2,r2,hl2,e2⟩:=I.lstM hB;refine PySem.P.add_list e e2 ?_ (by rw[List.size_toArray,List.size_toArray];omega);have ea:its.toArray++its2.toArray=(its++its2).toArray:=by simp
 rw[ea];exact⟨.ref _,_,I.lnew (t':=s.toks) (r.append r2) (by rw[List.length_append];omega),rfl,q _ I.fresh⟩
def rRep:R2:=λx y H Q=>∃l k xs,x= .ref l/\y= .int k/\H l=some (.lst xs)/\ -(2^63)<=k/\k<2^63/\xs.length*k.toNat<=sizeLine /\
 ∀p,H p=none->Q (.ref p) (upd H p (.lst (List.replicate k.toNat xs).flatten))
theorem len_rep{α:Type}(xs:List α)(k:Nat):(List.replicate k xs).flatten.length=k*xs.length:=by
 induction k with
 | zero=>simp
 | succ k ih=>rw[List.replicate_succ,List.flatten_cons,List.length_append,ih,Nat.succ_mul,Nat.add_comm]
theorem op_rep:OpR X (binaryOp .Mult) rRep:=by
 intro pins s σ H x y v u Q I rx ry h;obtain⟨l,k,xs,rfl,rfl,hH,h1,h2,hz,q⟩:=h;cases rx;obtain⟨t,rfl⟩:=ry;obtain⟨z,its,n,r,hl,e⟩:=I.lstM hH;have hlen:its.toArray.size*k.toNat<=sizeLine:=by rw[List.size_toArray,<-hl];exact hz
 have hcap:¬its.toArray.size*k.toNat>(2^63-1)/8:=by
  have:(sizeLine:Nat)<=(2^63-1)/8:=by decide
  omega
 have hfit:¬(!Builtin.List.listFitsIndex k)=true:=by
  rw[fitsIndex_both h1 h2];exact Bool.false_ne_true
 have hlong:¬Builtin.List.listTooLong (its.toArray.size*k.toNat)=true:=by
  rw[Wu hlen];exact Bool.false_ne_true
 have hnew:List.foldl (λx1 x2=>x1++x2) #[] (List.replicate (if its.toArray.isEmpty=true then 0 else k.toNat) its.toArray)=(List.replicate k.toNat its).flatten.toArray:=by
  have f0:∀m:Nat,List.foldl (λx1 x2=>x1++x2) #[] (List.replicate m its.toArray)=(List.replicate m its).flatten.toArray:=λm=>by
   have:=foldl_rep its m [];rw[List.nil_append]at this;exact this
  rw[f0];cases its with
  | nil=>simp
  | cons a r'=>rw[if_neg (by simp)]
 refine wpAny_binaryOp_repeat_ref (T:="list") (U:="int") (by decide) ⟨_,e,rfl⟩ (λs'=>typeIs_int s' k t) noFill_list_mul F.fills_int_mul F.slot_int_rmul repeat_list F.slot_int_index.lookup
  (call_meets F.slot_int_rmul (typeIs_int s k t) F.entry_int_rmul (F.args_int_rmul_2 _ _) (int___rmul___int_list k t l its.toArray n)
    ⟨e,rfl,⟨_,e,rfl⟩,call_meets F.slot_list_mul ⟨_,e,rfl⟩ F.entry_list_mul (F.args_list_mul_2 _ _) (AutoListH.list___mul___list_int_3 l its.toArray n k t hfit hcap hlong) ⟨e,?_⟩⟩)
 rw[hnew];exact⟨.ref _,_,I.lnew (t':=s.toks) (r.rep k.toNat) (by rw[len_rep,Nat.mul_comm];exact hz),rfl,q _ I.fresh⟩
end
end L2
namespace Att
open PySem PySem.W PySem.Calls PyProof.Rows
theorem vi{P:Params}{h:Heap}:∀(ns:List Int) (vs:List Value),WellAll P h vs (ns.map WData.int)->IntsAre vs ns:=by
 intro ns
 induction ns with
 | nil =>
  intro vs w;rw[List.map_nil]at w;cases w;exact .nil
 | cons n ns ih =>
  intro vs w;rw[List.map_cons]at w;cases w with
  | cons a b =>
   cases a;exact .cons _ _ (ih _ b)
theorem Gq{l:OpenLaw}{n:Nat}(hn:l.most=some n){P:Params}{h:Heap}{args:List WData}{vals:List Value}
 (hpre:l.row.toRowW.claim.pre args=true)(hwl:WellAll P h vals args) :
 ∃a vs ns,vals=[Value.ref a]/\args=[WData.list (ns.map WData.int)]/\h.get? a=some { cls:=.type "list",data:=.seq vs.toArray }/\IntsAre vs ns/\ns.length<=n:=by
 have hsh:WShape.hasAll [] args [.list .int]=true:=(pre_splitW hpre).1;have hc:l.pre.holds [] { args:=args }=true:=(pre_splitW hpre).2;obtain⟨d,r,rfl,h1,h2⟩:=hasAllW_cons hsh;obtain rfl:=hasAllW_nil h2;obtain⟨xs,rfl,h3⟩:=hasW_list h1;obtain⟨ns,rfl⟩:=items_int h3;have hlen:ns.length<=n:=by
  unfold OpenLaw.pre at hc;have h4:(WTm.not (.lt (.lit (.int (n:Int))) (.len (.arg 0)))).holds [] { args:=[.list (ns.map .int)] }=true:=by
   have h4:=(holds_andW hc).1;rw[hn]at h4;exact h4
  have h5:=condW_of h4 (w_not (w_lt w_lit (w_len_list (w_arg rfl))));rw[List.length_map]at h5;refine Nat.le_of_not_lt λq=>?_;have q':(n:Int)<((ns.length:Nat):Int):=by omega
  first
   | (rw[decide_eq_true q']at h5;exact absurd h5 (by decide))
   | (simp at h5;omega)
 cases hwl with
 | cons w1 w2 =>
  cases w2;cases w1 with
  | list ho hall=>exact⟨_,_,ns,rfl,rfl,ho,vi ns _ hall,hlen⟩
theorem qr(l:OpenLaw)(args:List WData):l.row.toRowW.claim.post args (.bool true) args=true :=
 postW_of (r:=l.row.toRowW) (X:=(true==true))
  (show WShape.has [] (.bool true) .bool=true by first|rfl|decide|simp[WShape.has,WShape.arms,WShape.armsAll])
  (show (WTm.eq .res (.lit (.bool true))).value [] { args:=args,res:=some (.bool true),after:=args }=some (.bool (true==true)) from w_eq_bool (w_res rfl) w_lit) rfl
theorem Wn{l:OpenLaw}{n:Nat}{q:Program}{loose:List Str}{XP:(Str->Option Value)->Heap->Prop}{YP:World->Heap->Prop}{d:DefRec}
 (hn:l.most=some n)(hdf:d.params.defaults=[])
 (call:∀(w:World) (s₀ s₁:Shared) (mg mb:Str->Option Value) (fa:Addr) (o:Obj) (pm cd doc:Value) (a:Addr) (vs:List Value) (ns:List Int),
   Ground q loose [] XP w s₀ mg mb s₁.heap->YP w s₁.heap ->
   s₁.heap.get? fa=some o->o.data= .func (docDef d.name d.params d.body d.scope pm cd doc)->s₁.heap.CodeRec cd d.name->mg d.name=some (.ref fa) ->
   s₁.heap.get? a=some { cls:=.type "list",data:=.seq vs.toArray }->IntsAre vs ns->ns.length<=n->s₁.gens= #[] ->
   codeAny (model l.prog w) callerA (.call (.ref fa) ⟨[.ref a],[]⟩) (λr s'=>r= .ok (.ret (.bool true))/\OldK s₁.heap s'.heap/\s'.os=s₁.os/\AllBare s'.gens) s₁) :
 WalkO q loose XP YP l.row.toRowW d [] (λf vs=>PySem.call f vs):=by
 intro w s₀ s₁ mg mb G Y fa o pm cd doc dV kV ho hd hcd hD hmg hg args vals as hpre hlay hrd hwl hlo;obtain rfl:dV= .none:=Dflts.none hD hdf;obtain rfl:kV= .none:=Dflts.noKw hD;obtain⟨a,vs,ns,rfl,rfl,hobj,hints,hlen⟩:=Gq hn hpre hwl;refine enter_call (codeAny_mono (call w s₀ s₁ mg mb fa o pm cd doc a vs ns G Y ho (fd_plain hd) hcd hmg hobj hints hlen hg) λr s' hq=>?_);obtain⟨rfl,h2,h3,h4⟩:=hq;exact⟨.inl ⟨.bool true,.bool true,[],rfl,λ_=>rfl,.bool true,qr l _,λ_=>⟨List.Pairwise.nil,λ_ hm=>(nomatch hm)⟩⟩,h2,h3,h4⟩
section
variable {prog : Program} {w : World} {A : Around} {E : Value -> Shared -> Prop} {s : Shared} {K : Frag}
def ledger(h:Heap)(L d:Addr):List (Addr×Obj):=(List.range h.objs.size).filterMap λa=>if a=L\/a=d then none else (h.get? a).map λo=>(a,o)
end
end Att
namespace L2
open PySem PySem.Spec PyProof.Rows
theorem Bl:∀{vs:List Value} {ns:List Int},IntsAre vs ns->Vals (ns.map V.int) vs
 | _,_,.nil=>.nil
 | _,_,.cons n t h=>.cons ⟨t,rfl⟩ (Bl h)
def Only(H:Hp):Prop:=∀b,H b=none\/∃o xs,H b=some (.frz o (.lst xs))
theorem qv{P:Program}{w:World}{K:PySem.W.Frag}{mg mb:Str->Option Value}{CX:CXT}{k:Nat}{fa a:Addr}{fd:FuncData}{x:Str}{sp:Sp}{s₁:Shared}{vs:List Value}{ns:List Int}
 (KX:K.In s₁.heap)(hns:s₁.heap.Ns mainGlobals mg)(hb:s₁.heap.Ns builtinsNs mb)(hbb:∀x:Str,x≠"__name__"->mb x=bootBuiltins x)(hlim:s₁.heap.NoLimit)(hg:s₁.gens= #[])
 (ha:s₁.heap.get? a=some { cls:=.type "list",data:=.seq vs.toArray })(hi:IntsAre vs ns)(hl:ns.length<=sizeLine)(hr:Room k callerA)
 (F:∀base:Heap,K.In base->base.Ns mainGlobals mg->FnOk P w K mg base CX k fa fd [x] sp)(hbind:∀(s:Shared) (u:Value),BindsTo s fd ⟨[u],[]⟩ [(x,u)])
 (hsp:∀H:Hp,Only H->SqL K H a (ns.map V.int)->sp [.ref a] H (λv _=>v= .bl true) λ_ _ _=>False)
 (hCX:∀H e s',CX [] H s₁ (λ_ _ _=>False) e s'->False) :
 codeAny (model P w) callerA (.call (.ref fa) ⟨[.ref a],[]⟩) (λr s'=>r= .ok (.ret (.bool true))/\OldK s₁.heap s'.heap/\s'.os=s₁.os/\AllBare s'.gens) s₁:=by
 have rv:=Bl hi;have lenV:=hi.length;have core:∀H:Hp,Only H->SqL K H a (ns.map V.int)->HOk P w H s₁.heap->(∀b,H b≠none->b=a)->(H a≠none->K.lookup a=none) ->
  codeAny (model P w) callerA (.call (.ref fa) ⟨[.ref a],[]⟩) (λr s'=>r= .ok (.ret (.bool true))/\OldK s₁.heap s'.heap/\s'.os=s₁.os/\AllBare s'.gens) s₁:=by
  intro H hO hS hok hA hK;have base_of:∀{b:Addr} {o:Obj},s₁.heap.get? b=some o->H b=none->(hidT s₁.heap H).get? b=some o:=λe n=>Av e n;have noA:∀{b:Addr} {o:Obj} {es:Array DictEntry} {ep:Nat},s₁.heap.get? b=some o->o.data= .dict es ep->H b=none:=λ{b o es ep} e d=>by
   cases q:H b with
   | none=>rfl
   | some u =>
    have e':b=a:=hA b (by rw[q];simp);subst e';rw[ha]at e;cases e;have d':Data.seq vs.toArray _=Data.dict es ep:=d;cases d'
  have nsK:∀{b:Addr} {m:Str->Option Value},s₁.heap.Ns b m->(hidT s₁.heap H).Ns b m:=λ{b m} ⟨o,es,ep,e,d,r⟩=>⟨o,es,ep,base_of e (noA e d),d,r⟩
  have hKb:K.In (hidT s₁.heap H):=λb o e=>base_of (KX b o e) (by
   cases q:H b with
   | none=>rfl
   | some u =>
    have e':b=a:=hA b (by rw[q];simp);subst e';rw[hK (by rw[q];simp)]at e;cases e)
  have hM:Mod K mg (hidT s₁.heap H):=⟨hKb,nsK hns,⟨mb,nsK hb,hbb⟩,let ⟨mc,h1,h2⟩:=hlim;⟨mc,nsK h1,h2⟩⟩
  have e0:Env0 P w K mg (hidT s₁.heap H) callerA [] s₁ H:=⟨rfl,hM,λb o e=>Vy e,Nat.le_of_eq (Fs _ _),trivial,λb hb=>absurd (show b∈([]:List Addr) from hb) (by simp),hok,.of_eq hg⟩
  refine codeAny_mono ((F _ hKb (nsK hns)).run callerA [] s₁ H ⟨[.ref a],[]⟩ [.ref a] [.ref a] _ _ hr e0 (hbind s₁ (.ref a)) (.cons rfl .nil) (hsp H hO hS)) λr s' h=>?_;cases r with
  | error e=>exact(hCX H e s' h).elim
  | ok fl =>
   cases fl with
   | next=>exact False.elim h
   | brk=>exact False.elim h
   | cont=>exact False.elim h
   | ret u =>
    obtain⟨v,H',os,bare,un,hok',r',q⟩:=h;have q':v= .bl true:=q;subst q';obtain rfl:u=Value.bool true:=r';refine⟨rfl,OldK.of_keep λb o e=>?_,os,bare⟩;cases q:H b with
    | none=>exact un.keep b o e q (by intro z;exact absurd (show b∈([]:List Addr) from z) (by simp)) (by simp)
    | some u =>
     rcases hO b with z|⟨ob,xs,z⟩
     . rw[q]at z;cases z
     . have z2:=un.frzs b ob _ z
       obtain⟨e1,_⟩:=hok b _ z;obtain⟨e2,_⟩:=hok' b _ z2;rw[e]at e1;cases e1;exact e2
 cases hk:K.lookup a with
 | some o =>
  have e:=KX a o hk;rw[ha]at e;cases e;refine core (λ_=>none) (λ_=>.inl rfl) (.inr ⟨_,vs.toArray,_,hk,rfl,rfl,rfl,by rw[List.size_toArray,lenV];exact hl,by simpa using rv⟩) (λb u z=>by have z':(none:Option HO)=some u:=z;cases z') (λb z=>absurd rfl z) λz=>absurd rfl z
 | none =>
  refine core (λb=>if b=a then some (.frz { cls:=.type "list",data:=.seq vs.toArray } (.lst (ns.map V.int))) else none) (λb=>?_) (.inl (.inr ⟨{ cls:=.type "list",data:=.seq vs.toArray },if_pos rfl⟩)) (λb u z=>?_) (λb z=>?_) λ_=>hk
  . by_cases hb:b=a
    . exact .inr ⟨_,_,if_pos hb⟩
    . exact .inl (if_neg hb)
  . by_cases hb:b=a
    . have z':=(if_pos hb).symm.trans z
      cases z';subst hb;exact⟨ha,by rw[List.length_map];exact hl,vs,_,rv,ha⟩
    . have z':=(if_neg hb).symm.trans z
      cases z'
  . by_cases hb:b=a
    . exact hb
    . exact absurd (if_neg hb) z
end L2
namespace L2
open PySem PySem.Spec PyProof.Rows
abbrev KOf{K:PySem.W.Frag}{h:Heap}(_:K.In h):PySem.W.Frag:=K
theorem Rw{l:PySem.W.OpenLaw}{n k:Nat}{q:Program}{loose:List Str}{XP:(Str->Option Value)->Heap->Prop}{YP:World->Heap->Prop}{d:DefRec}{K:Params->PySem.W.Frag}{CX:World->CXT}{sp:World->Sp}{x:Str}
 (hn:l.most=some n)(hn2:n<=sizeLine)(hdf:d.params.defaults=[])(hr:Room k callerA)
 (hY:∀(w:World) (h:Heap),YP w h->(K w.params).In h)
 (F : ∀ (w : World) (mg : Str -> Option Value) (fa : Addr) (h : Heap), (K w.params).In h -> h.Ns mainGlobals mg -> mg d.name = some (.ref fa) ->
   ∃fd:FuncData,(∀(s:Shared) (u:Value),BindsTo s fd ⟨[u],[]⟩ [(x,u)]) /\
    ∀base:Heap,(K w.params).In base->base.Ns mainGlobals mg->FnOk l.prog w (K w.params) mg base (CX w) k fa fd [x] (sp w))
 (hsp:∀(w:World) (H:Hp) (a:Addr) (ns:List Int),ns.length<=n->Only H->SqL (K w.params) H a (ns.map V.int)->sp w [.ref a] H (λv _=>v= .bl true) λ_ _ _=>False)
 (hCX:∀(w:World) (H:Hp) (s:Shared) (e:Value) (s':Shared),CX w [] H s (λ_ _ _=>False) e s'->False) :
 PySem.W.WalkO q loose XP YP l.row.toRowW d [] (λf vs=>PySem.call f vs):=by
 refine Att.Wn hn hdf λw s₀ s₁ mg mb fa o pm cd doc a vs ns G Y ho hd hcd hmg hobj hints hlen hg=>?_;have KX:=hY w _ Y;obtain⟨fd,hb,hF⟩:=F w mg fa _ KX G.T.g hmg;exact qv KX G.T.g G.T.b G.T.builtins G.T.nolimit hg hobj hints (Nat.le_trans hlen hn2) hr hF hb (λH hO hS=>hsp w H a ns hlen hO hS) λH e s'=>hCX w H s₁ e s'
end L2
namespace L2
open PySem PySem.Spec PyProof.Rows
def inClass(s:Stmt)(j:Nat):Stmt:=match s with
 | .ClassDef _ _ _ body _ _ _ _ _ _ _=>body.getD j (.Pass ⟨0,0,0,0⟩)
 | _=>.Pass ⟨0,0,0,0⟩
def xc(s:Stmt):Arguments:=match s with
 | .FunctionDef _ a _ _ _ _ _ _ _ _=>a
 | _=>{ posonlyargs:=[],args:=[],vararg:=none,kwonlyargs:=[],kw_defaults:=[],kwarg:=none,defaults:=[] }
def qa(s:Stmt):List Stmt:=match s with
 | .FunctionDef _ _ b _ _ _ _ _ _ _=>b
 | _=>[]
def la(s:Stmt):Scope:=match s with
 | .FunctionDef _ _ _ _ _ _ sc _ _ _=>sc
 | _=>{ kind:=.function,names:=[],isGenerator:=false,isCoroutine:=false }
abbrev CX0:CXT:=λ_ _ _ _ _ _=>False
abbrev E0:XK:=λ_ _ _=>False
theorem Ir{X:Cx}:Passes CX0 X E0:=λ_ _ _ _ _ _ _ h=>h.elim
structure Fun(K:PySem.W.Frag)(x qual:Str)(st:Stmt)(f:Addr)(fd:FuncData):Prop where
 ex:∃(oc:Value) (od:Option Addr) (kV doc pm:Value) (an:Option Addr) (cdv ct:Value) (osl:Array (Option Value)),
  fd=PySem.W.fnOf x qual (xc st) (qa st) (la st) .none kV doc pm an cdv ct/\K.lookup f=some ⟨oc,od,.func fd,osl⟩/\PySem.W.codeIn K cdv qual=true
 kp:PySem.W.keepIn K (.ref f)=true
section
variable {P : Program} {w : World} {K : PySem.W.Frag} {mg : Str -> Option Value} {base : Heap}
theorem Fun.ok{x qual:Str}{st:Stmt}{f:Addr}{fd:FuncData}{N ps:List Str}{k:Nat}{sp:Sp}(F:Fun K x qual st f fd)(S:wa N ps (la st))(len:∀vs H Q E,sp vs H Q E->vs.length=ps.length)
 (hbody:∀(cdv:Value) (A:Around) (outer:List Env) (s:Shared) (H:Hp) (vs:List V) (Q:VK) (E:XK),Room k (A.deeper (envOfC qual (la st) s.heap.objs.size f cdv))->sp vs H Q E ->
   ∃t,PSs (cxOf CX0 P w K mg base N qual (la st) f cdv A outer s H E).nox (qa st) t/\t { nx:=λ_ H'=>Q .non H',rt:=Q } (start N vs) H):FnOk P w K mg base CX0 (k+1) f fd ps sp:=by
 obtain⟨oc,od,kV,doc,pm,an,cdv,ct,osl,rfl,lk,hcd⟩:=F.ex;refine fn_of lk hcd S len λA outer s H vs Q E hr hsp=>?_;obtain⟨t,h,q⟩:=hbody cdv A outer s H vs Q E hr hsp;exact⟨t,h.nox,q⟩
theorem Fun.binds{x qual:Str}{st:Stmt}{f:Addr}{fd:FuncData}{ps:List Str}(F:Fun K x qual st f fd)
 (h:∀(kV doc pm:Value) (an:Option Addr) (cdv ct:Value) (us:List Value),us.length=ps.length->bindArgs (PySem.W.fnOf x qual (xc st) (qa st) (la st) .none kV doc pm an cdv ct) ⟨us,[]⟩=pure (ps.zip us)):Binds K fd ps []:=by
 obtain⟨oc,od,kV,doc,pm,an,cdv,ct,osl,rfl,lk,hcd⟩:=F.ex;exact .all (h kV doc pm an cdv ct)
theorem um{x qual:Str}{st:Stmt}{f:Addr}{oc:Value}{od an:Option Addr}{osl:Array (Option Value)}{kV doc pm cdv ct:Value}(l:K.lookup f=some ⟨oc,od,.func (PySem.W.fnOf x qual (xc st) (qa st) (la st) .none kV doc pm an cdv ct),osl⟩)
 (c:PySem.W.codeIn K cdv qual=true)(k:PySem.W.keepIn K (.ref f)=true):Fun K x qual st f (PySem.W.fnOf x qual (xc st) (qa st) (la st) .none kV doc pm an cdv ct):=⟨⟨oc,od,kV,doc,pm,an,cdv,ct,osl,rfl,l,c⟩,k⟩
end
section
variable {X : Cx}
theorem pv(i:Nat){x:Str}{pos:Pos}(hN:X.N[i]?=some x:=by first|rfl|with_unfolding_all rfl)(hv:Vis X.env.scope x:=by first|exact Or.inl rfl|exact Or.inr (Or.inl rfl)|exact Or.inr (Or.inr rfl)|with_unfolding_all exact Or.inl rfl|with_unfolding_all exact Or.inr (Or.inl rfl)|with_unfolding_all exact Or.inr (Or.inr rfl))(hd:(x==("__debug__":Str))=false:=by decide)
 (hcd:(x==("__classdict__":Str))=false:=by decide):PE X (.Name x pos) (tVar i):=pe_var hN hv hd hcd
end
theorem iteF{A B:Prop}(h:B):if false=true then A else B:=by
 rw[if_neg Bool.false_ne_true];exact h
theorem iteT{A B:Prop}(h:A):if true=true then A else B:=by
 rw[if_pos rfl];exact h
theorem ite2{c A B:Prop}[Decidable c](h1:c->A)(h2:¬c->B):if c then A else B:=by
 by_cases h:c
 . rw[if_pos h]
   exact h1 h
 . rw[if_neg h]
   exact h2 h
def Same(H H':Hp):Prop:=∀b o,H b=some o->H' b=some o
theorem Same.refl(H:Hp):Same H H:=λ_ _ h=>h
theorem Same.trans{H H1 H2:Hp}(a:Same H H1)(b:Same H1 H2):Same H H2:=λc o h=>b c o (a c o h)
theorem Same.free{H H':Hp}(e:Same H H'){l:Addr}(h:H' l=Option.none):H l=Option.none:=by
 cases q:H l with
 | none=>rfl
 | some o =>
  rw[e l o q]at h;cases h
end L2
namespace L2
open PySem PySem.Spec PyProof.Rows
section
variable {κ : Type} [DecidableEq κ]
def valV(kvs:List (κ×V))(k:κ):Option V:=(kvs.find? λkv=>decide (kv.1=k)).map (·.2)
def putK(kvs:List (κ×V))(k:κ)(v:V):List (κ×V) :=
 if (kvs.any λkv=>decide (kv.1=k))=true then kvs.map (λkv=>if kv.1=k then (kv.1,v) else kv) else kvs++[(k,v)]
theorem Hj{p:κ×V}{r:List (κ×V)}{k:κ}(e:p.1=k):valV (p::r) k=some p.2:=by simp[valV,List.find?_cons,e]
theorem Ij{p:κ×V}{r:List (κ×V)}{k:κ}(e:¬p.1=k):valV (p::r) k=valV r k:=by simp[valV,List.find?_cons,e]
theorem bo(k:κ):∀kvs:List (κ×V),(kvs.any λkv=>decide (kv.1=k))=(valV kvs k).isSome
 | []=>rfl
 | p::r=>by
  rw[List.any_cons];by_cases e:p.1=k
  . simp only[Hj e,decide_eq_true e,Bool.true_or,Option.isSome_some]
  . rw[Ij e,decide_eq_false e,Bool.false_or];exact bo k r
theorem RelO.og{o:Option V}{u:Option Value}(r:RelO o u):o.isSome=u.isSome:=by
 cases o with
 | none=>cases u with
  | none=>rfl
  | some _=>exact(show False from r).elim
 | some _=>cases u with
  | none=>exact(show False from r).elim
  | some _=>rfl
theorem RelO.getD{o:Option V}{u:Option Value}{d:V}{d':Value}(r:RelO o u)(rd:RelV d d'):RelV (o.getD d) (u.getD d'):=by
 cases o with
 | none=>cases u with
  | none=>exact rd
  | some _=>exact(show False from r).elim
 | some _=>cases u with
  | none=>exact(show False from r).elim
  | some _=>exact r
theorem KV.val{kvs:List (κ×V)}{vs:List (κ×Value)}(r:KV kvs vs)(k:κ):RelO (valV kvs k) (valueAt vs k):=by
 unfold KV at r
 induction r with
 | nil=>exact True.intro
 | @cons p q ps qs h t ih =>
  obtain⟨h1,h2⟩:=h;by_cases e:p.1=k
  . have e':q.1=k:=h1.symm.trans e
    have b:valueAt (q::qs) k=some q.2:=by simp[valueAt,List.find?_cons,e']
    rw[Hj e,b];exact h2
  . have e':¬q.1=k:=λz=>e (h1.trans z)
    have b:valueAt (q::qs) k=valueAt qs k:=by simp[valueAt,List.find?_cons,e']
    rw[Ij e,b];exact ih
theorem KV.any{kvs:List (κ×V)}{vs:List (κ×Value)}(r:KV kvs vs)(k:κ):(kvs.any λkv=>decide (kv.1=k))=vs.any λkv=>decide (kv.1=k):=by
 unfold KV at r
 induction r with
 | nil=>rfl
 | cons h t ih=>rw[List.any_cons,List.any_cons,ih,h.1]
theorem KV.repl{kvs:List (κ×V)}{vs:List (κ×Value)}(r:KV kvs vs)(k:κ){y:V}{u:Value}(ry:RelV y u) :
 KV (kvs.map λkv=>if kv.1=k then (kv.1,y) else kv) (vs.map λkv=>if kv.1=k then (kv.1,u) else kv):=by
 unfold KV at r ⊢
 induction r with
 | nil=>exact .nil
 | @cons p q ps qs h t ih =>
  rw[List.map_cons,List.map_cons];refine .cons ?_ ih;obtain⟨h1,h2⟩:=h;by_cases e:p.1=k
  . rw[if_pos e,if_pos (h1.symm.trans e)];exact⟨h1,ry⟩
  . rw[if_neg e,if_neg (λz=>e (h1.trans z))];exact⟨h1,h2⟩
theorem KV.put{kvs:List (κ×V)}{vs:List (κ×Value)}(r:KV kvs vs)(k:κ){y:V}{u:Value}(ry:RelV y u):KV (putK kvs k y) (stored vs k u):=by
 unfold putK stored;rw[r.any k];by_cases e:(vs.any λkv=>decide (kv.1=k))=true
 . rw[if_pos e,if_pos e];exact r.repl k ry
 . rw[if_neg e,if_neg e];exact Paired.snoc r ⟨rfl,ry⟩
theorem KV.length{kvs:List (κ×V)}{vs:List (κ×Value)}(r:KV kvs vs):kvs.length=vs.length:=Paired.length r
end
theorem kV_is{P:Program}{w:World}{k:Key}{u:Value}(r:RelV (kV k) u):(Qb P w).is k u=true:=by
 cases k with
 | inl i=>obtain⟨t,e⟩:=(show ∃t,u=Value.int i t from r);subst e;exact Gn P w i t
 | inr x=>obtain⟨t,e⟩:=(show ∃t,u=Value.str x t from r);subst e;exact Fn P w x t
theorem qm{P:Program}{w:World}:∀{ks:List Key} {us:List Value},Vals (ks.map kV) us->ItemsAre (Qb P w) ks us
 | [],_,r=>by rw[List.map_nil]at r;cases r;exact .nil
 | k::ks,_,r=>by
  rw[List.map_cons]at r;cases r with
  | cons h t=>exact .cons (kV_is h) (qm t)
abbrev KT(H:Hp):List (List Key×V)->List (List Key×Addr×Value)->Prop:=Paired λp q=>p.1=q.1/\H q.2.1=some (.tup (p.1.map kV))/\RelV p.2 q.2.2
theorem KT.val{H:Hp}{kvs:List (List Key×V)}{xs:List (List Key×Addr×Value)}(r:KT H kvs xs)(k:List Key):RelO (valV kvs k) ((atKey xs k).map (·.2)):=by
 induction r with
 | nil=>exact True.intro
 | @cons p q ps qs h t ih =>
  obtain⟨h1,_,h2⟩:=h;by_cases e:p.1=k
  . have e':q.1=k:=h1.symm.trans e
    have b:atKey (q::qs) k=some q.2:=by simp[atKey,List.find?_cons,e']
    rw[Hj e,b];exact h2
  . have e':¬q.1=k:=λz=>e (h1.trans z)
    have b:atKey (q::qs) k=atKey qs k:=by simp[atKey,List.find?_cons,e']
    rw[Ij e,b];exact ih
theorem KT.repl{H:Hp}{kvs:List (List Key×V)}{xs:List (List Key×Addr×Value)}(r:KT H kvs xs)(k:List Key){y:V}{u:Value}(ry:RelV y u) :
 KT H (kvs.map λkv=>if kv.1=k then (kv.1,y) else kv) (xs.map (putAt k u)):=by
 induction r with
 | nil=>exact .nil
 | @cons p q ps qs h t ih =>
  rw[List.map_cons,List.map_cons];refine .cons ?_ ih;obtain⟨h1,h2,h3⟩:=h;unfold putAt;by_cases e:p.1=k
  . rw[if_pos e,if_pos (h1.symm.trans e)];exact⟨h1,h2,ry⟩
  . rw[if_neg e,if_neg (λz=>e (h1.trans z))];exact⟨h1,h2,h3⟩
theorem KT.put{H:Hp}{kvs:List (List Key×V)}{xs:List (List Key×Addr×Value)}(r:KT H kvs xs)(k:List Key){b:Addr}{y:V}{u:Value}(hb:H b=some (.tup (k.map kV)))(ry:RelV y u) :
 KT H (putK kvs k y) (storedH xs k b u):=by
 have e:(kvs.any λkv=>decide (kv.1=k))=(atKey xs k).isSome:=by
  rw[bo,(r.val k).og,Option.isSome_map]
 unfold putK storedH;rw[e];by_cases q:(atKey xs k).isSome=true
 . rw[if_pos q,if_pos q];exact r.repl k ry
 . rw[if_neg q,if_neg q];exact Paired.snoc r ⟨rfl,hb,ry⟩
def DGet(H:Hp)(a:Addr)(y:V)(r:Option V):Prop :=
 (∃kvs k,Rd H a (.dK kvs)/\y=kV k/\r=valV kvs k)\/∃kvs k b,Rd H a (.dT kvs)/\y= .ref b/\H b=some (.tup (k.map kV))/\r=valV kvs k
def DPut(H:Hp)(a:Addr)(y v:V)(H':Hp):Prop :=
 (∃kvs k,H a=some (.dK kvs)/\y=kV k/\kvs.length<sizeLine/\H'=upd H a (.dK (putK kvs k v))) \/
 ∃kvs k b,H a=some (.dT kvs)/\y= .ref b/\H b=some (.tup (k.map kV))/\kvs.length<sizeLine/\H'=upd H a (.dT (putK kvs k v))
theorem DGet.k{H:Hp}{a:Addr}{kvs:List (Key×V)}{k:Key}(e:H a=some (.dK kvs)):DGet H a (kV k) (valV kvs k):=.inl ⟨kvs,k,.inl e,rfl,rfl⟩
theorem DGet.t{H:Hp}{a b:Addr}{kvs:List (List Key×V)}{k:List Key}(e:H a=some (.dT kvs))(eb:H b=some (.tup (k.map kV))):DGet H a (.ref b) (valV kvs k):=.inr ⟨kvs,k,b,.inl e,rfl,eb,rfl⟩
theorem DPut.k{H:Hp}{a:Addr}{kvs:List (Key×V)}{k:Key}{v:V}(e:H a=some (.dK kvs))(hl:kvs.length<sizeLine):DPut H a (kV k) v (upd H a (.dK (putK kvs k v))):=.inl ⟨kvs,k,e,rfl,hl,rfl⟩
theorem DPut.t{H:Hp}{a b:Addr}{kvs:List (List Key×V)}{k:List Key}{v:V}(e:H a=some (.dT kvs))(eb:H b=some (.tup (k.map kV)))(hl:kvs.length<sizeLine) :
 DPut H a (.ref b) v (upd H a (.dT (putK kvs k v))):=.inr ⟨kvs,k,b,e,rfl,eb,hl,rfl⟩
section
variable {X : Cx} {pins : List (Addr × Obj)} {σ : St} {H : Hp} {s : Shared} {a : Addr} {y v : V} {u r : Value} {o : Option V} {A : Around} {E : Value -> Shared -> Prop}
theorem Inv.big(I:Inv X pins σ H s):sysModules<s.heap.objs.size:=by
 have h:mainGlobals<s.heap.objs.size:=(I.mod.glob.keeps I.bk).lt;exact Nat.lt_trans (by decide) h
theorem et{h':Heap}{t':Nat}{ob:HO}(I:Inv X pins σ H s)(mu:Mut (H a))(hs:Heap.SameBut a s.heap h')(he:∃q,h'.get? a=some q)(new:Bc X.prog X.w (upd H a ob) h' a ob) :
 Inv X pins σ (upd H a ob) { s with heap:=h',toks:=t' } :=
 I.write (x:=a) (e:=a) mu (.inl rfl) (λb q hb z=>(hs.2 b hb).trans z) he new
end
def NoSl(i:Expr):Prop:=∀ov iv,subscripted i false ov iv=operate [ov,iv] (getItem ov iv)
theorem Xw{prog:Program}{w:World}{A:Around}{E:Value->Shared->Prop}{s:Shared}{env:Env}{value slice:Expr}{pos:Pos}{T id:String}{Q:Value->Shared->Prop}
 (hl:typeLookup (.type T) "__getitem__"=pure (some (.builtin id)))(hs:NoSl slice)
 (h:wpAny (model prog w) A (eval value env) (λo s₁=>wpAny (model prog w) A (eval slice env) (λi s₂=>s₂.TypeIs o T/\wpAny (model prog w) A (getItem o i) Q E s₂) E s₁) E s) :
 wpAny (model prog w) A (eval (.Subscript value slice pos) env) Q E s:=by
 refine Subscript_ (wpAny_mono h (λo s₁ h₁=>wpAny_mono h₁ (λi s₂ h₂=>?_) λ_ _ x=>x) λ_ _ x=>x);obtain⟨hT,h₂⟩:=h₂;unfold subscriptTail;refine wpAny_bind ?_;rw[getitemInPython_of_ne hT.not_modules];refine wpAny_bind (wpAny_specialOf hT hl ?_);have fin:wpAny (model prog w) A (subscripted slice false o i) (λr s₃=>wpAny (model prog w) A (letTemporaryGo value o r >>= λ_=>pure r) Q E s₃) E s₂:=by
  rw[hs o i];exact wpAny_operating (wpAny_mono h₂ (λr s₃ h₃=>wpAny_bind (wpAny_letTemporaryGo (wpAny_pure h₃))) λ_ _ x=>x)
 first
  | exact wpAny_pure (wpAny_bind fin)
  | exact wpAny_bind (wpAny_pure (wpAny_bind fin))
  | exact wpAny_bind fin
structure M1(X:Cx)(o:Expr)(m:Str)(apos:Pos)(e:Expr)(cpos:Pos):Prop where
 base:attributeBase o m X.env (eval o X.env)=eval o X.env
 few:((backTo cpos (starEach [e] X.env)).all (λx=> !x.1)&&(backToKw cpos (keywordEach [] X.env)).all (λx=>x.1.isSome)
  && decide (([e]:List Expr).length+([]:List Keyword).length+(if ([]:List Keyword).isEmpty then 0 else 1)<30))=true
 line:(apos.endLine==cpos.line)=true
 trees:backTo cpos (starEach [e] X.env)=[(false,eval e X.env)]
end L2
namespace L2
open PySem PySem.Spec PyProof.Rows
def xh(i j:Int):Prop:=CMul i j\/∃m n:Nat,i.natAbs<2^m/\j.natAbs<2^n/\m+n<=134217728
def Yk(_i j:Int):Prop:=0<j/\∃n:Nat,j.natAbs<2^n/\n<=9000
section
variable {X : Cx}
theorem My:OpR X (binaryOp .Mult) (rI xh λi j=>.int (i*j)):=opI λ_ _ _ _ _ _ _ hc q=>by
 rcases hc with hc|⟨m,n,h1,h2,h3⟩
 . exact mul_int q hc.ok
 exact mul_int q (PySem.IntMulOk.of_le (PySem.intBits_le_iff.mpr h1) (PySem.intBits_le_iff.mpr h2) h3)
theorem Qc:OpR X (binaryOp .FloorDiv) (rI Yk λi j=>.int (i/j)):=opI λi j _ _ _ _ _ hc q=>by
 obtain⟨h1,n,h2,h3⟩:=hc;refine floordiv_int (by omega) (by rw[Int.fdiv_eq_ediv_of_nonneg i (by omega)];exact q) (.inl (PyProof.noPylong_of_log2 ?_));exact(Nat.log2_lt (by omega)).mpr (Nat.lt_of_lt_of_le h2 (Nat.pow_le_pow_right (by decide) h3))
end
theorem xh.of{i j:Int}(m n:Nat)(h1:i.natAbs<2^m)(h2:j.natAbs<2^n)(h3:m+n<=134217728:=by decide):xh i j:=.inr ⟨m,n,h1,h2,h3⟩
theorem Yk.of{i j:Int}(n:Nat)(h1:0<j)(h2:j.natAbs<2^n)(h3:n<=9000:=by decide):Yk i j:=⟨h1,n,h2,h3⟩
theorem Yk.small{i j:Int}(h1:0<j)(h2:j<4294967296):Yk i j:=.of 32 h1 (by omega)
theorem xh.left{i j:Int}(h1: -18446744073709551616<i)(h2:i<18446744073709551616):xh i j:=.inl (.inl ⟨h1,h2⟩)
theorem xh.right{i j:Int}(h1: -18446744073709551616<j)(h2:j<18446744073709551616):xh i j:=.inl (.inr ⟨h1,h2⟩)
def rAbs:List V->Hp->VK->Prop:=λxs H Q=>∃i,xs=[.int i]/\Q (.int (if i<0 then -i else i)) H
def rMin2:List V->Hp->VK->Prop:=λxs H Q=>∃i j,xs=[.int i,.int j]/\Q (.int (if j<i then j else i)) H
def rLen(K:PySem.W.Frag):List V->Hp->VK->Prop:=λxs H Q=>∃p ys,xs=[.ref p]/\(SqL K H p ys\/SqT K H p ys)/\Q (.int ys.length) H
def Wh(K:PySem.W.Frag):List V->Hp->VK->Prop:=λxs H Q=>∃p ys,xs=[.ref p]/\(SqL K H p ys\/SqT K H p ys)/\∀l,H l=none->Q (.ref l) (upd H l (.lst ys))
def rk(K:PySem.W.Frag):List V->Hp->VK->Prop:=λxs H Q=>∃p ys,xs=[.ref p]/\SqL K H p ys/\∀l,H l=none->Q (.ref l) (upd H l (.tup ys))
section
variable {X : Cx}
theorem Nw:vc X (.builtin "abs") rAbs:=Mv
theorem Sn(hc:X.calm=true):vc X (.builtin "min") rMin2:=xt hc
theorem cl_len:vc X (.builtin "len") (rLen X.K):=Am
theorem vz:vc X (.type "list") (Wh X.K):=zm
theorem Kv:vc X (.type "tuple") (rk X.K):=by
 intro pins s σ H xs us Q I r h;obtain⟨p,ys,rfl,hq,q⟩:=h;exact rg pins s σ H _ us Q I r ⟨p,ys,rfl,.inl ⟨hq,q⟩⟩
end
theorem Ow:bootBuiltins "abs"=some (.builtin "abs"):=by decide +kernel
theorem pb:bootBuiltins "len"=some (.builtin "len"):=by decide +kernel
theorem yt:bootBuiltins "min"=some (.builtin "min"):=by decide +kernel
theorem bt_all:bootBuiltins "all"=some (.builtin "all"):=by decide +kernel
theorem Pe:bootBuiltins "list"=some (.type "list"):=by decide +kernel
theorem nc:bootBuiltins "tuple"=some (.type "tuple"):=by decide +kernel
structure Up(K:PySem.W.Frag)(mg:Str->Option Value)(x:Str)(st:Stmt)(ps:List Str):Prop where
 ex:∃(f:Addr) (fd:FuncData),Fun K x x st f fd/\mg x=some (.ref f)/\Binds K fd ps []
structure Callee(P:Program)(w:World)(K:PySem.W.Frag)(mg:Str->Option Value)(base:Heap)(k:Nat)(x:Str)(ps:List Str)(sp:Sp):Prop where
 ex:∃(f:Addr) (fd:FuncData),FnOk P w K mg base CX0 k f fd ps sp/\mg x=some (.ref f)/\PySem.W.keepIn K (.ref f)=true/\Binds K fd ps []
theorem Callee.of{P:Program}{w:World}{K:PySem.W.Frag}{mg:Str->Option Value}{base:Heap}{x:Str}{st:Stmt}{N ps:List Str}{k:Nat}{sp:Sp}(U:Up K mg x st ps)(S:wa N ps (la st))
 (len:∀vs H Q E,sp vs H Q E->vs.length=ps.length)
 (hbody:∀(f:Addr) (cdv:Value) (A:Around) (outer:List Env) (s:Shared) (H:Hp) (vs:List V) (Q:VK) (E:XK),Room k (A.deeper (envOfC x (la st) s.heap.objs.size f cdv))->sp vs H Q E ->
   ∃t,PSs (cxOf CX0 P w K mg base N x (la st) f cdv A outer s H E).nox (qa st) t/\t { nx:=λ_ H'=>Q .non H',rt:=Q } (start N vs) H):Callee P w K mg base (k+1) x ps sp:=by
 obtain⟨f,fd,F,hm,hb⟩:=U.ex;exact⟨f,fd,F.ok S len λcdv A outer s H vs Q E hr h=>hbody f cdv A outer s H vs Q E hr h,hm,F.kp,hb⟩
def tCl(sp:Sp)(t:TA):TE:=λσ H Q=>t σ H λvs H1=>sp vs H1 Q E0
section
variable {X : Cx} {k : Nat} {ps : List Str} {sp : Sp} {x : Str} {p pos : Pos} {e : Expr} {es : List Expr} {t : TA}
theorem pe_c(C:Callee X.prog X.w X.K X.mg X.base k x ps sp)(hr:Room k X.A)(hg:Gl X x)(ha:PA X (e::es) t)(hdb:(x==("__debug__":Str))=false:=by decide)
 (he:starEach (e::es) X.env=(false,eval e X.env)::starEach es X.env:=by first|rfl|with_unfolding_all rfl)(hpl:(backTo pos (starEach es X.env)).any (·.1)=false:=by first|rfl|with_unfolding_all rfl):PE X (.Call (.Name x p) (e::es) [] pos) (tCl sp t):=by
 obtain⟨f,fd,F,hm,hk,hb⟩:=C.ex;have h:=Ky (p:=p) (E:=E0) F hr hg hm hk hb .nil Ir ha hdb he hpl;intro pins s σ H Q I q;refine h pins s σ H Q I ?_;unfold tCl at q;unfold tCall;simp only[List.append_nil];exact q
end
def tSeqM(t u:TS):TS:=λD σ H=>∃M:St->Hp->Prop,t { D with nx:=M } σ H/\∀σ' H',M σ' H'->u D σ' H'
theorem Vl{X:Cx}{st:Stmt}{rest:List Stmt}{t u:TS}(h1:PS X st t)(h2:PSs X rest u):PSs X (st::rest) (tSeqM t u):=by
 intro pins s σ H D I h;obtain⟨M,ht,hu⟩:=h;refine wpAny_execs_cons (thn (h1 pins s σ H _ I ht) λf s1 q=>?_);cases f with
 | next =>
  obtain⟨σ',H',I',m⟩:=q;exact h2 pins s1 σ' H' D I' (hu σ' H' m)
 | brk=>exact q
 | cont=>exact q
 | ret u=>exact q
end L2
namespace L2
open PySem PySem.Spec PyProof.Rows
section
variable {t u tb : TS} {n b c : St -> Hp -> Prop} {r : VK} {σ : St} {H : Hp} {D : Ends} {te ta tb' : TE} {tc td : TT} {g : TG} {Q : VK} {QB : Bool -> Hp -> Prop} {QA : List V -> Hp -> Prop} {QS : St -> Hp -> Prop} {i j : Nat} {v w x y : V} {tA tr : TA}
theorem r_seq(h:t ⟨u ⟨n,r,b,c⟩,r,b,c⟩ σ H):tSeq t u ⟨n,r,b,c⟩ σ H:=h
theorem Zv(M:St->Hp->Prop)(h:t ⟨M,r,b,c⟩ σ H)(h2:∀σ' H',M σ' H'->u ⟨n,r,b,c⟩ σ' H'):tSeqM t u ⟨n,r,b,c⟩ σ H:=⟨M,h,h2⟩
theorem r_next(h:n σ H):tNext ⟨n,r,b,c⟩ σ H:=h
theorem r_asg(h:te σ H λx H1=>g x σ H1 n):tAsg te g ⟨n,r,b,c⟩ σ H:=h
theorem jy(h:QS (σ.set i (some v)) H):Mn i v σ H QS:=h
theorem r_gsub{to ti:TE}{ts:TSet}(h:to σ H λo H1=>ti σ H1 λi H2=>ts o i v H2 λH3=>QS σ H3):gSub to ti ts v σ H QS:=h
theorem r_gnil(h:QS σ H):gNil [] σ H QS:=⟨rfl,h⟩
theorem ky{gs:TGs}{vs:List V}(h:g v σ H λσ' H'=>gs vs σ' H' QS):gCons g gs (v::vs) σ H QS:=⟨v,vs,rfl,h⟩
theorem r_gtup{K:PySem.W.Frag}{gs:TGs}{a:Addr}{xs:List V}{k:Nat}(h1:H a=some (.tup xs))(h2:xs.length=k)(h:gs xs σ H QS):gTup K k gs (.ref a) σ H QS:=⟨a,xs,rfl,SqT.of h1,h2,h⟩
theorem r_drop(h:te σ H λ_ H1=>n σ H1):tDrop te ⟨n,r,b,c⟩ σ H:=h
theorem r_ret(h:te σ H r):tRet te ⟨n,r,b,c⟩ σ H:=h
theorem r_ifs(h:tc σ H λq H1=>if q=true then t D σ H1 else u D σ H1):tIfS tc t u D σ H:=h
theorem r_aug{ti:TIp}(e:σ[i]?=some (some x))(h:te σ H λy H1=>ti x y H1 λz H2=>n (σ.set i (some z)) H2):tAug i te ti ⟨n,r,b,c⟩ σ H:=⟨x,e,h⟩
theorem r_ipI{f:Int->Int->Int}{p q:Int}(h:Q (.int (f p q)) H):ipI f (.int p) (.int q) H Q:=⟨p,q,rfl,rfl,h⟩
theorem r_var(e:σ[i]?=some (some v))(h:Q v H):tVar i σ H Q:=⟨v,e,h⟩
theorem r_c(h:Q v H):tC v σ H Q:=h
theorem r_op{o:R2}(h:ta σ H λx H1=>tb' σ H1 λy H2=>o x y H2 Q):tOp o ta tb' σ H Q:=h
theorem r_un{o:V->Hp->VK->Prop}(h:ta σ H λx H1=>o x H1 Q):tUn o ta σ H Q:=h
theorem r_rU{f:Int->V}{p:Int}(h:Q (f p) H):rU f (.int p) H Q:=⟨p,rfl,h⟩
theorem uu{f:Int->Int->V}{p q:Int}(h:Q (f p q) H):rI0 f (.int p) (.int q) H Q:=⟨p,q,rfl,rfl,h⟩
theorem r_rI{C:Int->Int->Prop}{f:Int->Int->V}{p q:Int}(hc:C p q)(h:Q (f p q) H):rI C f (.int p) (.int q) H Q:=⟨p,q,rfl,rfl,hc,h⟩
theorem r_rEqI{p q:Int}(h:Q (.bl (decide (p=q))) H):rEq (.int p) (.int q) H Q:=⟨rfl,by
 have e:decide (V.int p=V.int q)=decide (p=q):=by by_cases z:p=q<;>simp[z]
 rw[e];exact h⟩
theorem r_rNeI{p q:Int}(h:Q (.bl (!decide (p=q))) H):rNe (.int p) (.int q) H Q:=⟨rfl,by
 have e:decide (V.int p=V.int q)=decide (p=q):=by by_cases z:p=q<;>simp[z]
 rw[e];exact h⟩
theorem r_rEqB{p q:Bool}(h:Q (.bl (p==q)) H):rEq (.bl p) (.bl q) H Q:=⟨rfl,by
 have e:decide (V.bl p=V.bl q)=(p==q):=by cases p<;>cases q<;>rfl
 rw[e];exact h⟩
theorem r_rNeB{p q:Bool}(h:Q (.bl (p !=q)) H):rNe (.bl p) (.bl q) H Q:=⟨rfl,by
 have e:(!decide (V.bl p=V.bl q))=(p !=q):=by cases p<;>cases q<;>rfl
 rw[e];exact h⟩
theorem r_rEqS{p q:Str}(h:Q (.bl (decide (p=q))) H):rEq (.str p) (.str q) H Q:=⟨rfl,by
 have e:decide (V.str p=V.str q)=decide (p=q):=by by_cases z:p=q<;>simp[z]
 rw[e];exact h⟩
theorem r_rNeS{p q:Str}(h:Q (.bl (!decide (p=q))) H):rNe (.str p) (.str q) H Q:=⟨rfl,by
 have e:decide (V.str p=V.str q)=decide (p=q):=by by_cases z:p=q<;>simp[z]
 rw[e];exact h⟩
theorem r_test(h:te σ H λx H'=>∃k,x= .bl k/\QB k H'):tTest te σ H QB:=h
theorem r_bl{k:Bool}{P:Bool->Prop}(h:P k):∃k',V.bl k= .bl k'/\P k':=⟨k,rfl,h⟩
theorem r_and(h:tc σ H λq H1=>if q=true then td σ H1 QB else QB false H1):tAnd tc td σ H QB:=h
theorem r_or(h:tc σ H λq H1=>if q=true then QB true H1 else td σ H1 QB):tOr tc td σ H QB:=h
theorem r_not(h:tc σ H λq H1=>QB (!q) H1):tNot tc σ H QB:=h
theorem r_andV(h:ta σ H λx H1=>∃q,x= .bl q/\if q=true then tb' σ H1 Q else Q (.bl false) H1):tAndV ta tb' σ H Q:=h
theorem r_nil(h:QA [] H):tNil σ H QA:=h
theorem r_cons(h:te σ H λx H1=>tr σ H1 λxs H2=>QA (x::xs) H2):tCons te tr σ H QA:=h
theorem r_tup(h:tA σ H λxs H1=>xs.length<=sizeLine/\∀p,H1 p=none->Q (.ref p) (upd H1 p (.tup xs))):tTup tA σ H Q:=h
theorem r_lst(h:tA σ H λxs H1=>xs.length<=sizeLine/\∀p,H1 p=none->Q (.ref p) (upd H1 p (.lst xs))):tLst tA σ H Q:=h
theorem r_cb{o:List V->Hp->VK->Prop}(h:tA σ H λvs H1=>o vs H1 Q):tCB o tA σ H Q:=h
theorem r_cl{sp:Sp}(h:tA σ H λvs H1=>sp vs H1 Q E0):tCl sp tA σ H Q:=h
theorem r_abs{p:Int}(h:Q (.int (if p<0 then -p else p)) H):rAbs [.int p] H Q:=⟨p,rfl,h⟩
theorem r_min2{p q:Int}(h:Q (.int (if q<p then q else p)) H):rMin2 [.int p,.int q] H Q:=⟨p,q,rfl,h⟩
theorem Wq{K:PySem.W.Frag}{p:Addr}{xs:List V}(h1:H p=some (.lst xs))(h:Q (.int xs.length) H):rLen K [.ref p] H Q:=⟨p,xs,rfl,.inl (SqL.of h1),h⟩
theorem gw{K:PySem.W.Frag}{p:Addr}{xs:List V}(h1:H p=some (.tup xs))(h:Q (.int xs.length) H):rLen K [.ref p] H Q:=⟨p,xs,rfl,.inr (SqT.of h1),h⟩
theorem jk{K:PySem.W.Frag}{p:Addr}{xs:List V}(h1:SqL K H p xs)(h:∀l,H l=none->Q (.ref l) (upd H l (.lst xs))):Wh K [.ref p] H Q:=⟨p,xs,rfl,.inl h1,h⟩
theorem Zx{K:PySem.W.Frag}{p:Addr}{xs:List V}(h1:SqT K H p xs)(h:∀l,H l=none->Q (.ref l) (upd H l (.lst xs))):Wh K [.ref p] H Q:=⟨p,xs,rfl,.inr h1,h⟩
theorem Ye{K:PySem.W.Frag}{p:Addr}{xs:List V}(h1:H p=some (.lst xs))(h:∀l,H l=none->Q (.ref l) (upd H l (.tup xs))):rk K [.ref p] H Q:=⟨p,xs,rfl,SqL.of h1,h⟩
theorem r_ixL{K:PySem.W.Frag}{p:Addr}{xs:List V}{k:Int}(h1:H p=some (.lst xs))(h2:atI xs k=some v)(h:Q v H):rIxL K (.ref p) (.int k) H Q:=⟨p,xs,k,v,rfl,rfl,SqL.of h1,h2,h⟩
theorem r_ixT{K:PySem.W.Frag}{p:Addr}{xs:List V}{k:Int}(h1:H p=some (.tup xs))(h2:atI xs k=some v)(h:Q v H):rIxT K (.ref p) (.int k) H Q:=⟨p,xs,k,v,rfl,rfl,SqT.of h1,h2,h⟩
theorem r_setL{p:Addr}{xs:List V}{k:Int}{QH:Hp->Prop}{m:Nat}(h1:H p=some (.lst xs))(h2:ixN xs.length k=some m)(h:QH (upd H p (.lst (xs.set m v)))):rSetL (.ref p) (.int k) v H QH:=⟨p,xs,k,m,rfl,rfl,h1,h2,h⟩
theorem r_bmL{K:PySem.W.Frag}{o:V->List V->Hp->VK->Prop}(h:te σ H λx H1=>tyV K "list" x H1/\tA σ H1 λxs H2=>o x xs H2 Q):tBM K "list" o te tA σ H Q:=h
theorem su{K:PySem.W.Frag}{p:Addr}{xs:List V}{R:Prop}(h1:H p=some (.lst xs))(h:R):tyV K "list" (.ref p) H/\R:=⟨.inl ⟨rfl,_,SqL.of h1⟩,h⟩
theorem Md{p:Addr}{xs:List V}(h1:H p=some (.lst xs))(h2:xs.length<sizeLine)(h:Q .non (upd H p (.lst (xs++[y])))):ir (.ref p) [y] H Q:=⟨p,xs,y,rfl,rfl,h1,h2,h⟩
theorem Ba{p A B:Prop}[Decidable p](h1:p->A)(h2:¬p->B):if decide p=true then A else B:=ite2 (λz=>h1 (of_decide_eq_true z)) λz=>h2 λy=>z (decide_eq_true y)
theorem Ge{p A B:Prop}[Decidable p](h1:¬p->A)(h2:p->B):if (!decide p)=true then A else B:=by
 by_cases z:p
 . rw[decide_eq_true z];exact iteF (h2 z)
 . rw[decide_eq_false z];exact iteT (h1 z)
theorem ay{A B:Prop}(h:B):if (!true)=true then A else B:=iteF h
theorem cy{A B:Prop}(h:A):if (!false)=true then A else B:=iteT h
theorem Wx{n:Nat}{R:Prop}(h1:n<=sizeLine)(h:R):n<=sizeLine/\R:=⟨h1,h⟩
end
def ForR(vs:List V)(g:TG)(tb:TS)(D:Ends)(σ:St)(H:Hp):Prop:=∃j:Int,vs=[.int j]/\ -(2^62)<=j/\j<2^62 /\
 ∃W:Nat->Nat->St->Hp->Prop,(∃m,W 0 m σ H)/\∀i m σ H,W i m σ H ->
  ((Itr 0 j.toNat).stop i H/\D.nx σ H)\/((Itr 0 j.toNat).go i H/\∃N:St->Hp->Prop,(∀σ' H',N σ' H'->∃m',m' <m/\W (i+1) m' σ' H')/\∀x H',(Itr 0 j.toNat).yld i H x H'->g x σ H' λσ2 H2=>tb { D with nx:=N,ct:=N,bk:=D.nx } σ2 H2)
theorem r_forR{tA:TA}{g:TG}{tb:TS}{D:Ends}{σ:St}{H:Hp}(h:tA σ H λvs H1=>ForR vs g tb D σ H1):tFor (iz tA) g tb D σ H:=h
theorem forR{j:Int}{g:TG}{tb:TS}{n b c:St->Hp->Prop}{r:VK}{σ:St}{H:Hp}(Pv:Nat->St->Hp->Prop)(h1: -(2^62)<=j)(h2:j<2^62)(h0:Pv 0 σ H)
 (hs:∀(i:Nat) σ H,(i:Int)<j->Pv i σ H->g (.int (i:Int)) σ H λσ2 H2=>tb ⟨Pv (i+1),r,n,Pv (i+1)⟩ σ2 H2)(hd:∀σ H,Pv j.toNat σ H->n σ H):ForR [.int j] g tb ⟨n,r,b,c⟩ σ H:=by
 refine⟨j,rfl,h1,h2,?_⟩;refine Hs (lo:=0) (n:=j.toNat) (D:=⟨n,r,b,c⟩) Pv h0 (λi σ H hi p=>?_) hd;rw[Int.zero_add];exact hs i σ H (by omega) p
def ForL(K:PySem.W.Frag)(x:V)(g:TG)(tb:TS)(D:Ends)(σ:St)(H:Hp):Prop:=∃a,x= .ref a/\(∃xs,SqL K H a xs) /\
 ∃W:Nat->Nat->St->Hp->Prop,(∃m,W 0 m σ H)/\∀i m σ H,W i m σ H ->
  ((Itl K a).stop i H/\D.nx σ H)\/((Itl K a).go i H/\∃N:St->Hp->Prop,(∀σ' H',N σ' H'->∃m',m' <m/\W (i+1) m' σ' H')/\∀x H',(Itl K a).yld i H x H'->g x σ H' λσ2 H2=>tb { D with nx:=N,ct:=N,bk:=D.nx } σ2 H2)
theorem r_forL{K:PySem.W.Frag}{te:TE}{g:TG}{tb:TS}{D:Ends}{σ:St}{H:Hp}(h:te σ H λx H1=>ForL K x g tb D σ H1):tFor (vv K te) g tb D σ H:=h
theorem forL{K:PySem.W.Frag}{a:Addr}{xs:List V}{g:TG}{tb:TS}{n b c:St->Hp->Prop}{r:VK}{σ:St}{H:Hp}(Pv:Nat->St->Hp->Prop)(h0:Pv 0 σ H)(hl:∀i σ H,i<=xs.length->Pv i σ H->SqL K H a xs)
 (hs:∀i x σ H,xs[i]?=some x->Pv i σ H->g x σ H λσ2 H2=>tb ⟨Pv (i+1),r,n,Pv (i+1)⟩ σ2 H2)(hd:∀σ H,Pv xs.length σ H->n σ H):ForL K (.ref a) g tb ⟨n,r,b,c⟩ σ H :=
 ⟨a,rfl,⟨xs,hl 0 σ H (Nat.zero_le _) h0⟩,Dv (D:=⟨n,r,b,c⟩) Pv h0 hl hs hd⟩
def Fr1(d:Addr)(H H':Hp):Prop:=∀b o,H b=some o->b≠d->H' b=some o
theorem Fr1.refl(d:Addr)(H:Hp):Fr1 d H H:=λ_ _ h _=>h
theorem Fr1.trans{d:Addr}{H H1 H2:Hp}(a:Fr1 d H H1)(b:Fr1 d H1 H2):Fr1 d H H2:=λc o h n=>b c o (a c o h n) n
theorem Fr1.upd{d:Addr}{H H':Hp}{o:HO}(a:Fr1 d H H'):Fr1 d H (upd H' d o):=λb u h n=>by rw[va n];exact a b u h n
theorem Fr1.new{d p:Addr}{H H':Hp}{o:HO}(a:Fr1 d H H')(e:H' p=none):Fr1 d H (L2.upd H' p o):=λb u h n=>by rw[va (ba (a b u h n) e)];exact a b u h n
theorem Fr1.get{d b:Addr}{H H':Hp}{o:HO}(a:Fr1 d H H')(h:H b=some o)(n:b≠d):H' b=some o:=a b o h n
theorem Same.new{H H':Hp}{p:Addr}{o:HO}(a:Same H H')(e:H' p=none):Same H (upd H' p o):=λb u h=>by rw[va (ba (a b u h) e)];exact a b u h
theorem La{H:Hp}{a b:Addr}{o u:HO}(n:b≠a)(h:H b=some u):upd H a o b=some u:=by rw[va n];exact h
end L2
namespace L2
open PySem PySem.Spec PyProof.Rows
inductive D where
 | v (x:V)
 | t (ds:List D)
 | l (ds:List D)
mutual
def IsD(K:PySem.W.Frag)(H:Hp):D->V->Prop
 | .v x,y=>Ac x=true/\y=x
 | .t ds,y=>∃p xs,y= .ref p/\SqT K H p xs/\IsDs K H ds xs
 | .l ds,y=>∃p xs,y= .ref p/\SqL K H p xs/\IsDs K H ds xs
def IsDs(K:PySem.W.Frag)(H:Hp):List D->List V->Prop
 | [],xs=>xs=[]
 | d::ds,xs=>∃x r,xs=x::r/\IsD K H d x/\IsDs K H ds r
end
mutual
def eqD:D->D->Bool
 | .v a,.v b=>eqV a b
 | .t as,.t bs=>eqDs as bs
 | .l as,.l bs=>eqDs as bs
 | _,_=>false
def eqDs:List D->List D->Bool
 | [],[]=>true
 | a::as,b::bs=>eqD a b&&eqDs as bs
 | _,_=>false
end
mutual
def dep:D->Nat
 | .v _=>0
 | .t ds=>deps ds+1
 | .l ds=>deps ds+1
def deps:List D->Nat
 | []=>0
 | d::ds=>max (dep d) (deps ds)
end
theorem IsDs.length{K:PySem.W.Frag}{H:Hp}:∀{ds:List D} {xs:List V},IsDs K H ds xs->ds.length=xs.length
 | [],xs,h=>by unfold IsDs at h;subst h;rfl
 | d::ds,xs,h=>by
  unfold IsDs at h;obtain⟨x,r,rfl,_,h2⟩:=h;rw[List.length_cons,List.length_cons,IsDs.length h2]
theorem IsDs.get{K:PySem.W.Frag}{H:Hp}:∀{ds:List D} {xs:List V} {j:Nat} {x:V},IsDs K H ds xs->xs[j]?=some x->∃d,ds[j]?=some d/\IsD K H d x
 | [],xs,j,x,h,e=>by unfold IsDs at h;subst h;simp at e
 | d::ds,xs,j,x,h,e=>by
  unfold IsDs at h;obtain⟨y,r,rfl,h1,h2⟩:=h;cases j with
  | zero=>simp at e;subst e;exact⟨d,by simp,h1⟩
  | succ j=>obtain⟨d',q,h3⟩:=IsDs.get (j:=j) (x:=x) h2 (by simpa using e);exact⟨d',by simpa using q,h3⟩
theorem Ai:∀{ds:List D} {j:Nat} {d:D},ds[j]?=some d->dep d<=deps ds
 | [],j,d,e=>by simp at e
 | a::ds,0,d,e=>by simp at e;subst e;unfold deps;exact Nat.le_max_left _ _
 | a::ds,j+1,d,e=>by
  have:=Ai (ds:=ds) (j:=j) (d:=d) (by simpa using e);unfold deps;exact Nat.le_trans this (Nat.le_max_right _ _)
def vm(ds es:List D)(j:Nat):Bool:=match ds[j]?,es[j]? with
 | some d,some e=>eqD d e
 | _,_=>false
theorem Lg:∀(ds es:List D),ds.length=es.length->(List.range ds.length).all (vm ds es)=eqDs ds es
 | [],[],_=>by simp[eqDs]
 | [],_::_,h=>by simp at h
 | _::_,[],h=>by simp at h
 | d::ds,e::es,h=>by
  have ih:=Lg ds es (by simpa using h);unfold eqDs;rw[<-ih,List.length_cons,List.range_succ_eq_map,List.all_cons,List.all_map];have e1:vm (d::ds) (e::es) 0=eqD d e:=by simp[vm]
  rw[e1];congr 1
theorem Qk:∀(ds es:List D),ds.length≠es.length->eqDs ds es=false
 | [],[],h=>absurd rfl h
 | [],_::_,_=>by simp[eqDs]
 | _::_,[],_=>by simp[eqDs]
 | d::ds,e::es,h=>by
  unfold eqDs;rw[Qk ds es (by simpa using h),Bool.and_false]
theorem Gv{x:V}(h:Ac x=true):eqV x x=true:=by
 cases x<;>simp[eqV]<;>cases h
mutual
theorem Hv{K:PySem.W.Frag}{H:Hp}:∀{d:D} {x:V},IsD K H d x->eqD d d=true
 | .v y,x,h=>by unfold IsD at h;unfold eqD;exact Gv h.1
 | .t ds,x,h=>by unfold IsD at h;obtain⟨p,xs,_,_,h⟩:=h;unfold eqD;exact Me h
 | .l ds,x,h=>by unfold IsD at h;obtain⟨p,xs,_,_,h⟩:=h;unfold eqD;exact Me h
theorem Me{K:PySem.W.Frag}{H:Hp}:∀{ds:List D} {xs:List V},IsDs K H ds xs->eqDs ds ds=true
 | [],_,_=>by unfold eqDs;rfl
 | d::ds,xs,h=>by
  unfold IsDs at h;obtain⟨x,r,_,h1,h2⟩:=h;unfold eqDs;rw[Hv h1,Me h2];rfl
end
section
variable {X : Cx} {pins : List (Addr × Obj)} {σ : St} {H : Hp} {s : Shared}
theorem xf{a:Addr}{xs ys:List V}(I:Inv X pins σ H s)(h:SqL X.K H a xs)(h':SqT X.K H a ys):False:=by
 obtain⟨_,_,⟨o,n,e,c,_⟩,_⟩:=I.list h;obtain⟨_,_,⟨o',e',c',_⟩,_⟩:=I.tuple h';rw[e]at e';cases e';rw[c]at c';injection c' with c'
 exact absurd c' (by decide)
mutual
theorem Jn(I:Inv X pins σ H s):∀{d e:D} {x:V},IsD X.K H d x->IsD X.K H e x->d=e
 | .v y,e,x,h,h'=>by
  unfold IsD at h;obtain⟨f,rfl⟩:=h;cases e with
  | v z=>unfold IsD at h';rw[h'.2]
  | t es=>unfold IsD at h';obtain⟨p,_,rfl,_⟩:=h';cases f
  | l es=>unfold IsD at h';obtain⟨p,_,rfl,_⟩:=h';cases f
 | .t ds, e, x, h, h' => by
  unfold IsD at h;obtain⟨p,xs,rfl,hs,hd⟩:=h;cases e with
  | v z=>unfold IsD at h';obtain⟨f,q⟩:=h';subst q;cases f
  | t es =>
   unfold IsD at h';obtain⟨p',xs',q,hs',hd'⟩:=h';cases q;have:=I.Fl hs hs';subst this;rw[Nk I hd hd']
  | l es =>
   unfold IsD at h';obtain⟨p',xs',q,hs',hd'⟩:=h';cases q;exact(xf I hs' hs).elim
 | .l ds, e, x, h, h' => by
  unfold IsD at h;obtain⟨p,xs,rfl,hs,hd⟩:=h;cases e with
  | v z=>unfold IsD at h';obtain⟨f,q⟩:=h';subst q;cases f
  | t es =>
   unfold IsD at h';obtain⟨p',xs',q,hs',hd'⟩:=h';cases q;exact(xf I hs hs').elim
  | l es =>
   unfold IsD at h';obtain⟨p',xs',q,hs',hd'⟩:=h';cases q;have:=I.Fo hs hs';subst this;rw[Nk I hd hd']
theorem Nk(I:Inv X pins σ H s):∀{ds es:List D} {xs:List V},IsDs X.K H ds xs->IsDs X.K H es xs->ds=es
 | [],es,xs,h,h'=>by
  unfold IsDs at h;subst h;cases es with
  | nil=>rfl
  | cons e es=>unfold IsDs at h';obtain⟨x,r,q,_⟩:=h';cases q
 | d :: ds, es, xs, h, h' => by
  unfold IsDs at h;obtain⟨x,r,rfl,h1,h2⟩:=h;cases es with
  | nil=>unfold IsDs at h';cases h'
  | cons e es =>
   unfold IsDs at h';obtain⟨x',r',q,h3,h4⟩:=h';cases q;rw[Jn I h1 h3,Nk I h2 h4]
end
theorem Lo{A:Around}{ds es:List D}{xs ys:List V}{us vs:List Value}(hd:IsDs X.K H ds xs)(he:IsDs X.K H es ys)(rx:Vals xs us)(ry:Vals ys vs)
 (ih:∀d e x y u v,dep d<=deps ds->IsD X.K H d x->IsD X.K H e y->RelV x u->RelV y v->SeqAt.EqAt A s u v (eqD d e)) :
 ∀j (h1:j<us.toArray.size) (h2:j<vs.toArray.size),SeqAt.EqAt A s us.toArray[j] vs.toArray[j] (vm ds es j):=by
 intro j h1 h2;have h1':j<us.length:=by simpa using h1
 have h2':j<vs.length:=by simpa using h2
 obtain⟨x,ex⟩:∃x,xs[j]?=some x:=⟨xs[j]'(by rw[rx.length];exact h1'),List.getElem?_eq_getElem _⟩
 obtain⟨y,ey⟩:∃y,ys[j]?=some y:=⟨ys[j]'(by rw[ry.length];exact h2'),List.getElem?_eq_getElem _⟩
 obtain⟨u,eu,ru⟩:=rx.get ex;obtain⟨v,ev,rv⟩:=ry.get ey;obtain⟨d,ed,id1⟩:=hd.get ex;obtain⟨e,ee,id2⟩:=he.get ey;have q1:us.toArray[j]=u:=by
  rw[List.getElem?_eq_getElem h1']at eu;simpa using Option.some.inj eu
 have q2:vs.toArray[j]=v:=by
  rw[List.getElem?_eq_getElem h2']at ev;simpa using Option.some.inj ev
 rw[q1,q2];have q3:vm ds es j=eqD d e:=by unfold vm;rw[ed,ee]
 rw[q3];exact ih d e x y u v (Ai ed) id1 id2 ru rv
theorem Ao{A:Around}{ds es:List D}{xs ys:List V}{p q:Addr}(I:Inv X pins σ H s)(hp:SqL X.K H p xs)(hq:SqL X.K H q ys)(hd:IsDs X.K H ds xs)(he:IsDs X.K H es ys)(hu:A.units<cLine)
 (ih:∀d e x y u v,dep d<=deps ds->IsD X.K H d x->IsD X.K H e y->RelV x u->RelV y v->SeqAt.EqAt A.in1 s u v (eqD d e)):SeqAt.RcAt A s (.ref p) (.ref q) (eqDs ds es)/\SeqAt.RcNeAt A s (.ref p) (.ref q) (!eqDs ds es):=by
 obtain⟨us,rx,lp,_⟩:=I.list hp;obtain⟨vs,ry,lq,_⟩:=I.list hq;have l1:=hd.length;have l2:=he.length;have l3:=rx.length;have l4:=ry.length;by_cases hl:ds.length=es.length
 . have it:=Lo (A:=A.in1) hd he rx ry ih
   have sz:us.toArray.size=vs.toArray.size:=by simp only[List.size_toArray];omega
   have e1:(List.range us.toArray.size).all (vm ds es)=eqDs ds es:=by
    have:us.toArray.size=ds.length:=by simp only[List.size_toArray];omega
    rw[this];exact Lg ds es hl
   have a:=SeqAt.RcAt.lists lp.isList lq.isList sz hu it;have b:=SeqAt.RcNeAt.lists lp.isList lq.isList sz hu it;rw[e1]at a b;exact⟨a,b⟩
 . have sz:(us.toArray.size !=vs.toArray.size)=true:=by
    simp only[List.size_toArray,bne_iff_ne,ne_eq];omega
   rw[Qk ds es hl];exact⟨SeqAt.RcAt.lists_lengths lp.isList lq.isList sz hu,SeqAt.RcNeAt.lists_lengths lp.isList lq.isList sz hu⟩
theorem Sl{A:Around}{ds es:List D}{xs ys:List V}{p q:Addr}(I:Inv X pins σ H s)(hp:SqT X.K H p xs)(hq:SqT X.K H q ys)(hd:IsDs X.K H ds xs)(he:IsDs X.K H es ys)(hu:A.units<cLine)
 (ih:∀d e x y u v,dep d<=deps ds->IsD X.K H d x->IsD X.K H e y->RelV x u->RelV y v->SeqAt.EqAt A.in1 s u v (eqD d e)):SeqAt.RcAt A s (.ref p) (.ref q) (eqDs ds es)/\SeqAt.RcNeAt A s (.ref p) (.ref q) (!eqDs ds es):=by
 obtain⟨us,rx,lp,_⟩:=I.tuple hp;obtain⟨vs,ry,lq,_⟩:=I.tuple hq;have l1:=hd.length;have l2:=he.length;have l3:=rx.length;have l4:=ry.length;have it:=Lo (A:=A.in1) hd he rx ry ih;have a:=SeqAt.RcAt.tuples (A:=A) (s:=s) lp lq hu it;have b:=SeqAt.RcNeAt.tuples (A:=A) (s:=s) lp lq hu it;have e1:((List.range (min us.toArray.size vs.toArray.size)).all (vm ds es)&&us.toArray.size==vs.toArray.size)=eqDs ds es:=by
  by_cases hl:ds.length=es.length
  . have q1:min us.toArray.size vs.toArray.size=ds.length:=by simp only[List.size_toArray];omega
    have q2:(us.toArray.size==vs.toArray.size)=true:=by simp only[List.size_toArray,beq_iff_eq];omega
    rw[q1,q2,Bool.and_true];exact Lg ds es hl
  . have q2:(us.toArray.size==vs.toArray.size)=false:=by simp only[List.size_toArray,beq_eq_false_iff_ne,ne_eq];omega
    rw[q2,Bool.and_false,Qk ds es hl]
 rw[e1]at a b;exact⟨a,b⟩
theorem Sx{A:Around}{y x:V}{u v:Value}(ry:RelV y u)(rx:RelV x v)(fy:Ac y=true)(fx:Ac x=true):SeqAt.RcAt A s u v (eqV y x)/\SeqAt.RcNeAt A s u v (!eqV y x):=by
 cases y with
 | non =>
  cases ry;cases x with
  | non=>cases rx;exact⟨SeqAt.RcAt.none_none,SeqAt.RcNeAt.none_none⟩
  | bl b=>cases rx;exact⟨SeqAt.RcAt.none_bool b,SeqAt.RcNeAt.none_bool b⟩
  | int b=>obtain⟨t,rfl⟩:=rx;exact⟨SeqAt.RcAt.none_int b t,SeqAt.RcNeAt.none_int b t⟩
  | str b=>obtain⟨t,rfl⟩:=rx;exact⟨SeqAt.RcAt.none_str b t,SeqAt.RcNeAt.none_str b t⟩
  | _=>exact absurd (show false=true from fx) Bool.false_ne_true
 | bl a =>
  cases ry;cases x with
  | non=>cases rx;exact⟨SeqAt.RcAt.bool_none a,SeqAt.RcNeAt.bool_none a⟩
  | bl b=>cases rx;exact⟨SeqAt.RcAt.bool_bool a b,SeqAt.RcNeAt.bool_bool a b⟩
  | int b=>obtain⟨t,rfl⟩:=rx;exact⟨SeqAt.RcAt.bool_int a b t,SeqAt.RcNeAt.bool_int a b t⟩
  | str b=>obtain⟨t,rfl⟩:=rx;exact⟨SeqAt.RcAt.bool_str a b t,SeqAt.RcNeAt.bool_str a b t⟩
  | _=>exact absurd (show false=true from fx) Bool.false_ne_true
 | int a =>
  obtain⟨t',rfl⟩:=ry;cases x with
  | non=>cases rx;exact⟨SeqAt.RcAt.int_none a t',SeqAt.RcNeAt.int_none a t'⟩
  | bl b=>cases rx;exact⟨SeqAt.RcAt.int_bool a t' b,SeqAt.RcNeAt.int_bool a t' b⟩
  | int b=>obtain⟨t,rfl⟩:=rx;exact⟨SeqAt.RcAt.int_int a t' b t,SeqAt.RcNeAt.int_int a t' b t⟩
  | str b=>obtain⟨t,rfl⟩:=rx;exact⟨SeqAt.RcAt.int_str a t' b t,SeqAt.RcNeAt.int_str a t' b t⟩
  | _=>exact absurd (show false=true from fx) Bool.false_ne_true
 | str a =>
  obtain⟨t',rfl⟩:=ry;cases x with
  | non=>cases rx;exact⟨SeqAt.RcAt.str_none a t',SeqAt.RcNeAt.str_none a t'⟩
  | bl b=>cases rx;exact⟨SeqAt.RcAt.str_bool a t' b,SeqAt.RcNeAt.str_bool a t' b⟩
  | int b=>obtain⟨t,rfl⟩:=rx;exact⟨SeqAt.RcAt.str_int a t' b t,SeqAt.RcNeAt.str_int a t' b t⟩
  | str b=>obtain⟨t,rfl⟩:=rx;exact⟨SeqAt.RcAt.str_str a t' b t,SeqAt.RcNeAt.str_str a t' b t⟩
  | _=>exact absurd (show false=true from fx) Bool.false_ne_true
 | _=>exact absurd (show false=true from fy) Bool.false_ne_true
theorem Qd{A:Around}{p:Addr}{xs:List V}{x:V}{v:Value}(I:Inv X pins σ H s)(hp:SqT X.K H p xs)(rx:RelV x v)(fx:Ac x=true)(hu:A.units<cLine):SeqAt.EqAt A s (.ref p) v false/\SeqAt.EqAt A s v (.ref p) false:=by
 obtain⟨us,_,lp,_⟩:=I.tuple hp;cases x with
 | non=>cases rx;exact⟨SeqAt.EqAt.tuple_none lp hu,SeqAt.EqAt.none_tuple lp hu⟩
 | bl b=>cases rx;exact⟨SeqAt.EqAt.tuple_bool b lp hu,SeqAt.EqAt.bool_tuple b lp hu⟩
 | int b=>obtain⟨t,rfl⟩:=rx;exact⟨SeqAt.EqAt.tuple_int b t lp hu,SeqAt.EqAt.int_tuple b t lp hu⟩
 | str b=>obtain⟨t,rfl⟩:=rx;exact⟨SeqAt.EqAt.tuple_str b t lp hu,SeqAt.EqAt.str_tuple b t lp hu⟩
 | _=>exact absurd (show false=true from fx) Bool.false_ne_true
theorem Le{A:Around}{p:Addr}{xs:List V}{x:V}{v:Value}(I:Inv X pins σ H s)(hp:SqL X.K H p xs)(rx:RelV x v)(fx:Ac x=true)(hu:A.units<cLine):SeqAt.EqAt A s (.ref p) v false/\SeqAt.EqAt A s v (.ref p) false:=by
 obtain⟨us,_,lp,_⟩:=I.list hp;cases x with
 | non=>cases rx;exact⟨SeqAt.EqAt.list_none lp.isList hu,SeqAt.EqAt.none_list lp.isList hu⟩
 | bl b=>cases rx;exact⟨SeqAt.EqAt.list_bool b lp.isList hu,SeqAt.EqAt.bool_list b lp.isList hu⟩
 | int b=>obtain⟨t,rfl⟩:=rx;exact⟨SeqAt.EqAt.list_int b t lp.isList hu,SeqAt.EqAt.int_list b t lp.isList hu⟩
 | str b=>obtain⟨t,rfl⟩:=rx;exact⟨SeqAt.EqAt.list_str b t lp.isList hu,SeqAt.EqAt.str_list b t lp.isList hu⟩
 | _=>exact absurd (show false=true from fx) Bool.false_ne_true
theorem Jw(I:Inv X pins σ H s):∀(n:Nat) (d e:D) (x y:V) (u v:Value) (A:Around),dep d<=n->A.units+n<cLine->IsD X.K H d x->IsD X.K H e y->RelV x u->RelV y v->SeqAt.EqAt A s u v (eqD d e):=by
 intro n
 induction n with
 | zero =>
  intro d e x y u v A hn hu h h' ru rv;cases d with
  | t ds=>unfold dep at hn;omega
  | l ds=>unfold dep at hn;omega
  | v x' =>
   unfold IsD at h;obtain⟨fx,rfl⟩:=h;cases e with
   | v y'=>unfold IsD at h';obtain⟨fy,rfl⟩:=h';unfold eqD;exact Ls ru rv fx fy
   | t es=>unfold IsD at h';obtain⟨p,ys,rfl,hs,_⟩:=h';cases rv;unfold eqD;exact(Qd I hs ru fx (by omega)).2
   | l es=>unfold IsD at h';obtain⟨p,ys,rfl,hs,_⟩:=h';cases rv;unfold eqD;exact(Le I hs ru fx (by omega)).2
 | succ n ihn =>
  intro d e x y u v A hn hu h h' ru rv;have hin:A.in1.units=A.units+1:=rfl;cases d with
  | v x' =>
   unfold IsD at h;obtain⟨fx,rfl⟩:=h;cases e with
   | v y'=>unfold IsD at h';obtain⟨fy,rfl⟩:=h';unfold eqD;exact Ls ru rv fx fy
   | t es=>unfold IsD at h';obtain⟨p,ys,rfl,hs,_⟩:=h';cases rv;unfold eqD;exact(Qd I hs ru fx (by omega)).2
   | l es=>unfold IsD at h';obtain⟨p,ys,rfl,hs,_⟩:=h';cases rv;unfold eqD;exact(Le I hs ru fx (by omega)).2
  | t ds =>
   have hd0:=h;unfold IsD at h;obtain⟨p,xs,rfl,hs,hd⟩:=h;cases ru;unfold dep at hn;cases e with
   | v y'=>unfold IsD at h';obtain⟨fy,rfl⟩:=h';unfold eqD;exact(Qd I hs rv fy (by omega)).1
   | t es =>
    have hd0':=h';unfold IsD at h';obtain⟨q,ys,rfl,hs',hd'⟩:=h';cases rv;unfold eqD;by_cases hpq:p=q
    . subst hpq
      have e1:=Jn I hd0 hd0';injection e1 with e1
      subst e1;rw[Me hd];exact SeqAt.EqAt.same _
    . exact .of_refs hpq (Sl I hs hs' hd hd' (by omega) λd e x y u v hj h1 h2 r1 r2=>ihn d e x y u v A.in1 (by omega) (by omega) h1 h2 r1 r2).1
   | l es =>
    unfold IsD at h';obtain⟨q,ys,rfl,hs',hd'⟩:=h';cases rv;unfold eqD;obtain⟨_,_,lp,_⟩:=I.tuple hs;obtain⟨_,_,lq,_⟩:=I.list hs';exact SeqAt.EqAt.tuple_list lp lq.isList (by omega)
  | l ds =>
   have hd0:=h;unfold IsD at h;obtain⟨p,xs,rfl,hs,hd⟩:=h;cases ru;unfold dep at hn;cases e with
   | v y'=>unfold IsD at h';obtain⟨fy,rfl⟩:=h';unfold eqD;exact(Le I hs rv fy (by omega)).1
   | l es =>
    have hd0':=h';unfold IsD at h';obtain⟨q,ys,rfl,hs',hd'⟩:=h';cases rv;unfold eqD;by_cases hpq:p=q
    . subst hpq
      have e1:=Jn I hd0 hd0';injection e1 with e1
      subst e1;rw[Me hd];exact SeqAt.EqAt.same _
    . exact .of_refs hpq (Ao I hs hs' hd hd' (by omega) λd e x y u v hj h1 h2 r1 r2=>ihn d e x y u v A.in1 (by omega) (by omega) h1 h2 r1 r2).1
   | t es =>
    unfold IsD at h';obtain⟨q,ys,rfl,hs',hd'⟩:=h';cases rv;unfold eqD;obtain⟨_,_,lp,_⟩:=I.list hs;obtain⟨_,_,lq,_⟩:=I.tuple hs';exact SeqAt.EqAt.list_tuple lp.isList lq (by omega)
def Px:D->D->Bool
 | .v _,.v _=>true
 | .t _,.t _=>true
 | .l _,.l _=>true
 | _,_=>false
def rEqD(K:PySem.W.Frag)(neg:Bool):R2:=λx y H Q=>∃d e,Px d e=true/\dep d<=40/\IsD K H d x/\IsD K H e y/\Q (.bl (if neg then !eqD d e else eqD d e)) H
theorem rc_D(I:Inv X pins σ H s){d e:D}{x y:V}{u v:Value}{A:Around}(hk:Px d e=true)(hn:dep d<=40)(hu:A.units+64<cLine)(h:IsD X.K H d x)(h':IsD X.K H e y)(ru:RelV x u)(rv:RelV y v) :
 SeqAt.RcAt A s u v (eqD d e)/\SeqAt.RcNeAt A s u v (!eqD d e):=by
 have hin:A.in1.units=A.units+1:=rfl;cases d with
 | v x' =>
  cases e with
  | v y'=>unfold IsD at h h';obtain⟨fx,rfl⟩:=h;obtain⟨fy,rfl⟩:=h';unfold eqD;exact Sx ru rv fx fy
  | t es=>cases hk
  | l es=>cases hk
 | t ds =>
  cases e with
  | v y'=>cases hk
  | l es=>cases hk
  | t es =>
   unfold IsD at h h';obtain⟨p,xs,rfl,hs,hd⟩:=h;obtain⟨q,ys,rfl,hs',hd'⟩:=h';cases ru;cases rv;unfold dep at hn;unfold eqD;exact Sl I hs hs' hd hd' (by omega) λd e x y u v hj h1 h2 r1 r2=>Jw I 40 d e x y u v A.in1 (by omega) (by omega) h1 h2 r1 r2
 | l ds =>
  cases e with
  | v y'=>cases hk
  | t es=>cases hk
  | l es =>
   unfold IsD at h h';obtain⟨p,xs,rfl,hs,hd⟩:=h;obtain⟨q,ys,rfl,hs',hd'⟩:=h';cases ru;cases rv;unfold dep at hn;unfold eqD;exact Ao I hs hs' hd hd' (by omega) λd e x y u v hj h1 h2 r1 r2=>Jw I 40 d e x y u v A.in1 (by omega) (by omega) h1 h2 r1 r2
end
section
variable {X : Cx}
theorem op_eqD(hu:X.A.units+64<cLine):OpR X (compareOp .Eq) (rEqD X.K false):=by
 intro pins s σ H x y v u Q I rx ry h;obtain⟨d,e,hk,hn,h1,h2,q⟩:=h;exact(rc_D I hk hn hu h1 h2 rx ry).1 _ _ _ _ ⟨.bl (eqD d e),H,I,rfl,q⟩
theorem op_neD(hu:X.A.units+64<cLine):OpR X (compareOp .NotEq) (rEqD X.K true):=by
 intro pins s σ H x y v u Q I rx ry h;obtain⟨d,e,hk,hn,h1,h2,q⟩:=h;exact(rc_D I hk hn hu h1 h2 rx ry).2 _ _ _ _ ⟨.bl (!eqD d e),H,I,rfl,q⟩
def Fu(K:PySem.W.Frag):R2:=λx y H Q=>rI0 (λi j=>.int (i+j)) x y H Q\/rCat x y H Q\/rCatT K x y H Q\/(∃i j,x= .str i/\y= .str j/\i.length+j.length<=sizeLine/\Q (.str (i++j)) H)
theorem Oy:OpR X (binaryOp .Add) (Fu X.K):=op_add.or (op_cat.or (Lr.or yj))
def Eu:R2:=λx y H Q=>rI xh (λi j=>.int (i*j)) x y H Q\/rRep x y H Q
theorem Mf:OpR X (binaryOp .Mult) Eu:=My.or op_rep
def rEqA(K:PySem.W.Frag):R2:=λx y H Q=>rEq x y H Q\/rEqD K false x y H Q
theorem op_eqA(hu:X.A.units+64<cLine):OpR X (compareOp .Eq) (rEqA X.K):=op_eq.or (op_eqD hu)
def rNeA(K:PySem.W.Frag):R2:=λx y H Q=>rNe x y H Q\/rEqD K true x y H Q
theorem op_neA(hu:X.A.units+64<cLine):OpR X (compareOp .NotEq) (rNeA X.K):=op_ne.or (op_neD hu)
def rIx2(K:PySem.W.Frag):R2:=λx y H Q=>rIxL K x y H Q\/rIxT K x y H Q
theorem ix_2:IxR X (rIx2 X.K):=dz.or ix_tup
end
section
variable {K : PySem.W.Frag} {H : Hp} {Q : VK} {v : V}
theorem r_addI{p q:Int}(h:Q (.int (p+q)) H):Fu K (.int p) (.int q) H Q:=.inl (uu h)
theorem r_addL{a b:Addr}{xs ys:List V}(h1:H a=some (.lst xs))(h2:H b=some (.lst ys))(h3:xs.length+ys.length<=sizeLine)(h:∀p,H p=none->Q (.ref p) (upd H p (.lst (xs++ys)))):Fu K (.ref a) (.ref b) H Q:=.inr (.inl ⟨a,b,xs,ys,rfl,rfl,h1,h2,h3,h⟩)
theorem Vq{p q:Int}(hc:xh p q)(h:Q (.int (p*q)) H):Eu (.int p) (.int q) H Q:=.inl (r_rI hc h)
theorem r_eqI{p q:Int}(h:Q (.bl (decide (p=q))) H):rEqA K (.int p) (.int q) H Q:=.inl (r_rEqI h)
theorem r_neI{p q:Int}(h:Q (.bl (!decide (p=q))) H):rNeA K (.int p) (.int q) H Q:=.inl (r_rNeI h)
theorem r_eqB{p q:Bool}(h:Q (.bl (p==q)) H):rEqA K (.bl p) (.bl q) H Q:=.inl (r_rEqB h)
theorem r_neB{p q:Bool}(h:Q (.bl (p !=q)) H):rNeA K (.bl p) (.bl q) H Q:=.inl (r_rNeB h)
theorem r_eqS{p q:Str}(h:Q (.bl (decide (p=q))) H):rEqA K (.str p) (.str q) H Q:=.inl (r_rEqS h)
theorem r_neS{p q:Str}(h:Q (.bl (!decide (p=q))) H):rNeA K (.str p) (.str q) H Q:=.inl (r_rNeS h)
theorem dw{x y:V}(d e:D)(hk:Px d e=true)(hn:dep d<=40)(h1:IsD K H d x)(h2:IsD K H e y)(h:Q (.bl (!eqD d e)) H):rNeA K x y H Q:=.inr ⟨d,e,hk,hn,h1,h2,h⟩
theorem gc{p:Addr}{xs:List V}{k:Int}(h1:H p=some (.lst xs))(h2:atI xs k=some v)(h:Q v H):rIx2 K (.ref p) (.int k) H Q:=.inl (r_ixL h1 h2 h)
theorem uf{p:Addr}{xs:List V}{k:Int}(h1:H p=some (.tup xs))(h2:atI xs k=some v)(h:Q v H):rIx2 K (.ref p) (.int k) H Q:=.inr (r_ixT h1 h2 h)
end
def tTru(K:PySem.W.Frag)(ta:TE):TT:=λσ H Q=>ta σ H λx H'=>∃k,TruV K x H' k/\Q k H'
theorem pt_tru{X:Cx}{a:Expr}{ta:TE}(ha:PE X a ta)(he:∀whole,isTrue a X.env whole=(do let v<-whole;standAt a.pos;holding [v] (truthy v)):=by intro _;first|rfl|with_unfolding_all rfl):PT X a (tTru X.K ta):=Gu ha he
section
variable {K : PySem.W.Frag} {H : Hp} {σ : St} {QB : Bool -> Hp -> Prop} {te : TE}
theorem r_tru(h:te σ H λx H'=>∃k,TruV K x H' k/\QB k H'):tTru K te σ H QB:=h
theorem r_truB{b:Bool}{P:Bool->Prop}(h:P b):∃k,TruV K (.bl b) H k/\P k:=⟨b,rfl,h⟩
theorem r_truT{p:Addr}{xs:List V}{P:Bool->Prop}(h1:H p=some (.tup xs))(h:P (!xs.isEmpty)):∃k,TruV K (.ref p) H k/\P k:=⟨_,.inr (.inl ⟨xs,SqT.of h1,rfl⟩),h⟩
end
end L2
namespace L2
open PySem PySem.Spec PyProof.Rows
section
variable {H : Hp} {Q : VK}
theorem Xx(h:Q (.int 1000000000000000000) H):rI CPow (λi j=>.int (i^j.toNat)) (.int 10) (.int 18) H Q:=⟨10,18,rfl,rfl,⟨by decide,by decide,by decide⟩,h⟩
end
theorem Ik{H:Hp}{a b:Addr}{o u:HO}(h:H a=some o)(h':H b=some u)(d:o≠u):a≠b:=zc h h' d
theorem Nj{xs ys:List V}:HO.tup xs≠HO.lst ys:=λh=>HO.noConfusion h
theorem atI_in{α:Type}{xs:List α}{i:Int}(h0:0<=i)(h1:i<xs.length):atI xs i=xs[i.toNat]?:=by
 unfold atI ixN;rw[if_pos h0,if_pos h1];rfl
theorem Qv{ns:List Int}{i:Int}(h0:0<=i)(h1:i<ns.length):atI (ns.map V.int) i=some (.int (ns.getD i.toNat 0)):=by
 rw[atI_in h0 (by rw[List.length_map];exact h1),List.getElem?_map,List.getD_eq_getElem?_getD];have:i.toNat<ns.length:=by omega
 rw[List.getElem?_eq_getElem this];rfl
theorem up_mk{K:PySem.W.Frag}{h:Heap}{mg:Str->Option Value}{x:Str}{st:Stmt}{ps:List Str}{f:Addr}{oc:Value}{od an:Option Addr}{osl:Array (Option Value)}{kV doc pm cdv ct:Value}(X:K.In h)(G:h.Ns mainGlobals mg)
 (a:PySem.W.nsIn K mainGlobals x=some (some (.ref f)))(l:K.lookup f=some ⟨oc,od,.func (PySem.W.fnOf x x (xc st) (qa st) (la st) .none kV doc pm an cdv ct),osl⟩)
 (c:PySem.W.codeIn K cdv x=true)(k:PySem.W.keepIn K (.ref f)=true)
 (b:∀(kV doc pm:Value) (an:Option Addr) (cdv ct:Value) (us:List Value),us.length=ps.length->bindArgs (PySem.W.fnOf x x (xc st) (qa st) (la st) .none kV doc pm an cdv ct) ⟨us,[]⟩=pure (ps.zip us)):Up K mg x st ps:=by
 have F:=um (x:=x) (qual:=x) (st:=st) l c k;exact⟨f,_,F,PySem.W.mg_of X G a,F.binds b⟩
def Aq(K:PySem.W.Frag):Sp:=λvs H Q _=>∃(a:Addr) (ns:List Int),vs=[.ref a]/\SqL K H a (ns.map V.int)/\ns.length<=63/\∀H',Q (.bl true) H'
theorem zq{K:PySem.W.Frag}{vs:List V}{H:Hp}{Q:VK}{E:XK}(h:Aq K vs H Q E):vs.length=1:=by
 obtain⟨a,ns,rfl,_⟩:=h;rfl
theorem walkC{l:PySem.W.OpenLaw}{k:Nat}{q:Program}{loose:List Str}{XP:(Str->Option Value)->Heap->Prop}{YP:World->Heap->Prop}{d:DefRec}{K:Params->PySem.W.Frag}{x:Str}(hn:l.most=some 63)(hdf:d.params.defaults=[])(hr:Room k callerA)
 (hY:∀(w:World) (h:Heap),YP w h->(K w.params).In h)
 (F:∀(w:World) (mg:Str->Option Value) (fa:Addr) (h:Heap),(K w.params).In h->h.Ns mainGlobals mg->mg d.name=some (.ref fa) ->
   ∃fd:FuncData,(∀(s:Shared) (u:Value),BindsTo s fd ⟨[u],[]⟩ [(x,u)])/\∀base:Heap,(K w.params).In base->base.Ns mainGlobals mg->FnOk l.prog w (K w.params) mg base CX0 k fa fd [x] (Aq (K w.params))) :
 PySem.W.WalkO q loose XP YP l.row.toRowW d [] (λf vs=>PySem.call f vs) :=
 L2.Rw (n:=63) (k:=k) (x:=x) (CX:=λ_=>CX0) (sp:=λw=>Aq (K w.params)) hn (by decide) hdf hr hY F (λ_ _ a ns hl _ hS=>⟨a,ns,rfl,hS,hl,λ_=>rfl⟩) λ_ _ _ _ _ z=>z
theorem law_fn{P:Program}{w:World}{K:PySem.W.Frag}{mg:Str->Option Value}{fa:Addr}{k:Nat}{x p:Str}{st:Stmt}(U:Up K mg x st [p])(hfa:mg x=some (.ref fa)){sp:Sp}
 (C:∀base:Heap,K.In base->base.Ns mainGlobals mg->∀(f:Addr) (fd:FuncData),Fun K x x st f fd->FnOk P w K mg base CX0 k f fd [p] sp)
 (hb:∀(kV doc pm:Value) (an:Option Addr) (cdv ct:Value) (s:Shared) (u:Value),BindsTo s (PySem.W.fnOf x x (xc st) (qa st) (la st) .none kV doc pm an cdv ct) ⟨[u],[]⟩ [(p,u)]) :
 ∃fd:FuncData,(∀(s:Shared) (u:Value),BindsTo s fd ⟨[u],[]⟩ [(p,u)])/\∀base:Heap,K.In base->base.Ns mainGlobals mg->FnOk P w K mg base CX0 k fa fd [p] sp:=by
 obtain⟨f,fd,F,hm,_⟩:=U.ex;have e:=hfa.symm.trans hm;cases e;refine⟨fd,λs u=>?_,λbase kb nb=>C base kb nb _ fd F⟩;obtain⟨oc,od,kV,doc,pm,an,cdv,ct,osl,rfl,_⟩:=F.ex;exact hb kV doc pm an cdv ct s u
end L2
namespace HT
open PySem PyProof.Rows
def lexLe:List Int->List Int->Bool
 | [],_=>true
 | _::_,[]=>false
 | x::xs,y::ys=>if x=y then lexLe xs ys else decide (x<=y)
theorem Vp(x y:Int)(xs ys:List Int):lexLe (x::xs) (y::ys)=if x=y then lexLe xs ys else decide (x<=y):=rfl
theorem Xr(ys:List Int):lexLe [] ys=true:=by cases ys<;>rfl
theorem jj(x:Int)(xs:List Int):lexLe (x::xs) []=false:=rfl
theorem nu(A:Around)(s:Shared)(a:Int)(t:Tok)(c:Int)(u:Tok)(prog:Program)(w:World)(E:Value->Shared->Prop)(Q:Value->Shared->Prop)(h:Q (.bool (decide (a<=c))) s) :
 wpAny (model prog w) A (richCompare .LtE (.int a t) (.int c u)) Q E s :=
 (PyProof.Rows.le_int h:wpAny (model prog w) A (compareOp .LtE (.int a t) (.int c u)) Q E s)
section
open PySem.SeqAt
open PySem.AutoSeq1 (wpAny_loadPart')
open PySem.MeetsSeq PySem.MeetsSeq2 PySem.MeetsSeq3
theorem Mj(l b:Addr)(items items2:Array Value)(n n2:Nat)(dd dd2:Option Addr)(sl sl2:Array (Option Value))(ns ms:List Int)(hi:IntsAre items.toList ns)(hj:IntsAre items2.toList ms) :
 Meets (Builtin.«tuple.__le__» ⟨[.ref l,.ref b],[]⟩)
  (λ_ R s=>s.heap.get? l=some { cls:=.type "tuple",dict:=dd,data:=.seq items n,slots:=sl }/\s.heap.get? b=some { cls:=.type "tuple",dict:=dd2,data:=.seq items2 n2,slots:=sl2 } /\
    R (.ok (.ret (.bool (lexLe ns ms)))) s) :=
 .of_wp λprog w A R s h=>by
  obtain⟨hp,g,d,tk,os⟩:=s;obtain⟨hl,hb,h⟩:=h;have f2:=AutoSeq1.sub_tuple_tuple;have z1:items.size=ns.length:=by rw[<-hi.length];simp
  have z2:items2.size=ms.length:=by rw[<-hj.length];simp
  wp_walk using wpAny_loadPart' hl,wpAny_loadPart' hb,wpAny_forIn_list _ (λrest b s'=>b.1=none/\s'=⟨hp,g,d,tk,os⟩/\∃(vs ws:List Value) (ns' ms':List Int),rest=vs.zip ws /\
   IntsAre vs ns'/\IntsAre ws ms'/\ns'.length+items2.size=ms'.length+items.size/\R (.ok (.ret (.bool (lexLe ns' ms')))) ⟨hp,g,d,tk,os⟩) _
  case turn =>
   rintro⟨y,x⟩ rest b s' ⟨hb',rfl,vs,ws,ns',ms',hz,hvi,hwi,hlen,hR⟩
   cases hvi with
   | nil=>rw[List.zip_nil_left]at hz;cases hz
   | cons a t hvi' =>
    cases hwi with
    | nil=>rw[List.zip_nil_right]at hz;cases hz
    | cons c u hwi' =>
     rw[List.zip_cons_cons]at hz;injection hz with hyx hrest
     injection hyx with hy hx
     subst hy hx;rw[Vp]at hR;simp only[List.length_cons]at hlen;obtain⟨e,he,hiff⟩:=Mo A.in1 ⟨hp,g,d,tk,os⟩ a t c u;refine wpAny_bind (he prog w _ _ ?_);cases e with
     | true =>
      rw[if_pos (hiff.mp rfl)]at hR;wp_walk
      exact⟨rfl,rfl,_,_,_,_,hrest,hvi',hwi',by omega,hR⟩
     | false =>
      rw[if_neg (λq=>absurd (hiff.mpr q) Bool.false_ne_true)]at hR;have hri:=nu A.in1 ⟨hp,g,d,tk,os⟩ a t c u prog w;wp_walk using hri
      exact⟨_,rfl,by simpa using hR⟩
  case fin =>
   rintro⟨b1,b2⟩ s' ⟨hb',rfl,vs,ws,ns',ms',hz,hvi,hwi,hlen,hR⟩
   simp only at hb';subst hb';have hv:lexLe ns' ms'=decide (items.size<=items2.size):=by
    cases hvi with
    | nil =>
     rw[Xr];simp only[List.length_nil]at hlen;exact(decide_eq_true (by omega)).symm
    | cons a t hv =>
     cases hwi with
     | nil =>
      simp only[List.length_nil,List.length_cons]at hlen;rw[jj];exact(decide_eq_false (by omega)).symm
     | cons c u hw =>
      rw[List.zip_cons_cons]at hz;cases hz
   rw[hv]at hR;wp_walk
   exact⟨_,rfl,by simpa[Builtin.Tuple.tupleCompareSizes] using hR⟩
  case h =>
   exact⟨rfl,rfl,items.toList,items2.toList,ns,ms,rfl,hi,hj,by omega,h⟩
end
section
variable {prog : Program} {w : World} {A : Around} {E : Value -> Shared -> Prop} {s : Shared}
theorem Xp{l b:Addr}{items items2:Array Value}{ns ms:List Int}{Q:Value->Shared->Prop}(hl:IsTup s.heap l items)(hb:IsTup s.heap b items2)(hi:IntsAre items.toList ns)(hj:IntsAre items2.toList ms)
 (hu:A.units<cLine)(h:Q (.bool (lexLe ns ms)) s):wpAny (model prog w) A (compareOp .LtE (.ref l) (.ref b)) Q E s:=by
 obtain⟨⟨cls,dd,data,sl⟩,ho,hc,n,hd⟩:=id hl;obtain⟨⟨cls2,dd2,data2,sl2⟩,ho2,hc2,n2,hd2⟩:=id hb;simp only at hc hd hc2 hd2;subst hc hd hc2 hd2;exact richCompare_meets_room (op:=.LtE) ⟨_,ho,rfl⟩ ⟨_,ho2,rfl⟩ PySem.F.slot_tuple_le PySem.F.entry_tuple_le (PySem.F.args_tuple_le_2 _ _) (Mj l b items items2 n n2 dd dd2 sl sl2 ns ms hi hj)
  ⟨ho,ho2,show Value.bool (lexLe ns ms)≠Value.notImplemented/\Q (.bool (lexLe ns ms)) s from⟨(λx=>nomatch x),h⟩⟩ hu
end
end HT
namespace L2
open PySem PySem.Spec PyProof.Rows
section
variable {X : Cx}
def rLeT(K:PySem.W.Frag):R2:=λx y H Q=>∃a b ns ms,x= .ref a/\y= .ref b/\SqT K H a (ns.map V.int)/\SqT K H b (ms.map V.int)/\Q (.bl (HT.lexLe ns ms)) H
theorem op_leT(hu:X.A.units<cLine):OpR X (compareOp .LtE) (rLeT X.K):=by
 intro pins s σ H x y v u Q I rx ry h;obtain⟨a,b,ns,ms,rfl,rfl,ha,hb,q⟩:=h;cases rx;cases ry;obtain⟨its,r1,p1,_⟩:=I.tuple ha;obtain⟨its2,r2,p2,_⟩:=I.tuple hb;have i1:IntsAre its.toArray.toList ns:=intsAre_of r1;have i2:IntsAre its2.toArray.toList ms:=intsAre_of r2;exact HT.Xp p1 p2 i1 i2 hu ⟨.bl (HT.lexLe ns ms),H,I,rfl,q⟩
theorem hu0(hu:X.A.units+64<cLine):X.A.units<cLine:=by omega
def rLeA(K:PySem.W.Frag):R2:=λx y H Q=>rI0 (λi j=>.bl (decide (i<=j))) x y H Q\/rLeT K x y H Q
theorem op_leA(hu:X.A.units+64<cLine):OpR X (compareOp .LtE) (rLeA X.K):=op_le.or (op_leT (hu0 hu))
def rLtA(K:PySem.W.Frag):R2:=λx y H Q=>rI0 (λi j=>.bl (decide (i<j))) x y H Q\/rLtT K x y H Q
theorem op_ltA(hu:X.A.units+64<cLine):OpR X (compareOp .Lt) (rLtA X.K):=op_lt.or (op_ltT (hu0 hu))
def zy:R2:=λx y H Q=>y= .non/\Q (.bl (decide (x= .non))) H
def ar:R2:=λx y H Q=>y= .non/\Q (.bl (!decide (x= .non))) H
theorem Jr:OpR X (compareOp .Is) zy:=op_isN
theorem Qu:OpR X (compareOp .IsNot) ar:=Ly
end
section
variable {K : PySem.W.Frag} {H : Hp} {Q : VK}
theorem r_leI{p q:Int}(h:Q (.bl (decide (p<=q))) H):rLeA K (.int p) (.int q) H Q:=.inl (uu h)
theorem r_ltI{p q:Int}(h:Q (.bl (decide (p<q))) H):rLtA K (.int p) (.int q) H Q:=.inl (uu h)
theorem iy(h:Q (.bl true) H):zy .non .non H Q:=⟨rfl,h⟩
theorem gy{a:Addr}(h:Q (.bl false) H):zy (.ref a) .non H Q:=⟨rfl,h⟩
theorem xu(h:Q (.bl false) H):ar .non .non H Q:=⟨rfl,h⟩
theorem wu{a:Addr}(h:Q (.bl true) H):ar (.ref a) .non H Q:=⟨rfl,h⟩
end
end L2
namespace L2
open PySem PySem.Spec PyProof.Rows
def cxIn(X:Cx)(scope:Scope)(cl:List (Str×Addr))(C:Addr)(N:List Str)(s₀:Shared)(H₀:Hp)(ex:List Addr):Cx :=
 { X with env:=compEnvC scope cl C X.env,N:=N,s₀:=s₀,H₀:=H₀,outer:=X.stack,stack:=X.stack,ex:=ex,fn:=λx=>scope.names.lookup x==some .cell,pn:=[],xe:=λ_ _=>False }
def PTs(X:Cx)(ifs:List Expr)(t:TT):Prop :=
 ∀(pins:List (Addr×Obj)) (s:Shared) (σ:St) (H:Hp) (Q:Bool->Hp->Prop),Inv X pins σ H s->t σ H Q ->
  wpAny (model X.prog X.w) X.A (forIn ifs true λc r=>if r=true then do let ok<-isTrue c X.env (eval c X.env);pure (ForInStep.yield ok) else pure (ForInStep.yield r)) (TP X pins σ Q) X.xe s
def tYes:TT:=λ_ H Q=>Q true H
theorem jc{X:Cx}:PTs X [] tYes:=λ_ _ _ H _ I h=>wpAny_tests_nil ⟨H,I,h⟩
theorem Yh{X:Cx}{c:Expr}{t:TT}(hc:PT X c t):PTs X [c] t:=λpins s σ H Q I h=>wpAny_tests_one (hc pins s σ H Q I h)
def vh(X:Cx)(env':Env):List Str->List Nat->Prop
 | [],[]=>True
 | x::xs,j::js=>(X.N[j]?=some x/\Vis X.env.scope x/\X.env.kindOf x≠some .local/\(env'.kindOf x=some .cell\/env'.kindOf x=some .free)/\env'.cells.lookup x=X.env.cells.lookup x)/\vh X env' xs js
 | _,_=>False
theorem vh.len{X:Cx}{e:Env}:∀{xs:List Str} {js:List Nat},vh X e xs js->xs.length=js.length
 | [],[],_=>rfl
 | _::_,_::_,⟨_,h⟩=>by rw[List.length_cons,List.length_cons,vh.len h]
 | [],_::_,h=>h.elim
 | _::_,[],h=>h.elim
theorem vh.get{X:Cx}{e:Env}:∀{xs:List Str} {js:List Nat} {i:Nat} {x:Str},vh X e xs js->xs[i]?=some x->∃j,js[i]?=some j/\X.N[j]?=some x/\Vis X.env.scope x/\X.env.kindOf x≠some .local/\(e.kindOf x=some .cell\/e.kindOf x=some .free)/\e.cells.lookup x=X.env.cells.lookup x
 | [],[],i,x,_,h=>by simp at h
 | y::xs,j::js,0,x,⟨h1,_⟩,h=>by simp at h;subst h;exact⟨j,by simp,h1⟩
 | y::xs,j::js,i+1,x,⟨_,h2⟩,h=>by
  obtain⟨k,a,b⟩:=vh.get (i:=i) (x:=x) h2 (by simpa using h);exact⟨k,by simpa using a,b⟩
 | [],_::_,_,_,h,_=>h.elim
 | _::_,[],_,_,h,_=>h.elim
def cap(σ:St)(js:List Nat)(nt:Nat):St:=js.map (λj=>σ.getD j none)++List.replicate nt none
def Yg(js:List Nat)(nt:Nat)(wi:TI)(g:TG)(tt:TT)(te:TE):TE:=λσ H Q=>wi σ H λJ H1=>∃W:Nat->Nat->List V->St->Hp->Prop,(∃m,W 0 m [] (cap σ js nt) H1) /\
 ∀i m ys σ' H',W i m ys σ' H'->ys.length<sizeLine/\((J.stop i H'/\∀D,H' D=none->Q (.ref D) (upd H' D (.lst ys))) \/
  (J.go i H'/\∃N:List V->St->Hp->Prop,(∀ys σ' H',N ys σ' H'->∃m',m' <m/\W (i+1) m' ys σ' H')/\∀x H2,J.yld i H' x H2->g x σ' H2 λσ3 H3=>tt σ3 H3 λok H4=>if ok=true then te σ3 H4 λy H5=>N (ys++[y]) σ3 H5 else N ys σ3 H4))
theorem tf{prog:Program}{w:World}{A:Around}{R:Result->Shared->Prop}{s:Shared}{elt target iter:Expr}{ifs:List Expr}{scope:Scope}{pos:Pos}{it acc:Value}{env:Env}(I:Nat->Shared->Prop)
 (turn:∀n s,I n s->wpAny (model prog w) A (pyNext it) (λr s₁=>match r with
   | none=>R (.ok .next) s₁
   | some v => wpAny (model prog w) A (letOwnedTupleGo target it v) (fun _ s₁' => wpAny (model prog w) A (assign target env v) (fun _ s₂ =>
    wpAny (model prog w) A (forIn ifs true λc r=>if r=true then do let ok<-isTrue c env (eval c env);pure (ForInStep.yield ok) else pure (ForInStep.yield r)) (λok s₃ =>
     if ok=true then wpAny (model prog w) A (eval elt env) (λx s₄ =>
      wpAny (model prog w) A (call (.builtin "list.append") [acc,x]) (λ_ s₅=>∃m,m<n/\I m s₅) (notedBy (model prog w) A env λe s'=>R (.error e) s') s₄) (notedBy (model prog w) A env λe s'=>R (.error e) s') s₃
     else ∃m,m<n/\I m s₃) (notedBy (model prog w) A env λe s'=>R (.error e) s') s₂) (notedBy (model prog w) A env λe s'=>R (.error e) s') s₁') (notedBy (model prog w) A env λe s'=>R (.error e) s') s₁) (notedBy (model prog w) A env λe s'=>R (.error e) s') s)
 (n:Nat)(h:I n s) :
 codeAny (model prog w) A (.compLoop (.ListComp elt [⟨target,iter,ifs,0⟩] scope pos) 0 it acc env) R s:=by
 refine codeAny_loop rfl I (λn s hI=>?_) n h;show wpAny _ A ((compTurn (.ListComp elt [⟨target,iter,ifs,0⟩] scope pos) 0 it acc env).onRaise (λx=>do noteFrame x env;theTreesLotGoes x)) _ _ s;refine wpAny_noted ?_;rw[compTurn_list];refine wpAny_bind (wpAny_standAt (wpAny_bind (wpAny_mono (turn n s hI) (λr s₁ h₁=>?_) λ_ _ h'=>h')));cases r with
 | none=>exact wpAny_pure h₁
 | some v =>
  refine wpAny_bind (wpAny_mono h₁ (λ_ s₁' h₁'=>?_) λ_ _ h'=>h');refine wpAny_bind (wpAny_mono h₁' (λ_ s₂ h₂=>wpAny_bind (wpAny_mono h₂ (λok s₃ h₃=>?_) λ_ _ h'=>h')) λ_ _ h'=>h');cases ok with
  | false=>exact wpAny_pure ⟨rfl,h₃⟩
  | true =>
   exact wpAny_bind (wpAny_bind (wpAny_mono h₃ (λx s₄ h₄=>wpAny_bind (wpAny_mono h₄ (λ_ s₅ h₅=>wpAny_pure (wpAny_pure ⟨rfl,h₅⟩)) λ_ _ h'=>h')) λ_ _ h'=>h'))
section
variable {X : Cx} {pins : List (Addr × Obj)} {σ : St} {H H' : Hp} {s : Shared}
theorem HOk.track{P:Program}{w:World}{h:Heap}{a:Addr}{o:HO}(x:HOk P w H h)(hn:H a=none)(new:Bc P w (upd H a o) h a o):HOk P w (upd H a o) h:=λb u e=>by
 by_cases hb:b=a
 . subst hb;rw[da]at e;cases e;exact new
 . rw[va hb]at e
   exact(x b u e).stay (λc v _ q=>q) (λc q=>by rw[va (ba q hn)];exact q) λc xs q=>by rw[va (ba q hn)];exact q
theorem HOk.other{P:Program}{w:World}{h h':Heap}{C:Addr}(x:HOk P w H h)(hn:H C=none)(k:∀b o,b≠C->h.get? b=some o->h'.get? b=some o):HOk P w H h':=λb u e =>
 (x b u e).stay (λc v hc q=>k c v (by
  rintro rfl
  rcases hc with rfl|hc
  . rw[hn]at e;cases e
  . rw[hn]at hc;cases hc) q) (λ_ q=>q) λ_ _ q=>q
theorem zf:∀{names:List (Str×NameKind)} {n:Nat} {acc:List (Str×Addr)},(∀y∈names,y.2≠ .cell)->cellsFrom n names acc=acc
 | [],_,_,_=>rfl
 | (x,k)::r,n,acc,h=>by
  unfold cellsFrom;rw[if_neg (by simpa using h (x,k) List.mem_cons_self)];exact zf λy hy=>h y (List.mem_cons_of_mem _ hy)
theorem Ci: ∀ (names : List (Str × NameKind)) (h : Heap) (acc : List (Str × Addr)) (x : Str) (c : Addr), (cellsFrom h.objs.size names acc).lookup x = some c -> acc.lookup x = some c \/ ((pushCells h names).IsCell c none /\ h.objs.size <= c)
 | [],_,_,_,_,e=>.inl e
 | (y, k) :: r, h, acc, x, c, e => by
  unfold cellsFrom at e;unfold pushCells;split at e
  . rename_i hk
    rw[if_pos hk];have e':(cellsFrom (h.push { cls:=.type "cell",data:=.cell none }).objs.size r ((y,h.objs.size)::acc)).lookup x=some c:=by rw[Heap.size_push];exact e
    rcases Ci r _ _ x c e' with z|⟨z1,z2⟩
    . rw[List.lookup_cons]at z
      split at z
      . cases z
        exact .inr ⟨⟨_,pushCells_keeps _ _ _ _ (Heap.get?_push_size _ rfl),rfl⟩,Nat.le_refl _⟩
      . exact .inl z
    . rw[Heap.size_push]at z2
      exact .inr ⟨z1,Nat.le_of_succ_le z2⟩
  . rename_i hk
    rw[if_neg hk];exact Ci r h acc x c e
theorem Di:∀(names:List (Str×NameKind)) (n:Nat) (acc:List (Str×Addr)),(∀x y c,acc.lookup x=some c->acc.lookup y=some c->x=y)->(∀x c,acc.lookup x=some c->c<n)->∀x y c,(cellsFrom n names acc).lookup x=some c->(cellsFrom n names acc).lookup y=some c->x=y
 | [],_,_,h,_=>h
 | (z, k) :: r, n, acc, h, hl => by
  unfold cellsFrom;split
  . refine Di r (n+1) _ (λx y c e1 e2=>?_) λx c e=>?_
    . rw[List.lookup_cons]at e1 e2
      split at e1<;>split at e2
      . rename_i _ a _ b;rw[beq_iff_eq.mp a,beq_iff_eq.mp b]
      . cases e1;exact absurd (hl _ _ e2) (Nat.lt_irrefl _)
      . cases e2;exact absurd (hl _ _ e1) (Nat.lt_irrefl _)
      . exact h x y c e1 e2
    . rw[List.lookup_cons]at e
      split at e
      . cases e;exact Nat.lt_succ_self _
      . exact Nat.lt_succ_of_lt (hl x c e)
  . exact Di r n acc h hl
theorem So{x:Str}{lo:Nat}:∀(names:List (Str×NameKind)) (n:Nat) (acc:List (Str×Addr)),lo<=n->((∀c,acc.lookup x=some c->lo<=c)\/names.lookup x=some .cell)->∀c,(cellsFrom n names acc).lookup x=some c->lo<=c
 | [],_,_,_,h=>h.elim id λz=>nomatch z
 | (z, k) :: r, n, acc, hl, h => by
  have h2:∀acc':List (Str×Addr),(∀c,acc'.lookup x=some c->lo<=c)\/r.lookup x=some .cell->∀m,lo<=m->∀c,(cellsFrom m r acc').lookup x=some c->lo<=c:=λacc' q m hm=>So r m acc' hm q;unfold cellsFrom;rw[List.lookup_cons]at h;split
  . refine h2 _ ?_ _ (Nat.le_succ_of_le hl)
    by_cases hx:x==z
    . refine .inl λc e=>?_
      rw[List.lookup_cons,hx]at e;cases e;exact hl
    . simp only[hx]at h
      refine h.imp (λq c e=>?_) id;rw[List.lookup_cons]at e;simp only[hx]at e;exact q c e
  . rename_i hk
    refine h2 _ ?_ _ hl;by_cases hx:x==z
    . simp only[hx]at h
      refine .inl (h.elim id λq=>absurd q ?_);intro e;rw[Option.some.inj e]at hk;exact hk rfl
    . simp only[hx]at h
      exact h
theorem Zf{M:Model}{A:Around}{E:Value->Shared->Prop}{s:Shared}{scope:Scope}{g:Addr}{cl:List (Str×Addr)}{q:Str}{env:Env}{Q:Env->Shared->Prop}
 (h:Q { scope,locals:=s.heap.objs.size,globals:=g,cells:=cellsFrom (s.heap.objs.size+1) scope.names cl,qual:=q,func:=none,code:=env.code,frame:=env.frame,builtins:=env.builtins }
   { s with heap:=pushCells (s.heap.push { cls:=.type "dict",data:=.dict #[] }) scope.names }):wpAny M A (newFunctionEnv scope g cl [] q none .none (some env)) Q E s:=by
 simp only[newFunctionEnv,Option.isSome_some,if_true];refine wpAny_bind (wpAny_alloc (wpAny_bind (wpAny_layCells _ (λname kind cells=>by cases hkc:kind==NameKind.cell<;>simp[hkc]) _ _ _ _ ?_)));rw[show ({ s with heap:=s.heap.push { cls:=.type "dict",data:=.dict #[] } }:Shared).heap.objs.size=s.heap.objs.size+1 from Heap.size_push ..];refine wpAny_bind ?_;rw[List.forIn_nil];exact wpAny_pure (wpAny_pure h)
theorem rz{scope:Scope}{cl:List (Str×Addr)}{C:Addr}{N:List Str}{s₀:Shared}{ex:List Addr}(I:Inv X pins σ H s₀)(hC:C=s₀.heap.objs.size)(hkind:scope.kind= .function)
 (hinj:∀x y c,cl.lookup x=some c->cl.lookup y=some c->x=y)(hcl:∀x c,cl.lookup x=some c->X.env.cells.lookup x=some c\/s₀.heap.objs.size<=c)(hcab:∀x c,scope.names.lookup x=some .cell->cl.lookup x=some c->s₀.heap.objs.size<=c)(hhas:∀x,((compEnvC scope cl C X.env).kindOf x=some .cell\/(compEnvC scope cl C X.env).kindOf x=some .free)->∃c,cl.lookup x=some c)
 (hex:∀b∈ex,b<s₀.heap.objs.size/\b∉frs X.stack/\(∀x c,X.env.cells.lookup x=some c->c≠b)/\X.base.get? b=none):(cxIn X scope cl C N s₀ H ex).Ok:=by
 refine⟨I.ok.mod,hkind,I.ok.glob,I.ok.blt,?_,hinj,hhas,λx c h=>hcab x c (beq_iff_eq.mp h),I.ok.hd,I.ok.frames,.inl rfl,λb hb=>⟨?_,λx c h=>?_⟩,I.bs,Nat.le_trans I.ok.bsz I.sz,λb o e hb=>?_,λb hb=>(hex b hb).2.1,I.stack,I.tq⟩
 . show s₀.heap.objs.size<=C
   rw[hC];exact Nat.le_refl _
 . show b≠C
   rw[hC];exact Nat.ne_of_lt (hex b hb).1
 . rcases hcl x c h with z|z
   . exact(hex b hb).2.2.1 x c z
   . exact λe=>absurd (Nat.lt_of_lt_of_le (hex b hb).1 (e▸z)) (Nat.lt_irrefl _)
 . have e':X.base.get? b=some o:=e
   rw[(hex b hb).2.2.2]at e';cases e'
theorem Bz(σ:St)(js:List Nat)(nt:Nat):(cap σ js nt).length=js.length+nt:=by
 unfold cap;rw[List.length_append,List.length_map,List.length_replicate]
theorem Cz{σ:St}{js:List Nat}{nt i:Nat}{v:V}(h:(cap σ js nt)[i]?=some (some v)):∃j,js[i]?=some j/\σ[j]?=some (some v):=by
 unfold cap at h;by_cases hi:i<js.length
 . rw[List.getElem?_append_left (by rw[List.length_map];exact hi),List.getElem?_map]at h
   obtain⟨j,hj⟩:∃j,js[i]?=some j:=⟨_,List.getElem?_eq_getElem hi⟩
   rw[hj]at h;refine⟨j,hj,?_⟩;have e:σ.getD j none=some v:=Option.some.inj h;rw[List.getD_eq_getElem?_getD]at e;cases q:σ[j]? with
   | none=>rw[q]at e;cases e
   | some z=>rw[q]at e;have:z=some v:=e;rw[this]
 . rw[List.getElem?_append_right (by rw[List.length_map];omega),List.getElem?_replicate]at h
   split at h<;>cases h
end
theorem ao{use:Option (Value->Sem Unit)}{Z:Value->Shared->Prop}{pins:List (Addr×Obj)}{s:Shared}{σ:St}{H:Hp}{Q:VK}{X:Cx}{elt tg iter:Expr}{ifs:List Expr}{scope:Scope}{pos:Pos}{cl:List (Str×Addr)}{cs:Addr->List (Str×Addr)}{cN tN:List Str}{js:List Nat}{wi:TI}{g:TG}{tt:TT}{te:TE}
 (hc:X.calm=true)(hi:PI X tg iter wi)
 (hclos:closureFor scope X.env=pure cl)(hcs:∀C,cellsFrom (C+1) scope.names cl=cs C)(hkind:scope.kind= .function)(hnames:∀y∈scope.names,y.2= .local->scope.names.lookup y.1=some .local)
 (hcl:∀p∈cl,X.env.cells.lookup p.1=some p.2)(hhas:∀C x,((compEnvC scope (cs C) C X.env).kindOf x=some .cell\/(compEnvC scope (cs C) C X.env).kindOf x=some .free)->∃c,(cs C).lookup x=some c)
 (hcap:∀C,vh X (compEnvC scope (cs C) C X.env) cN js)
 (hg:∀C s₀ H₀ ex,PG (cxIn X scope (cs C) C (cN++tN) s₀ H₀ ex) tg g)(ht:∀C s₀ H₀ ex,PTs (cxIn X scope (cs C) C (cN++tN) s₀ H₀ ex) ifs tt)(he:∀C s₀ H₀ ex,PE (cxIn X scope (cs C) C (cN++tN) s₀ H₀ ex) elt te)
 (hs:∀x,foldedSetIterable iter X.env x=pure x)(I:Inv X pins σ H s)(h:Yg js tN.length wi g tt te σ H Q)
 (fin:∀(D C:Addr) (s6:Shared) (m:Str->Option Value) (Hf:Hp),s6.heap.Ns C m->Hf C=none->C≠X.env.locals->C∉X.fs->X.s₀.heap.objs.size<=C->(∀x c,X.env.cells.lookup x=some c->c≠C)->(∀p∈X.pn++pins,p.1≠C)->Q (.ref D) Hf->(∀h7,Heap.SameBut C s6.heap h7->Inv X pins σ Hf { s6 with heap:=h7 })->compPost (model X.prog X.w) X.A X.xe use Z (.ref D) C (.ok .next) s6) :
 wpAny (model X.prog X.w) X.A (comprehension (.ListComp elt [⟨tg,iter,ifs,0⟩] scope pos) scope X.env (firstIterPos [⟨tg,iter,ifs,0⟩] pos) (newList []) false (eval iter X.env) use) Z X.xe s:=by
 refine wpAny_comprehension_free (use:=use) rfl hs hclos hkind hnames (thn (hi pins s σ H _ I h) λv s1 h1=>thn h1 λitv s2 h2=>?_);obtain⟨it,fp,tn,J,H2,e,I2,T,st2,f2,W,⟨m0,w0⟩,turn⟩:=h2;subst e;refine wpAny_newObj_type (Zf ?_);dsimp only;generalize hH3:s2.heap.push { cls:=.type "list",dict:=none,data:=.seq ([]:List Value).toArray }=h3;rw[hcs];have hns4:(pushCells (h3.push { cls:=.type "dict",data:=.dict #[] }) scope.names).Ns h3.objs.size λ_=>none:=(Heap.Ns.new h3 (.type "dict")).keeps (pushCells_keeps _ _);have hnew:∀x c,(cs h3.objs.size).lookup x=some c->cl.lookup x=some c\/((pushCells (h3.push { cls:=.type "dict",data:=.dict #[] }) scope.names).IsCell c none/\h3.objs.size+1<=c):=λx c e=>by
  have:=Ci scope.names (h3.push { cls:=.type "dict",data:=.dict #[] }) cl x c (by rw[Heap.size_push,hcs];exact e);rw[Heap.size_push]at this;exact this
 have up4:∀b o,h3.get? b=some o->(pushCells (h3.push { cls:=.type "dict",data:=.dict #[] }) scope.names).get? b=some o:=λb o q=>pushCells_keeps _ _ _ _ (Heap.get?_push_of_some _ q);generalize pushCells (h3.push { cls:=.type "dict",data:=.dict #[] }) scope.names=h4 at hns4 hnew up4 ⊢;have hD:h3.get? s2.heap.objs.size=some { cls:=.type "list",data:=.seq ([]:List Value).toArray }:=by rw[<-hH3];exact Heap.get?_push_size _ rfl
 have up3:∀b o,s2.heap.get? b=some o->h3.get? b=some o:=λb o q=>by rw[<-hH3];exact Heap.get?_push_of_some _ q
 have sz3:h3.objs.size=s2.heap.objs.size+1:=by rw[<-hH3,Heap.size_push]
 have I3:Inv X pins σ H2 { s2 with heap:=h3 }:=I2.kept (t':=s2.toks) up3;have hDC:s2.heap.objs.size≠h3.objs.size:=by rw[sz3];exact Nat.ne_of_lt (Nat.lt_succ_self _)
 have hfpx : ∀ b ∈ s2.heap.objs.size :: fp, b < h3.objs.size /\ b ∉ frs X.stack /\ (∀ x c, X.env.cells.lookup x = some c -> c ≠ b) /\ X.base.get? b = none := fun b hb => by
  rcases List.mem_cons.mp hb with rfl|hb
  . refine⟨by rw[sz3];exact Nat.lt_succ_self _,λz=>?_,λx c q z=>?_,?_⟩
    . rcases List.mem_cons.mp (I2.oo _ z) with y|y
      . exact absurd (Nat.lt_of_lt_of_eq I2.lt y) (Nat.lt_irrefl _)
      . exact I2.nofs (Nat.le_refl _) y
    . obtain⟨v,r⟩:=I2.cell x c q
      exact absurd (Nat.lt_of_lt_of_eq r.lt z.symm) (Nat.lt_irrefl _)
    . cases q:X.base.get? s2.heap.objs.size with
      | none=>rfl
      | some o=>exact absurd (Heap.lt_size (I2.bk _ o q)) (Nat.lt_irrefl _)
  . obtain⟨f0,f1,f3,f4,f5,f6⟩:=f2 b hb
    obtain⟨o,ho,_⟩:=T.obj _ _ st2 b hb;refine⟨Nat.lt_trans (Heap.lt_size ho) (by rw[sz3];exact Nat.lt_succ_self _),λz=>?_,f5,?_⟩
    . rcases List.mem_cons.mp (I2.oo _ z) with y|y
      . exact f1 y
      . exact f3 y
    . cases q:X.base.get? b with
      | none=>rfl
      | some o' =>
       rcases f4 with z|z
       . exact absurd z (I2.ok.noex b o' q)
       . exact absurd (Nat.lt_of_lt_of_le (Heap.lt_size (I2.ok.bs b o' q).1) z) (Nat.lt_irrefl _)
 have hclL:∀x c,cl.lookup x=some c->X.env.cells.lookup x=some c:=λx c q=>hcl (x,c) (PySem.mem_of_lookup q);have hinj:∀x y c,(cs h3.objs.size).lookup x=some c->(cs h3.objs.size).lookup y=some c->x=y:=by
  rw[<-hcs];exact Di _ _ _ (λx y c e1 e2=>I2.ok.inj x y c (hclL x c e1) (hclL y c e2)) λx c e=>by
   obtain⟨v,r⟩:=I3.cell x c (hclL x c e);exact Nat.lt_succ_of_lt r.lt
 have hcl3:∀x c,(cs h3.objs.size).lookup x=some c->X.env.cells.lookup x=some c\/h3.objs.size<=c:=λx c e=>(hnew x c e).imp (hclL x c) λz=>Nat.le_of_succ_le z.2;have hclx:∀b∈s2.heap.objs.size::fp,∀x c,(cs h3.objs.size).lookup x=some c->c≠b:=λb hb x c e=>by
  rcases hcl3 x c e with z|z
  . exact(hfpx b hb).2.2.1 x c z
  . exact λe=>absurd (Nat.lt_of_lt_of_le (hfpx b hb).1 (e▸z)) (Nat.lt_irrefl _)
 have ok:(cxIn X scope (cs h3.objs.size) h3.objs.size (cN++tN) { s2 with heap:=h3 } H2 (s2.heap.objs.size::fp)).Ok:=rz I3 rfl hkind hinj hcl3 (λx c h q=>Nat.le_of_succ_le (So scope.names (h3.objs.size+1) cl (Nat.le_refl _) (.inr h) c (by rw[hcs];exact q))) (hhas _) hfpx;have hg':=hg h3.objs.size { s2 with heap:=h3 } H2 (s2.heap.objs.size::fp);have ht':=ht h3.objs.size { s2 with heap:=h3 } H2 (s2.heap.objs.size::fp);have he':=he h3.objs.size { s2 with heap:=h3 } H2 (s2.heap.objs.size::fp);generalize hY:cxIn X scope (cs h3.objs.size) h3.objs.size (cN++tN) { s2 with heap:=h3 } H2 (s2.heap.objs.size::fp)=Y at ok hg' ht' he';have yP:Y.prog=X.prog:=by rw[<-hY];rfl
 have yw:Y.w=X.w:=by rw[<-hY];rfl
 have yK:Y.K=X.K:=by rw[<-hY];rfl
 have yA:Y.A=X.A:=by rw[<-hY];rfl
 have yc:Y.calm=true:=by rw[<-hY];exact hc
 have yx:Y.xe=λ_ _=>False:=by rw[<-hY];rfl
 have yl:Y.env.locals=h3.objs.size:=by rw[<-hY];rfl
 have ye:Y.env=compEnvC scope (cs h3.objs.size) h3.objs.size X.env:=by rw[<-hY];rfl
 have yfs:Y.fs=frs X.stack:=by rw[<-hY];rfl
 have yex:Y.ex=s2.heap.objs.size::fp:=by rw[<-hY];rfl
 have ycl:Y.env.cells=cs h3.objs.size:=by rw[<-hY];rfl
 have ys0:Y.s₀={ s2 with heap:=h3 }:=by rw[<-hY];rfl
 have yH0:Y.H₀=H2:=by rw[<-hY];rfl
 have ypn:Y.pn=[]:=by rw[<-hY];rfl
 have yN:Y.N=cN++tN:=by rw[<-hY];rfl
 have hH2D:H2 s2.heap.objs.size=none:=I2.hok.fresh (Nat.le_refl _);have pinD:∀{H':Hp} {h:Heap} {ys:List Value} {n:Nat},h.get? s2.heap.objs.size=some { cls:=.type "list",data:=.seq ys.toArray n }->H' s2.heap.objs.size=none ->
  ∀p∈([(s2.heap.objs.size,({ cls:=.type "list",data:=.seq ys.toArray n }:Obj))]:List (Addr×Obj)),h.get? p.1=some p.2/\H' p.1=none/\p.1≠Y.env.locals/\p.1∉Y.fs/\∀v,p.2.data≠ .cell v:=λ{H' h ys n} q1 q2 p hp=>by
  rw[List.mem_singleton.mp hp];exact⟨q1,q2,by rw[yl];exact hDC,by rw[yfs];exact(hfpx _ List.mem_cons_self).2.1,λv z=>nomatch z⟩
 have I4 : Inv Y [] (cap σ js tN.length) H2 { s2 with heap := h4 } := by
  refine⟨ok,by rw[ys0],I2.bare,?_,⟨_,by rw[yl];exact hns4,λi x v e1 e2 e3=>?_⟩,λx c q=>?_,?_,λx c q=>?_,λp hp=>?_,?_,?_⟩
  . rw[ys0,yH0];exact Un.kept up4
  . rw[yN]at e1
    obtain⟨j,hj,hv⟩:=Cz e2;have hi':i<cN.length:=by
     rw[(hcap h3.objs.size).len];exact(List.getElem?_eq_some_iff.mp hj).1
    rw[List.getElem?_append_left hi']at e1;obtain⟨j',hj',n1,n2,n3,n4,n5⟩:=(hcap h3.objs.size).get e1;rw[hj]at hj';cases hj';obtain⟨m,hn,hl⟩:=I2.loc;obtain⟨u,ru,lk⟩:=hl j x v n1 hv n2;refine⟨u,ru,?_⟩;rcases lk with⟨k1,_⟩|⟨k1,c,k2,k3⟩
    . exact absurd k1 n3
    . refine .inr ⟨by rw[ye];exact n4,c,by rw[ye,n5];exact k2,?_⟩
      obtain⟨o,ho,hd⟩:=k3;exact⟨o,up4 _ _ (up3 _ _ ho),hd⟩
  . rw[ycl]at q
    rcases hnew x c q with q|q
    . obtain⟨v,o,ho,hd⟩:=I2.cell x c (hclL x c q)
      exact⟨v,o,up4 _ _ (up3 _ _ ho),hd⟩
    . exact⟨none,q.1⟩
  . rw[yl];exact I3.hok.fresh (Nat.le_refl _)
  . rw[ycl]at q
    rcases hcl3 x c q with q|q
    . exact I2.freeC x c q
    . exact I3.hok.fresh q
  . rw[ypn]at hp
    exact absurd hp (by simp)
  . rw[yP,yw]
    exact I3.hok.kept up4
  . rw[Bz,yN,List.length_append,(hcap h3.objs.size).len]
 have fpY:∀{H':Hp} {ps:List (Addr×Obj)},(∀b∈fp,H' b=none)->(∀p∈ps,p.1=s2.heap.objs.size)->∀b∈fp,FpOk Y ps H' b:=λ{H' ps} hn hps b hb=>by
  obtain⟨a1,a2,a3,a4⟩:=hfpx b (List.mem_cons_of_mem _ hb);obtain⟨o,ho,_⟩:=T.obj _ _ st2 b hb;refine⟨hn b hb,by rw[yl];exact Nat.ne_of_lt a1,by rw[yfs];exact a2,.inl (by rw[yex];exact List.mem_cons_of_mem _ hb),λx c q=>by rw[ycl]at q;exact hclx b (List.mem_cons_of_mem _ hb) x c q,λp hp=>?_⟩;rw[ypn]at hp;rw[hps p hp];exact(Nat.ne_of_lt (Heap.lt_size ho)).symm
 have st4:tn 0 h4:=T.keep _ _ _ st2 λb hb o q=>up4 _ _ (up3 _ _ q);have loop : codeAny (model X.prog X.w) X.A (.compLoop (.ListComp elt [⟨tg, iter, ifs, 0⟩] scope pos) 0 (.ref it) (.ref s2.heap.objs.size) (compEnvC scope (cs h3.objs.size) h3.objs.size X.env))
  (compPost (model X.prog X.w) X.A X.xe use Z (.ref s2.heap.objs.size) h3.objs.size) { s2 with heap:=h4 }:=by
  refine tf (λn s'=>∃(i:Nat) (σ':St) (H':Hp) (ys:List V) (us:List Value) (k:Nat),Inv Y [] σ' H' s'/\tn i s'.heap/\(∀b∈fp,H' b=none)/\H' s2.heap.objs.size=none/\Vals ys us /\
   s'.heap.get? s2.heap.objs.size=some { cls:=.type "list",data:=.seq us.toArray k }/\W i n ys σ' H') ?_ m0
   ⟨0,_,H2,[],[],0,I4,st4,λb hb=>(f2 b hb).1,hH2D,.nil,up4 _ _ hD,w0⟩
  rintro n s5 ⟨i,σ5,H5,ys,us,k,I5,st5,fr5,hD5,rv5,ho5,w5⟩
  obtain⟨hsz,step⟩:=turn i n ys σ5 H5 w5;have I5p:=I5.Lf (pins':=[(s2.heap.objs.size,({ cls:=.type "list",data:=.seq us.toArray k }:Obj))]) (pinD ho5 hD5);have onlyD:∀p∈([(s2.heap.objs.size,({ cls:=.type "list",data:=.seq us.toArray k }:Obj))]:List (Addr×Obj)),p.1=s2.heap.objs.size:=λp hp=>by rw[List.mem_singleton.mp hp]
  rcases step with⟨stop,fin0⟩|⟨go,N,hN,step⟩
  ·
   have dn:=T.done Y yP yw yK yc i _ s5 σ5 H5 (notedBy (model X.prog X.w) X.A (compEnvC scope (cs h3.objs.size) h3.objs.size X.env) λe s'=>compPost (model X.prog X.w) X.A X.xe use Z (.ref s2.heap.objs.size) h3.objs.size (.error e) s') I5p (fpY fr5 onlyD) st5 stop;rw[yA]at dn;refine thn dn λr s6 hqq=>?_;obtain⟨hr,I6⟩:=hqq;subst hr;obtain⟨m6,hn6,_⟩:=I6.loc;rw[yl]at hn6;have C6:H5 h3.objs.size=none:=by have:=I6.free;rw[yl]at this;exact this
   refine fin _ h3.objs.size s6 m6 (upd H5 s2.heap.objs.size (.lst ys)) hn6 (by rw[va hDC.symm];exact C6) (Nat.ne_of_lt I3.lt).symm (I3.nofs (Nat.le_refl _)) (Nat.le_trans I3.sz (Nat.le_refl _)) (λx c q z=>?_) (λp hp z=>?_) (fin0 _ hD5) λh7 hs7=>?_
   . obtain⟨v,r⟩:=I3.cell x c q
     exact absurd (Nat.lt_of_lt_of_eq r.lt z.symm) (Nat.lt_irrefl _)
   . have:=Heap.lt_size (I3.pin p hp).1
     rw[z]at this;exact absurd this (Nat.lt_irrefl _)
   have u6:Un (frs X.stack) (s2.heap.objs.size::fp) H2 H5 h3 s6.heap:=by
    have:=I6.base;rw[yfs,yex,yH0,ys0]at this;exact this
   have D6:=(I6.pin _ (List.mem_append_right _ (List.mem_singleton.mpr rfl))).1;have k7:∀b o,b≠h3.objs.size->s6.heap.get? b=some o->h7.get? b=some o:=λb o hb q=>hs7.extBut b o hb q;have neC:∀b o,s2.heap.get? b=some o->b≠h3.objs.size:=λb o q=>Nat.ne_of_lt (Heap.lt_size (up3 b o q));have neD:∀b o,s2.heap.get? b=some o->b≠s2.heap.objs.size:=λb o q=>Nat.ne_of_lt (Heap.lt_size q);have exn:∀b o,s2.heap.get? b=some o->b∉fp->b∉s2.heap.objs.size::fp:=λb o q hb z=>by
    rcases List.mem_cons.mp z with z|z
    . exact neD b o q z
    . exact hb z
   have un7:Un (frs X.stack) fp H2 (upd H5 s2.heap.objs.size (.lst ys)) s2.heap h7:=by
    refine⟨λb o q nb hb hx=>k7 b o (neC b o q) (u6.keep b o (up3 _ _ q) nb hb (exn b o q hx)),λb o q nb hb hx=>?_,λb o q nb hx=>?_,λb o q hx=>?_,λb xs q=>?_,λb o xs q=>?_,λb ps q=>?_⟩
    . obtain⟨sl,z⟩:=u6.slot b o (up3 _ _ q) nb hb (exn b o q hx)
      exact⟨sl,k7 b _ (neC b o q) z⟩
    . rw[va (neD b o q)]
      exact u6.free b o (up3 _ _ q) nb (exn b o q hx)
    . obtain⟨o',z⟩:=u6.there b o (up3 _ _ q) (exn b o q hx)
      exact⟨o',k7 b o' (neC b o q) z⟩
    . have z:=u6.tups b xs q
      rw[va (ba z hD5)];exact z
    . have z:=u6.frzs b o xs q
      rw[va (ba z hD5)];exact z
    . obtain⟨more,z⟩:=u6.tbls b ps q
      exact⟨more,by rw[va (ba z hD5)];exact z⟩
   have hok7:HOk X.prog X.w (upd H5 s2.heap.objs.size (.lst ys)) h7:=by
    have z:=I6.hok;rw[yP,yw]at z;refine(z.other C6 k7).track hD5 ?_;exact⟨Nat.le_of_lt hsz,us,k,rv5,k7 _ _ hDC D6⟩
   obtain⟨hh6,gg6,dd6,tt6,os6⟩:=s6;have eos:os6=s2.os:=by have:=I6.os;rw[ys0]at this;exact this
   subst eos;have I7:Inv X pins σ (upd H5 s2.heap.objs.size (.lst ys)) { s2 with heap:=h7,gens:=gg6,drawn:=dd6,toks:=tt6 } :=
    I2.call un7 hok7 I6.bare λb hb=>⟨(f2 b hb).2.2.2.1,(f2 b hb).2.1,(f2 b hb).2.2.2.2.1,(f2 b hb).2.2.2.2.2⟩
   exact I7
  ·
   have im:=T.item Y yP yw yK yc i _ s5 σ5 H5 (notedBy (model X.prog X.w) X.A (compEnvC scope (cs h3.objs.size) h3.objs.size X.env) λe s'=>compPost (model X.prog X.w) X.A X.xe use Z (.ref s2.heap.objs.size) h3.objs.size (.error e) s') I5p (fpY fr5 onlyD) st5 go;rw[yA]at im;refine thn im λr s6 hqq=>?_;obtain⟨u,hr,h6⟩:=hqq;subst hr;refine thn h6 λ_ s7 hqq=>?_;obtain⟨x,H7,I7,r7,y7,st7,fr7⟩:=hqq;have I7':=I7.pinned (fpY fr7 onlyD) (T.obj _ _ st7);have tog:=hg' _ s7 σ5 H7 x u _ I7' r7 (step x H7 y7);rw[yP,yw,yA,yx,ye]at tog;refine wpAny_mono tog (λ_ s8 ⟨σ8,H8,I8,q8⟩=>?_) λ_ _ z=>z.elim;have tot:=ht' _ s8 σ8 H8 _ I8 q8;rw[yP,yw,yA,yx,ye]at tot;refine wpAny_mono tot (λokb s9 ⟨H9,I9,q9⟩=>?_) λ_ _ z=>z.elim;have back:∀{H':Hp} {s':Shared},Inv Y ([(s2.heap.objs.size,({ cls:=.type "list",data:=.seq us.toArray k }:Obj))]++Yl fp s7.heap) σ8 H' s'->tn (i+1) s'.heap/\(∀b∈fp,H' b=none)/\H' s2.heap.objs.size=none/\s'.heap.get? s2.heap.objs.size=some { cls:=.type "list",data:=.seq us.toArray k }:=λ{H' s'} I'=>by
    refine⟨T.keep _ _ _ st7 λb hb o e=>(I'.pin (b,o) (List.mem_append_right _ (List.mem_append_right _ (bf hb e)))).1,λb hb=>?_,?_,?_⟩
    . obtain⟨o,e,d⟩:=T.obj _ _ st7 b hb
      exact(I'.pin (b,o) (List.mem_append_right _ (List.mem_append_right _ (bf hb e)))).2.1
    . exact(I'.pin _ (List.mem_append_right _ (List.mem_append_left _ (List.mem_singleton.mpr rfl)))).2.1
    . exact(I'.pin _ (List.mem_append_right _ (List.mem_append_left _ (List.mem_singleton.mpr rfl)))).1
   cases okb with
   | false =>
    rw[if_neg Bool.false_ne_true]at q9 ⊢;obtain⟨m',hm',w9⟩:=hN _ _ _ q9;obtain⟨b1,b2,b3,b4⟩:=back I9;exact⟨m',hm',i+1,σ8,H9,ys,us,k,I9.Lf (λp hp=>absurd hp (by simp)),b1,b2,b3,rv5,b4,w9⟩
   | true =>
    rw[if_pos rfl]at q9 ⊢;have toe:=he' _ s9 σ8 H9 _ I9 q9;rw[yP,yw,yA,yx,ye]at toe;refine wpAny_mono toe (λyv s10 ⟨yy,H10,I10,r10,q10⟩=>?_) λ_ _ z=>z.elim;obtain⟨m',hm',w10⟩:=hN _ _ _ q10;obtain⟨b1,b2,b3,b4⟩:=back I10;have hus:us.length=ys.length:=rv5.length.symm;refine append_at b4 (λh11 hs11 ho11=>?_) (by rw[List.size_toArray,hus];exact Nat.le_of_lt hsz);have I10':Inv Y [] σ8 H10 s10:=I10.Lf (λp hp=>absurd hp (by simp));have I11:Inv Y [] σ8 H10 { s10 with heap:=h11 }:=I10'.turned (t':=s10.toks) (it:=s2.heap.objs.size) (λb o hb q=>hs11.extBut b o hb q) b3 (by rw[yl];exact hDC) (.inl (by rw[yex];exact List.mem_cons_self))
     (λx c q=>by rw[ycl]at q;exact hclx _ List.mem_cons_self x c q) (λp hp=>by rw[ypn]at hp;exact absurd hp (by simp))
    refine⟨m',hm',i+1,σ8,H10,ys++[yy],us++[yv],k+1,I11,T.keep _ _ _ b1 λb hb o q=>hs11.extBut b o (λz=>?_) q,b2,b3,Vals.append rv5 (.cons r10 .nil),?_,w10⟩
    . have z':b=s2.heap.objs.size:=z
      obtain⟨o',ho',_⟩:=T.obj _ _ st2 b hb;exact absurd (z'▸Heap.lt_size ho') (Nat.lt_irrefl _)
    . rw[ho11,List.push_toArray]
 exact codeAny_compStart_list loop (T.self _ 0 _ _ _ st4 loop)
theorem Pu{X:Cx}{elt tg iter:Expr}{ifs:List Expr}{scope:Scope}{pos:Pos}{cl:List (Str×Addr)}{cs:Addr->List (Str×Addr)}{cN tN:List Str}{js:List Nat}{wi:TI}{g:TG}{tt:TT}{te:TE}
 (hc:X.calm=true)(hi:PI X tg iter wi)
 (hclos:closureFor scope X.env=pure cl)(hcs:∀C,cellsFrom (C+1) scope.names cl=cs C)(hkind:scope.kind= .function)(hnames:∀y∈scope.names,y.2= .local->scope.names.lookup y.1=some .local)
 (hcl:∀p∈cl,X.env.cells.lookup p.1=some p.2)(hhas:∀C x,((compEnvC scope (cs C) C X.env).kindOf x=some .cell\/(compEnvC scope (cs C) C X.env).kindOf x=some .free)->∃c,(cs C).lookup x=some c)
 (hcap:∀C,vh X (compEnvC scope (cs C) C X.env) cN js)
 (hg:∀C s₀ H₀ ex,PG (cxIn X scope (cs C) C (cN++tN) s₀ H₀ ex) tg g)(ht:∀C s₀ H₀ ex,PTs (cxIn X scope (cs C) C (cN++tN) s₀ H₀ ex) ifs tt)(he:∀C s₀ H₀ ex,PE (cxIn X scope (cs C) C (cN++tN) s₀ H₀ ex) elt te)
 (hs:∀x,foldedSetIterable iter X.env x=pure x:=by intro _;first|rfl|with_unfolding_all rfl) :
 PE X (.ListComp elt [⟨tg,iter,ifs,0⟩] scope pos) (Yg js tN.length wi g tt te):=λpins s σ H Q I h=>ao (use:=none) hc hi hclos hcs hkind hnames hcl hhas hcap hg ht he hs I h λ_ _ _ m _ hn _ _ _ _ _ _ q I7=>⟨m,hn,λh7 hs7=>⟨.ref _,_,I7 h7 hs7,rfl,q⟩⟩
def Ii(J:It)(js:List Nat)(nt:Nat)(g:TG)(tt:TT)(te:TE)(σ:St)(H:Hp)(Q:VK):Prop:=∃W:Nat->Nat->List V->St->Hp->Prop,(∃m,W 0 m [] (cap σ js nt) H) /\
 ∀i m ys σ' H',W i m ys σ' H'->ys.length<sizeLine/\((J.stop i H'/\∀D,H' D=none->Q (.ref D) (upd H' D (.lst ys))) \/
  (J.go i H'/\∃N:List V->St->Hp->Prop,(∀ys σ' H',N ys σ' H'->∃m',m' <m/\W (i+1) m' ys σ' H')/\∀x H2,J.yld i H' x H2->g x σ' H2 λσ3 H3=>tt σ3 H3 λok H4=>if ok=true then te σ3 H4 λy H5=>N (ys++[y]) σ3 H5 else N ys σ3 H4))
theorem uy{tA:TA}{js:List Nat}{nt:Nat}{g:TG}{tt:TT}{te:TE}{σ:St}{H:Hp}{Q:VK}(h:tA σ H λvs H1=>∃j:Int,vs=[.int j]/\ -(2^62)<=j/\j<2^62/\Ii (Itr 0 j.toNat) js nt g tt te σ H1 Q):Yg js nt (iz tA) g tt te σ H Q:=h
theorem vy{K:PySem.W.Frag}{tl:TE}{js:List Nat}{nt:Nat}{g:TG}{tt:TT}{te:TE}{σ:St}{H:Hp}{Q:VK}(h:tl σ H λx H1=>∃a,x= .ref a/\(∃xs,SqL K H1 a xs)/\Ii (Itl K a) js nt g tt te σ H1 Q):Yg js nt (vv K tl) g tt te σ H Q:=h
theorem qy{K:PySem.W.Frag}{tl:TE}{js:List Nat}{nt:Nat}{g:TG}{tt:TT}{te:TE}{σ:St}{H:Hp}{Q:VK}(h:tl σ H λx H1=>∃a,x= .ref a/\(∃xs,SqT K H1 a xs)/\Ii (Itt K a) js nt g tt te σ H1 Q):Yg js nt (iTup K tl) g tt te σ H Q:=h
theorem r_yes{σ:St}{H:Hp}{QB:Bool->Hp->Prop}(h:QB true H):tYes σ H QB:=h
theorem compR{j:Int}{js:List Nat}{g:TG}{tt:TT}{te:TE}{σ:St}{H:Hp}{Q:VK}(caps:St)(Pv:Nat->List V->Hp->Prop)(hcaps:cap σ js 1=caps++[none])(h1:j<16777216)(h2: -(2^62)<=j)(h0:Pv 0 [] H)
 (hlen:∀i ys H,Pv i ys H->ys.length<=i)
 (hs:∀(i:Nat) ys z H,(i:Int)<j->Pv i ys H->g (.int (i:Int)) (caps++[z]) H λσ3 H3=>tt σ3 H3 λok H4=>if ok=true then te σ3 H4 λy H5=>Pv (i+1) (ys++[y]) H5/\∃z,σ3=caps++[z] else Pv (i+1) ys H4/\∃z,σ3=caps++[z])
 (hd:∀ys H,Pv j.toNat ys H->∀D,H D=none->Q (.ref D) (upd H D (.lst ys))):∃j':Int,[V.int j]=[.int j']/\ -(2^62)<=j'/\j' <2^62/\Ii (Itr 0 j'.toNat) js 1 g tt te σ H Q:=by
 refine⟨j,rfl,h2,by omega,λi m ys σ' H'=>m=j.toNat-i/\i<=j.toNat/\Pv i ys H'/\∃z,σ'=caps++[z],⟨j.toNat,by simp,Nat.zero_le _,h0,none,hcaps⟩,?_⟩;rintro i m ys σ' H' ⟨rfl,hi,p,z,rfl⟩
 refine⟨by have:=hlen i ys H' p;rw[sizeLine_eq];omega,?_⟩;by_cases hlt:i<j.toNat
 . refine .inr ⟨hlt,λys σ' H'=>Pv (i+1) ys H'/\∃z,σ'=caps++[z],λys σ' H' ⟨p',q'⟩=>⟨j.toNat-(i+1),by omega,rfl,hlt,p',q'⟩,λx H2 y=>?_⟩
   obtain⟨e1,e2⟩:=y;subst e1 e2;rw[Int.zero_add];exact hs i ys z _ (by omega) p
 . have e:i=j.toNat:=by omega
   subst e;exact .inl ⟨Nat.le_refl _,hd ys H' p⟩
theorem jt{K:PySem.W.Frag}{a:Addr}{xs:List V}{js:List Nat}{g:TG}{tt:TT}{te:TE}{σ:St}{H:Hp}{Q:VK}(caps:St)(Pv:Nat->List V->Hp->Prop)(hcaps:cap σ js 1=caps++[none])(hsz:xs.length<sizeLine)(h0:Pv 0 [] H)
 (hl:∀i ys H,i<=xs.length->Pv i ys H->SqL K H a xs)(hlen:∀i ys H,Pv i ys H->ys.length<=i)
 (hs:∀(i:Nat) x ys z H,xs[i]?=some x->Pv i ys H->g x (caps++[z]) H λσ3 H3=>tt σ3 H3 λok H4=>if ok=true then te σ3 H4 λy H5=>Pv (i+1) (ys++[y]) H5/\∃z,σ3=caps++[z] else Pv (i+1) ys H4/\∃z,σ3=caps++[z])
 (hd:∀ys H,Pv xs.length ys H->∀D,H D=none->Q (.ref D) (upd H D (.lst ys))):∃a',V.ref a= .ref a'/\(∃xs,SqL K H a' xs)/\Ii (Itl K a') js 1 g tt te σ H Q:=by
 refine⟨a,rfl,⟨xs,hl 0 [] H (Nat.zero_le _) h0⟩,λi m ys σ' H'=>m=xs.length-i/\i<=xs.length/\Pv i ys H'/\∃z,σ'=caps++[z],⟨xs.length,by simp,Nat.zero_le _,h0,none,hcaps⟩,?_⟩;rintro i m ys σ' H' ⟨rfl,hi,p,z,rfl⟩
 refine⟨by have:=hlen i ys H' p;omega,?_⟩;have q:=hl i ys H' hi p;by_cases hlt:i<xs.length
 . refine .inr ⟨⟨xs,xs[i],q,by simp[hlt]⟩,λys σ' H'=>Pv (i+1) ys H'/\∃z,σ'=caps++[z],λys σ' H' ⟨p',q'⟩=>⟨xs.length-(i+1),by omega,rfl,hlt,p',q'⟩,λx H2 y=>?_⟩
   obtain⟨e,y⟩:=y;subst e;exact hs i x ys z _ (y xs q) p
 . have e:i=xs.length:=by omega
   subst e;exact .inl ⟨⟨xs,q,Nat.le_refl _⟩,hd ys H' p⟩
theorem uz{K:PySem.W.Frag}{a:Addr}{xs:List V}{js:List Nat}{g:TG}{tt:TT}{te:TE}{σ:St}{H:Hp}{Q:VK}(caps:St)(Pv:Nat->List V->Hp->Prop)(hcaps:cap σ js 1=caps++[none])(hsz:xs.length<sizeLine)(h0:Pv 0 [] H)
 (hl:∀i ys H,i<=xs.length->Pv i ys H->SqT K H a xs)(hlen:∀i ys H,Pv i ys H->ys.length<=i)
 (hs:∀(i:Nat) x ys z H,xs[i]?=some x->Pv i ys H->g x (caps++[z]) H λσ3 H3=>tt σ3 H3 λok H4=>if ok=true then te σ3 H4 λy H5=>Pv (i+1) (ys++[y]) H5/\∃z,σ3=caps++[z] else Pv (i+1) ys H4/\∃z,σ3=caps++[z])
 (hd:∀ys H,Pv xs.length ys H->∀D,H D=none->Q (.ref D) (upd H D (.lst ys))):∃a',V.ref a= .ref a'/\(∃xs,SqT K H a' xs)/\Ii (Itt K a') js 1 g tt te σ H Q:=by
 refine⟨a,rfl,⟨xs,hl 0 [] H (Nat.zero_le _) h0⟩,λi m ys σ' H'=>m=xs.length-i/\i<=xs.length/\Pv i ys H'/\∃z,σ'=caps++[z],⟨xs.length,by simp,Nat.zero_le _,h0,none,hcaps⟩,?_⟩;rintro i m ys σ' H' ⟨rfl,hi,p,z,rfl⟩
 refine⟨by have:=hlen i ys H' p;omega,?_⟩;have q:=hl i ys H' hi p;by_cases hlt:i<xs.length
 . refine .inr ⟨⟨xs,xs[i],q,by simp[hlt]⟩,λys σ' H'=>Pv (i+1) ys H'/\∃z,σ'=caps++[z],λys σ' H' ⟨p',q'⟩=>⟨xs.length-(i+1),by omega,rfl,hlt,p',q'⟩,λx H2 y=>?_⟩
   obtain⟨e,y⟩:=y;subst e;exact hs i x ys z _ (y xs q) p
 . have e:i=xs.length:=by omega
   subst e;exact .inl ⟨⟨xs,q,Nat.le_refl _⟩,hd ys H' p⟩
end L2
namespace L2
open PySem PySem.Spec PyProof.Rows
def rAll(K:PySem.W.Frag):List V->Hp->VK->Prop:=λxs H Q=>∃(p:Addr) (bs:List Bool),xs=[.ref p]/\SqL K H p (bs.map V.bl)/\Q (.bl (bs.all id)) H
theorem mj:∀{bs:List Bool} {us:List Value},Vals (bs.map V.bl) us->us=bs.map Value.bool
 | [],us,r=>by rw[List.map_nil]at r;cases r;rfl
 | b::bs,us,r=>by
  rw[List.map_cons]at r;cases r with
  | cons r1 r2=>rw[mj r2,show _=Value.bool b from r1];rfl
theorem range_all:∀(bs:List Bool),(List.range bs.length).all (λi=>bs.getD i false)=bs.all id
 | []=>rfl
 | b::bs=>by
  rw[List.length_cons,List.range_succ_eq_map,List.all_cons,List.all_map,List.all_cons,<-range_all bs];rfl
section
variable {X : Cx}
theorem Nv{bs:List Bool}{i:Nat}{v:Value}(h:(bs.map Value.bool).toArray[i]?=some v):v= .bool (bs.getD i false):=by
 rw[List.getElem?_toArray,List.getElem?_map]at h;cases q:bs[i]? with
 | none=>rw[q]at h;cases h
 | some b=>rw[q]at h;rw[List.getD_eq_getElem?_getD,q];exact(Option.some.inj h).symm
theorem cl_all(hc:X.calm=true):vc X (.builtin "all") (rAll X.K):=by
 intro pins s σ H xs us Q I r h;obtain⟨p,bs,rfl,hq,q⟩:=h;obtain⟨u,rfl,rx⟩:=vals1 r;cases rx;obtain⟨its,r',pl,hz⟩:=I.list hq;have e:=mj r';subst e;have hl:=pl.isList;have hlt:p<s.heap.objs.size:=by obtain⟨_,e,_⟩:=hl;exact Heap.lt_size e
 refine PySem.call_all_walk (wpAny_pyIter_list hl ?_);refine⟨_,_,_,_,_,_,λi=>bs.getD i false,rfl,Walks.list (A:=X.A.in1) (I.ok.hd hc) s.heap.objs.size p (Nat.ne_of_lt hlt) _,⟨⟨_,Heap.get?_push_size _ rfl,rfl,rfl⟩,hl.push _⟩,?_,λh' tk hk=>?_⟩
 . intro i v s' Q' E' hP hQ'
   rw[Nv hP];exact wpAny_truthy_bool hQ'
 . refine⟨.bl (bs.all id),H,?_,?_,q⟩
   . exact I.kept (t':=tk) λb o e=>hk b o (λz=>absurd (Heap.lt_size e) (by rw[List.mem_singleton.mp z];exact Nat.lt_irrefl _)) (Heap.get?_push_of_some _ e)
   . show Value.bool _=Value.bool _
     rw[show (bs.map Value.bool).toArray.size=bs.length by simp,range_all]
end
section
variable {K : PySem.W.Frag} {H : Hp} {Q : VK}
theorem r_all{p:Addr}{bs:List Bool}(h1:H p=some (.lst (bs.map V.bl)))(h:Q (.bl (bs.all id)) H):rAll K [.ref p] H Q:=⟨p,bs,rfl,SqL.of h1,h⟩
end
def CellsOk(X:Cx):List (Str×Addr)->Prop
 | []=>True
 | p::r=>X.env.cells.lookup p.1=some p.2/\CellsOk X r
theorem CellsOk.all{X:Cx}:∀{cl:List (Str×Addr)},CellsOk X cl->∀p∈cl,X.env.cells.lookup p.1=some p.2
 | [],_,p,h=>by cases h
 | q::r,⟨h1,h2⟩,p,h=>by
  rcases List.mem_cons.mp h with rfl|h
  . exact h1
  . exact CellsOk.all h2 p h
theorem cap1{X:Cx}{e:Env}{x:Str}{j:Nat}(h1:X.N[j]?=some x)(h2:X.env.scope.names.lookup x=some .cell)(h3:e.scope.names.lookup x=some .cell)(h4:e.cells.lookup x=X.env.cells.lookup x) :
 X.N[j]?=some x/\Vis X.env.scope x/\X.env.kindOf x≠some .local/\(e.kindOf x=some .cell\/e.kindOf x=some .free)/\e.cells.lookup x=X.env.cells.lookup x :=
 ⟨h1,.inr (.inl h2),(λh=>by have h':X.env.scope.names.lookup x=some .local:=h;rw[h2]at h';cases h'),.inl h3,h4⟩
theorem Lc{env:Env}:∀{names:List (Str×NameKind)} {x:Str} {k':NameKind},
 (names.map λ(n,k)=>if (k==NameKind.free&&env.scope.kind== .function&&env.kindOf n==some .cell) then (n,NameKind.cell) else (n,k)).lookup x=some k'->∃k,(x,k)∈names/\(k'=k\/k= .free)
 | [],_,_,h=>by simp at h
 | (n, k) :: r, x, k', h => by
  rw[List.map_cons]at h;dsimp only at h;by_cases hx:x=n
  . subst hx
    refine⟨k,List.mem_cons_self,?_⟩;by_cases c:(k==NameKind.free&&env.scope.kind== .function&&env.kindOf x==some .cell)=true
    . right
      simp only[Bool.and_eq_true,beq_iff_eq]at c;exact c.1.1
    . rw[if_neg c]at h
      simp only[List.lookup_cons_self,Option.some.injEq]at h;exact .inl h.symm
  . have hx':(x==n)=false:=by simpa using hx
    have h2:(r.map λ(n,k)=>if (k==NameKind.free&&env.scope.kind== .function&&env.kindOf n==some .cell) then (n,NameKind.cell) else (n,k)).lookup x=some k':=by
     by_cases c:(k==NameKind.free&&env.scope.kind== .function&&env.kindOf n==some .cell)=true
     . rw[if_pos c,List.lookup_cons,hx']at h;exact h
     . rw[if_neg c,List.lookup_cons,hx']at h;exact h
    obtain⟨k0,m,e⟩:=Lc h2;exact⟨k0,List.mem_cons_of_mem _ m,e⟩
theorem Gw{X:Cx}{scope:Scope}{cl:List (Str×Addr)}(hcell:∀y∈scope.names,y.2≠ .cell)(h:(scope.names.all λy=>y.2 !=.free||(cl.lookup y.1).isSome)=true) :
 ∀C x,((compEnvC scope cl C X.env).kindOf x=some .cell\/(compEnvC scope cl C X.env).kindOf x=some .free)->∃c,cl.lookup x=some c:=by
 intro C x hx;obtain⟨k',hk,e⟩:∃k',(relabel scope X.env).names.lookup x=some k'/\(k'= .cell\/k'= .free):=by
  rcases hx with hx|hx
  . exact⟨_,hx,.inl rfl⟩
  . exact⟨_,hx,.inr rfl⟩
 obtain⟨k,m,e2⟩:=Lc hk;have hf:k= .free:=by
  rcases e2 with e2|e2
  . subst e2
    rcases e with e|e
    . exact absurd e (hcell _ m)
    . exact e
  . exact e2
 have z:=List.all_eq_true.mp h _ m;rw[hf]at z;have z':(cl.lookup x).isSome=true:=by simpa using z
 exact Option.isSome_iff_exists.mp z'
theorem jf{X:Cx}{elt tg iter:Expr}{ifs:List Expr}{scope:Scope}{pos:Pos}{cl:List (Str×Addr)}{wi:TI}{g:TG}{tt:TT}{te:TE}(cN tN:List Str)(js:List Nat)
 (hclos:closureFor scope X.env=pure cl)(hc:X.calm=true)(hx0:X.xe=λ_ _=>False)(hi:PI X tg iter wi)
 (hcell:∀y∈scope.names,y.2≠ .cell)(hkind:scope.kind= .function)(hnames:∀y∈scope.names,y.2= .local->scope.names.lookup y.1=some .local)
 (hcl:CellsOk X cl)(hall:(scope.names.all λy=>y.2 !=.free||(cl.lookup y.1).isSome)=true)(hcap:∀C,vh X (compEnvC scope cl C X.env) cN js)
 (hg:∀C s₀ H₀ ex,PG (cxIn X scope cl C (cN++tN) s₀ H₀ ex) tg g)(ht:∀C s₀ H₀ ex,PTs (cxIn X scope cl C (cN++tN) s₀ H₀ ex) ifs tt)(he:∀C s₀ H₀ ex,PE (cxIn X scope cl C (cN++tN) s₀ H₀ ex) elt te)
 (hs:∀x,foldedSetIterable iter X.env x=pure x:=by intro _;first|rfl|with_unfolding_all rfl) :
 PE X (.ListComp elt [⟨tg,iter,ifs,0⟩] scope pos) (Yg js tN.length wi g tt te) :=
 Pu hc hi hclos (λ_=>zf hcell) hkind hnames hcl.all (Gw hcell hall) hcap hg ht he hs
end L2
namespace HT
open PySem PyProof.Rows
section
variable {prog : Program} {w : World} {A : Around} {E : Value -> Shared -> Prop} {s : Shared}
theorem Sf{t sl:Addr}{items:Array Value}{vl vu:Value}{lo hi:Option Int}{Q:Value->Shared->Prop}(ht:IsTup s.heap t items)(hs:s.heap.IsSliceOf sl vl vu .none)(pl:IsPart vl lo)(pu:IsPart vu hi)
 (hw:sIx items.size 0 lo=0/\sIx items.size items.size hi=items.size)(h:Q (.ref t) s):wpAny (model prog w) A (getItem (.ref t) (.ref sl)) Q E s:=by
 obtain⟨os,hos,hcs,hds⟩:=id hs;have hTs:s.TypeIs (.ref sl) "slice":=⟨os,hos,hcs⟩
 unfold getItem
 try with_reducible refine wpAny_holding ?_
 first|refine wpAny_bind (wpAny_pure ?_)|skip
 refine wpAny_bind (wpAny_sequenceKey ht.typeIs (by decide) ?_);refine wpAny_bind (wpAny_callSpecial?_slot (name:=Str.ofString "__getitem__") ht.typeIs PyProof.Rows.slot_tuple_getitem
  (wpAny_call_entry PyProof.Rows.slot_tuple_getitem ht.typeIs entry_tuple_getitem ?_ (args_tuple_getitem _ _)))
 show wpAny _ _ (Builtin.Tuple.tupleItemsOf (.ref t) >>= _) _ _ s;refine wpAny_bind (tupleItemsOf_ ht ?_);refine wpAny_bind (wpAny_typeOf hTs ?_);rw[if_pos (by decide)];refine wpAny_bind (fe hs pl pu ?_);have hyes:(((sIx items.size 0 lo:Nat):Int)==0&&(1:Int)==1&&(sIx items.size items.size hi-sIx items.size 0 lo)==items.size)=true:=by
  rw[hw.1,hw.2];simp
 show wpAny _ _ (if (((sIx items.size 0 lo:Nat):Int)==0&&(1:Int)==1&&(sIx items.size items.size hi-sIx items.size 0 lo)==items.size)=true then _ else _) _ _ s;rw[if_pos hyes];unfold Builtin.Tuple.tupleIsExact;refine wpAny_bind (wpAny_bind (wpAny_typeOf ht.typeIs (wpAny_pure ?_)));rw[if_pos (by decide)]
 first
  | exact wpAny_bind (wpAny_rule (wpAny_bind (wpAny_pure (wpAny_pure ⟨_,rfl,wpAny_pure h⟩))))
  | exact wpAny_bind (wpAny_rule (wpAny_bind (wpAny_pure ⟨_,rfl,wpAny_pure h⟩)))
  | exact wpAny_bind (wpAny_rule (wpAny_pure ⟨_,rfl,wpAny_pure h⟩))
theorem Lv{t b:Addr}{ws:List Value}{Q:Value->Shared->Prop}(ht:IsTup s.heap t ([]:List Value).toArray)(hb:IsTup s.heap b ws.toArray)(h:Q (.ref b) s):wpAny (model prog w) A (binaryOp .Add (.ref t) (.ref b)) Q E s:=by
 obtain⟨⟨cls,dd,data,sl⟩,ho,hc,n,hd⟩:=id ht;obtain⟨⟨cls2,dd2,data2,sl2⟩,ho2,hc2,n2,hd2⟩:=id hb;simp only at hc hd hc2 hd2;subst hc hd hc2 hd2;exact concat_meets ⟨_,ho,rfl⟩ ⟨_,ho2,rfl⟩ noFill_tuple_add seq_tuple_add PySem.F.slot_tuple_add PySem.F.entry_tuple_add (PySem.F.args_tuple_add_2 _ _)
  (tuple_addW0 t b _ ws.toArray n n2 dd dd2 sl sl2 rfl) ⟨ho,ho2,h⟩
end
end HT
namespace L2
open PySem PySem.Spec PyProof.Rows
section
variable {X : Cx}
def rSlTt:V->Option Int->Option Int->Hp->VK->Prop:=λx lo hi H Q=>∃a xs,x= .ref a/\H a=some (.tup xs)/\∀p H',Same H H'->H' p=some (.tup (cutV xs lo hi))->Q (.ref p) H'
theorem Ex:SlR X rSlTt:=by
 intro pins s σ H x v vl vu lo hi sl Q I rx hs pl pu h;obtain⟨a,xs,rfl,hx,q⟩:=h;by_cases hw:HT.sIx xs.length 0 lo=0/\HT.sIx xs.length xs.length hi=xs.length
 . cases rx
   obtain⟨its,r,ht,hz⟩:=I.tuple (SqT.of hx);have hlen:its.toArray.size=xs.length:=by rw[List.size_toArray];exact r.length.symm
   refine⟨"tuple",_,PyProof.Rows.slot_tuple_getitem.lookup,ht.typeIs,?_⟩;refine HT.Sf ht hs pl pu (by rw[hlen];exact hw) ⟨.ref a,H,I,rfl,q a H (Same.refl H) ?_⟩;rw[hx];unfold cutV;rw[hw.1,hw.2,List.drop_zero,Nat.sub_zero,List.take_length]
 . exact sl_tup pins s σ H (.ref a) v vl vu lo hi sl Q I rx hs pl pu ⟨a,xs,rfl,SqT.of hx,hw,λp hp=>q p _ ((Same.refl H).new hp) da⟩
def rSl2(K:PySem.W.Frag):V->Option Int->Option Int->Hp->VK->Prop:=λx lo hi H Q=>rSlL K x lo hi H Q\/rSlTt x lo hi H Q
theorem sl_2:SlR X (rSl2 X.K):=Fx.or Ex
def uw:R2:=λx y H Q=>∃a b xs ys,x= .ref a/\y= .ref b/\H a=some (.tup xs)/\H b=some (.tup ys)/\xs.length+ys.length<=sizeLine/\∀p H',Same H H'->H' p=some (.tup (xs++ys))->Q (.ref p) H'
theorem Ru:OpR X (binaryOp .Add) uw:=by
 intro pins s σ H x y v u Q I rx ry h;obtain⟨a,b,xs,ys,rfl,rfl,ha,hb,hz,q⟩:=h;by_cases hx:xs=[]
 . subst hx
   cases rx;cases ry;obtain⟨its,r1,p1,_⟩:=I.tuple (SqT.of ha);obtain⟨its2,r2,p2,_⟩:=I.tuple (SqT.of hb);cases r1;exact HT.Lv p1 p2 ⟨.ref b,H,I,rfl,q b H (Same.refl H) hb⟩
 . refine Lr pins s σ H _ _ v u Q I rx ry ⟨a,b,xs,ys,rfl,rfl,SqT.of ha,SqT.of hb,hx,hz,λe=>?_,λe p hp=>q p _ ((Same.refl H).new hp) da⟩
   subst e;exact q a H (Same.refl H) (by rw[List.append_nil];exact ha)
def Dp(K:PySem.W.Frag):R2:=λx y H Q=>Fu K x y H Q\/uw x y H Q
theorem Ny:OpR X (binaryOp .Add) (Dp X.K):=Oy.or Ru
end
section
variable {K : PySem.W.Frag} {H : Hp} {Q : VK} {σ : St}
theorem Yq{p q:Int}(h:Q (.int (p+q)) H):Dp K (.int p) (.int q) H Q:=.inl (r_addI h)
theorem Vh{a b:Addr}{xs ys:List V}(h1:H a=some (.lst xs))(h2:H b=some (.lst ys))(h3:xs.length+ys.length<=sizeLine)(h:∀p,H p=none->Q (.ref p) (upd H p (.lst (xs++ys)))):Dp K (.ref a) (.ref b) H Q:=.inl (r_addL h1 h2 h3 h)
theorem Vm{a b:Addr}{xs ys:List V}(h1:H a=some (.tup xs))(h2:H b=some (.tup ys))(h3:xs.length+ys.length<=sizeLine)(h:∀p H',Same H H'->H' p=some (.tup (xs++ys))->Q (.ref p) H'):Dp K (.ref a) (.ref b) H Q:=.inr ⟨a,b,xs,ys,rfl,rfl,h1,h2,h3,h⟩
theorem Vx{r:V->Option Int->Option Int->Hp->VK->Prop}{te:TE}{tl th:TO}(h:te σ H λx H1=>tl σ H1 λl H2=>th σ H2 λu H3=>r x l u H3 Q):tSl r te tl th σ H Q:=h
theorem yu{QO:Option Int->Hp->Prop}(h:QO none H):pq σ H QO:=h
theorem r_part{te:TE}{QO:Option Int->Hp->Prop}(h:te σ H λx H1=>∃i,x= .int i/\QO (some i) H1):tPart te σ H QO:=h
theorem Yx{p:Int}{P:Int->Prop}(h:P p):∃i,V.int p= .int i/\P i:=⟨p,rfl,h⟩
theorem Uh{a:Addr}{xs:List V}{lo hi:Option Int}(h1:H a=some (.lst xs))(h:∀p,H p=none->Q (.ref p) (upd H p (.lst (cutV xs lo hi)))):rSl2 K (.ref a) lo hi H Q:=.inl ⟨a,xs,rfl,SqL.of h1,h⟩
theorem cut_to{xs:List V}{k:Nat}:cutV xs none (some (k:Int))=xs.take k:=by
 unfold cutV;rw[HT.xo,HT.Rq,List.drop_zero,Nat.sub_zero];by_cases h:k<=xs.length
 . rw[Nat.min_eq_left h]
 . rw[Nat.min_eq_right (by omega),List.take_length,List.take_of_length_le (by omega)]
end
end L2
namespace L2
open PySem PySem.Spec PyProof.Rows
section
variable {X : Cx} {K : PySem.W.Frag}
theorem ixK(h:X.K=K):IxR X (rIx2 K):=by subst h;exact ix_2
theorem addK(h:X.K=K):OpR X (binaryOp .Add) (Dp K):=by subst h;exact Ny
theorem eqK(h:X.K=K)(hu:X.A.units+64<cLine):OpR X (compareOp .Eq) (rEqA K):=by subst h;exact op_eqA hu
theorem neK(h:X.K=K)(hu:X.A.units+64<cLine):OpR X (compareOp .NotEq) (rNeA K):=by subst h;exact op_neA hu
theorem ltK(h:X.K=K)(hu:X.A.units+64<cLine):OpR X (compareOp .Lt) (rLtA K):=by subst h;exact op_ltA hu
theorem leK(h:X.K=K)(hu:X.A.units+64<cLine):OpR X (compareOp .LtE) (rLeA K):=by subst h;exact op_leA hu
theorem lenK(h:X.K=K):vc X (.builtin "len") (rLen K):=by subst h;exact cl_len
theorem Hn(h:X.K=K):vc X (.type "list") (Wh K):=by subst h;exact vz
theorem pj(h:X.K=K):vc X (.type "tuple") (rk K):=by subst h;exact Kv
theorem allK(h:X.K=K)(hc:X.calm=true):vc X (.builtin "all") (rAll K):=by subst h;exact cl_all hc
theorem truK{a:Expr}{ta:TE}(h:X.K=K)(ha:PE X a ta)(he:∀whole,isTrue a X.env whole=(do let v<-whole;standAt a.pos;holding [v] (truthy v)):=by intro _;first|rfl|with_unfolding_all rfl):PT X a (tTru K ta):=by subst h;exact pt_tru ha he
theorem piLK{tg l:Expr}{tl:TE}(h:X.K=K)(hl:PE X l tl):PI X tg l (vv K tl):=by subst h;exact Fy hl
theorem piTK{tg l:Expr}{tl:TE}(h:X.K=K)(hl:PE X l tl):PI X tg l (iTup K tl):=by subst h;exact pi_tup hl
theorem slK(h:X.K=K):SlR X (rSl2 K):=by subst h;exact sl_2
theorem xi{es:List Expr}{k:Nat}{t:TGs}{n:Nat}{pos:Pos}(hk:X.K=K)(hc:X.calm=true)(h:PGs X es t)
 (hn:(assignEach es X.env).length=n:=by first|rfl|with_unfolding_all rfl)(hst:(assignEach es X.env).findIdx? (·.1)=none:=by first|rfl|with_unfolding_all rfl):PG X (.Tuple es k pos) (gTup K n t):=by subst hk;exact pg_tup hc h hn hst
end
end L2
namespace L2
open PySem PySem.Spec PyProof.Rows
section
variable {X : Cx} {pins : List (Addr × Obj)} {σ : St} {H : Hp} {s : Shared} {h' : Heap}
theorem Inv.Kj{t':Nat}{ch:List Addr}(I:Inv X pins σ H s)(k:∀b o,b∉ch->s.heap.get? b=some o->h'.get? b=some o)(hf:∀b∈ch,FpOk X pins H b):Inv X pins σ H { s with heap:=h',toks:=t' }:=by
 have nit:∀b u,H b=some u->b∉ch:=λb u e z=>by rw[(hf b z).1]at e;cases e
 refine I.step (g':=s.gens) (d':=s.drawn) (ch:=ch) (λb hb=>?_) (λb o _ _ hc e _=>k b o hc e) (λb o _ _ hc e _=>⟨o.slots,k b o hc e⟩) (λ_ _ _ _ n=>n)
  (λb o hc e=>⟨o,k b o hc e⟩) (λ_ _ e=>e) (λ_ _ _ e=>e) (λb ps e=>⟨#[],by rw[e];simp⟩) (λm hm=>?_) (λb u e=>?_) I.bare
 . obtain⟨f0,f1,f2,f3,f4,f5⟩:=hf b hb
   exact⟨f3,f1,f4,f5⟩
 . obtain⟨o,es,ep,ho,r⟩:=hm
   exact⟨o,es,ep,k _ o (λz=>(hf _ z).2.1 rfl) ho,r⟩
 . refine(I.hok b u e).stay (λc v hc q=>k c v ?_ q) (λ_ q=>q) λ_ _ q=>q
   rcases hc with z|z
   . rw[z];exact nit b u e
   . exact nit c _ z
theorem Inv.Eh{t':Nat}{ch:List Addr}{a:Addr}{o:HO}(I:Inv X pins σ H s)(k:∀b u,b∉ch->s.heap.get? b=some u->h'.get? b=some u)(hf:∀b∈ch,FpOk X pins H b)(hp:s.heap.objs.size<=a)
 (new:Bc X.prog X.w (upd H a o) h' a o):Inv X pins σ (upd H a o) { s with heap:=h',toks:=t' }:=by
 have hn:H a=none:=I.hok.fresh hp;have I1:=I.Kj (t':=t') k hf;have nea:∀b u,s.heap.get? b=some u->b≠a:=λb u e=>Nat.ne_of_lt (Nat.lt_of_lt_of_le (Heap.lt_size e) hp);refine I.step (g':=s.gens) (d':=s.drawn) (ch:=ch) (λb hb=>?_) (λb o _ _ hc e _=>k b o hc e) (λb o _ _ hc e _=>⟨o.slots,k b o hc e⟩) (λb u _ e n=>by rw[va (nea b u e)];exact n)
  (λb o hc e=>⟨o,k b o hc e⟩) (λb xs e=>by rw[va (ba e hn)];exact e) (λb o u e=>by rw[va (ba e hn)];exact e) (λb ps e=>⟨#[],by rw[va (ba e hn),e];simp⟩) (λm hm=>?_) (I1.hok.track hn new) I.bare
 . obtain⟨f0,f1,f2,f3,f4,f5⟩:=hf b hb
   exact⟨f3,f1,f4,f5⟩
 . obtain⟨o,es,ep,ho,r⟩:=hm
   exact⟨o,es,ep,k _ o (λz=>(hf _ z).2.1 rfl) ho,r⟩
end
def Ite(a:Addr):It :=
 ⟨λi H=>∃xs x,H a=some (.lst xs)/\xs[i]?=some x,λi H v H'=>∃T xs x,v= .ref T/\H T=none/\H a=some (.lst xs)/\xs[i]?=some x/\H'=upd H T (.tup [.int (i:Int),x]),λi H=>∃xs,H a=some (.lst xs)/\xs.length<=i⟩
theorem El{P:Program}{w:World}{K:PySem.W.Frag}{elts:List Expr}{k:Nat}{pos:Pos}(a e it:Addr)(hei:e≠it)(hae:a≠e)(hai:a≠it) :
 Turn P w K (.Tuple elts k pos) (Ite a) [e,it] e (λi h=>(∃old,IsEnum h e it i old)/\h.IsListIter it a i) where
 mem:=by simp
 obj:=λi h st b hb=>by
  obtain⟨⟨old,he⟩,o,ho,c,d⟩:=st;rcases List.mem_cons.mp hb with rfl|hb
  . exact⟨_,he,λv z=>by cases z⟩
  . have e':b=it:=by simpa using hb
    subst e';exact⟨o,ho,λv z=>by rw[d]at z;cases z⟩
 keep:=λi h h' st k=>by
  obtain⟨⟨old,he⟩,hi⟩:=st;exact⟨⟨old,k e (by simp) _ he⟩,hi.at λo q=>k it (by simp) o q⟩
 item:=by
  intro X hP hw hK hc i pins s σ H E I hf st hg;subst hP hw hK;obtain⟨xs,x,hq,hx⟩:=hg;obtain⟨its,rv,p,hz⟩:=I.list (SqL.of (K:=X.K) hq);obtain⟨u,hu,ru⟩:=rv.get hx;have W:=WalksT.enumerate (prog:=X.prog) (w:=X.w) (I.ok.hd hc) e it a hei hae hai its.toArray;have hlt:i<its.toArray.size:=by
   have:=(List.getElem?_eq_some_iff.mp hu).1;simpa using this
  refine W.item i s _ _ hlt ⟨st.1,st.2,p.isList⟩ λT vals h1 tk hPt hT hTup hMid hk=>?_;have hTw:=W.apart _ _ _ hMid;refine⟨_,rfl,W.go elts k pos i T _ _ _ hMid λh2 hSt hk2=>?_⟩;obtain⟨t,x',hx',hv⟩:=hPt;have ex:x'=u:=by
   rw[List.getElem?_toArray,hu]at hx';exact(Option.some.inj hx').symm
  subst ex;subst hv;have hTn:H T=none:=I.hok.fresh hT;refine⟨.ref T,upd H T (.tup [.int (i:Int),x]),?_,rfl,⟨T,xs,x,rfl,hTn,hq,hx,rfl⟩,⟨hSt.1,hSt.2.1⟩,λb hb=>?_⟩
  . refine I.Eh (t':=tk) (ch:=[e,it]) (λb o hb q=>hk2 b o hb (hk b o hb q)) hf hT ?_
    refine⟨by simp only[List.length_cons,List.length_nil];rw[sizeLine_eq];decide,[.int (i:Int) t,x'],.cons ⟨_,rfl⟩ (.cons ru .nil),?_⟩;obtain⟨o,ho,c,n,d⟩:=hTup;exact⟨o,hk2 T o hTw ho,c,n,d⟩
  . rw[va (λz=>by subst z;exact hTw hb)]
    exact(hf b hb).1
 done:=by
  intro X hP hw hK hc i pins s σ H E I hf st hg;subst hP hw hK;obtain⟨xs,hq,hx⟩:=hg;obtain⟨its,rv,p,hz⟩:=I.list (SqL.of (K:=X.K) hq);obtain⟨⟨old,he⟩,hit⟩:=st;have hl:=rv.length;refine wpAny_pyNext_enum_end (I.ok.hd hc) he hit p.isList (by rw[List.getElem?_toArray];exact List.getElem?_eq_none (by omega)) λh' hx'=>⟨rfl,?_⟩
  exact I.Kj (t':=s.toks) (ch:=[e,it]) (λb o hb q=>hx' b o (λz=>hb (by simp[z])) q) hf
 self:=λA i s Q E st h=>by
  obtain⟨⟨old,he⟩,_⟩:=st;exact wpAny_pyIter_enum he h
def Itz(a b:Addr):It :=
 ⟨λi H=>∃xs ys x y,H a=some (.lst xs)/\H b=some (.lst ys)/\xs[i]?=some x/\ys[i]?=some y,
  λi H v H'=>∃T xs ys x y,v= .ref T/\H T=none/\H a=some (.lst xs)/\H b=some (.lst ys)/\xs[i]?=some x/\ys[i]?=some y/\H'=upd H T (.tup [x,y]),
  λi H=>∃xs ys,H a=some (.lst xs)/\H b=some (.lst ys)/\(xs.length<=i\/ys.length<=i)⟩
theorem Mt{P:Program}{w:World}{K:PySem.W.Frag}{elts:List Expr}{k:Nat}{pos:Pos}(a b z TI TO i1 i2:Addr)(D:ZipApart z TI TO i1 i2 a b) :
 Turn P w K (.Tuple elts k pos) (Itz a b) [z,TI,TO,i1,i2] z (λi h=>IsZip h z TI TO .none/\IsPair h TI (.ref i1) (.ref i2)/\(∃x y,IsPair h TO x y)/\h.IsListIter i1 a i/\h.IsListIter i2 b i) where
 mem:=by simp
 obj:=λi h st c hc=>by
  obtain⟨hz,hTI,⟨x,y,hTO⟩,⟨o1,h1,c1,d1⟩,⟨o2,h2,c2,d2⟩⟩:=st;simp only[List.mem_cons,List.not_mem_nil,or_false]at hc;rcases hc with rfl|rfl|rfl|rfl|rfl
  . exact⟨_,hz,λv q=>by cases q⟩
  . exact⟨_,hTI,λv q=>by cases q⟩
  . exact⟨_,hTO,λv q=>by cases q⟩
  . exact⟨o1,h1,λv q=>by rw[d1]at q;cases q⟩
  . exact⟨o2,h2,λv q=>by rw[d2]at q;cases q⟩
 keep:=λi h h' st k=>by
  obtain⟨hz,hTI,⟨x,y,hTO⟩,h1,h2⟩:=st;exact⟨k z (by simp) _ hz,k TI (by simp) _ hTI,⟨x,y,k TO (by simp) _ hTO⟩,h1.at λo q=>k i1 (by simp) o q,h2.at λo q=>k i2 (by simp) o q⟩
 item:=by
  intro X hP hw hK hc i pins s σ H E I hf st hg;subst hP hw hK;obtain⟨xs,ys,x,y,hq1,hq2,hx,hy⟩:=hg;obtain⟨its1,rv1,p1,_⟩:=I.list (SqL.of (K:=X.K) hq1);obtain⟨its2,rv2,p2,_⟩:=I.list (SqL.of (K:=X.K) hq2);obtain⟨u,hu,ru⟩:=rv1.get hx;obtain⟨v,hv,rv⟩:=rv2.get hy;have W:=WalksT.zip2 (prog:=X.prog) (w:=X.w) (I.ok.hd hc) z TI TO i1 i2 a b D its1.toArray its2.toArray;have hlt:i<min its1.toArray.size its2.toArray.size:=by
   have e1:=(List.getElem?_eq_some_iff.mp hu).1;have e2:=(List.getElem?_eq_some_iff.mp hv).1;simp only[List.size_toArray];omega
  obtain⟨hz,hTI,hTO,h1,h2⟩:=st;refine W.item i s _ _ hlt ⟨hz,hTI,hTO,h1,h2,p1.isList,p2.isList⟩ λT vals hh tk hPt hT hTup hMid hk=>?_;have hTw:=W.apart _ _ _ hMid;refine⟨_,rfl,W.go elts k pos i T _ _ _ hMid λh3 hSt hk2=>?_⟩;obtain⟨x',y',hx',hy',hvs⟩:=hPt;have ex:x'=u:=by rw[List.getElem?_toArray,hu]at hx';exact(Option.some.inj hx').symm
  have ey:y'=v:=by rw[List.getElem?_toArray,hv]at hy';exact(Option.some.inj hy').symm
  subst ex ey hvs;have hTn:H T=none:=I.hok.fresh hT;have hTI':T≠TI:=λq=>by subst q;exact absurd (Nat.lt_of_lt_of_le (Heap.lt_size hTI) hT) (Nat.lt_irrefl _)
  refine⟨.ref T,upd H T (.tup [x,y]),?_,rfl,⟨T,xs,ys,x,y,rfl,hTn,hq1,hq2,hx,hy,rfl⟩,⟨hSt.1,hSt.2.1,hSt.2.2.1,hSt.2.2.2.1,hSt.2.2.2.2.1⟩,λc hc'=>?_⟩
  . refine I.Eh (t':=tk) (ch:=[z,TO,i1,i2]) (λc o hc' q=>hk2 c o hc' (hk c o hc' q)) (λc hc'=>hf c (W.sub c hc'|>λq=>by simp at hc' ⊢;rcases hc' with rfl|rfl|rfl|rfl<;>simp)) hT ?_
    refine⟨by simp only[List.length_cons,List.length_nil];rw[sizeLine_eq];decide,[x',y'],.cons ru (.cons rv .nil),?_⟩;obtain⟨o,ho,c,n,d⟩:=hTup;exact⟨o,hk2 T o hTw ho,c,n,d⟩
  . rw[va (λq=>by
     subst q;simp only[List.mem_cons,List.not_mem_nil,or_false]at hc' hTw;rcases hc' with q|q|q|q|q
     . exact hTw (.inl q)
     . exact hTI' q
     . exact hTw (.inr (.inl q))
     . exact hTw (.inr (.inr (.inl q)))
     . exact hTw (.inr (.inr (.inr q))))]
    exact(hf c hc').1
 done:=by
  intro X hP hw hK hc i pins s σ H E I hf st hg;subst hP hw hK;obtain⟨xs,ys,hq1,hq2,hx⟩:=hg;obtain⟨its1,rv1,p1,_⟩:=I.list (SqL.of (K:=X.K) hq1);obtain⟨its2,rv2,p2,_⟩:=I.list (SqL.of (K:=X.K) hq2);obtain⟨hz,hTI,⟨x,y,hTO⟩,h1,h2⟩:=st;have l1:=rv1.length;have l2:=rv2.length;refine wpAny_pyNext_zip_end (I.ok.hd hc) D hz hTI hTO h1 h2 p1.isList p2.isList ?_ λh' hk=>⟨rfl,?_⟩
  . rcases hx with hx|hx
    . exact .inl (by rw[List.getElem?_toArray];exact List.getElem?_eq_none (by omega))
    . exact .inr (by rw[List.getElem?_toArray];exact List.getElem?_eq_none (by omega))
  . exact I.Kj (t':=s.toks) (ch:=[z,TI,TO,i1,i2]) (λc o hc' q=>hk c o (λq=>hc' (by simp[q])) (λq=>hc' (by simp[q])) (λq=>hc' (by simp[q])) (λq=>hc' (by simp[q])) q) hf
 self:=λA i s Q E st h=>wpAny_pyIter_zip st.1 h
def iEnum(tA:TA):TI:=λσ H R=>tA σ H λvs H1=>∃a xs,vs=[.ref a]/\H1 a=some (.lst xs)/\R (Ite a) H1
def iZip(tA:TA):TI:=λσ H R=>tA σ H λvs H1=>∃a b xs ys,vs=[.ref a,.ref b]/\H1 a=some (.lst xs)/\H1 b=some (.lst ys)/\R (Itz a b) H1
theorem Vg:bootBuiltins "enumerate"=some (.type "enumerate"):=by decide +kernel
theorem bt_zip:bootBuiltins "zip"=some (.type "zip"):=by decide +kernel
section
variable {X : Cx}
theorem Gy{elts:List Expr}{k:Nat}{tp:Pos}{a:Expr}{ta:TA}{p pos:Pos}(hg:Gl X "enumerate")(hm:X.mg "enumerate"=none)(ha:PA X [a] ta)(hs:starEach [a] X.env=[(false,eval a X.env)]:=by first|rfl|with_unfolding_all rfl) :
 PI X (.Tuple elts k tp) (.Call (.Name "enumerate" p) [a] [] pos) (iEnum ta):=by
 intro pins s σ H R I h;refine Call_ (yf I hg hm Vg (PyProof.Rows.callWith_type1 (thn (ha pos pins s σ H _ I h) λus s1 ⟨vs,H1,I1,r1,q1⟩=>?_) hs rfl));obtain⟨l,xs,e,hl,q⟩:=q1;subst e;cases r1 with
 | cons r rr =>
  cases rr;cases r;obtain⟨_,its,n,_,_,hget⟩:=I1.lstM hl;have hll:l<s1.heap.objs.size:=Heap.lt_size hget;refine call_enumerate_1 hget λh' he hi hsz hk=>wpAny_pyIter_enum he ?_;have I2:Inv X pins σ H1 { s1 with heap:=h' }:=I1.kept (t':=s1.toks) hk;refine⟨s1.heap.objs.size+1,[s1.heap.objs.size+1,s1.heap.objs.size],_,_,H1,rfl,I2,El l _ _ (Nat.ne_of_gt (Nat.lt_succ_self _)) (Nat.ne_of_lt (Nat.lt_succ_of_lt hll)) (Nat.ne_of_lt hll),⟨⟨_,he⟩,hi⟩,λb hb=>?_,q⟩;have hle:s1.heap.objs.size<=b:=by
   simp only[List.mem_cons,List.not_mem_nil,or_false]at hb;rcases hb with hb|hb
   . rw[hb];exact Nat.le_succ _
   . rw[hb];exact Nat.le_refl _
  exact I1.fpOk hle (I1.hok.fresh hle)
theorem Bw{elts:List Expr}{k:Nat}{tp:Pos}{a b:Expr}{ta:TA}{p pos:Pos}(hg:Gl X "zip")(hm:X.mg "zip"=none)(ha:PA X [a,b] ta)(hs:starEach [a,b] X.env=[(false,eval a X.env),(false,eval b X.env)]:=by first|rfl|with_unfolding_all rfl)(hs2:starEach [b] X.env=[(false,eval b X.env)]:=by first|rfl|with_unfolding_all rfl) :
 PI X (.Tuple elts k tp) (.Call (.Name "zip" p) [a,b] [] pos) (iZip ta):=by
 intro pins s σ H R I h;refine Call_ (yf I hg hm bt_zip (PyProof.Rows.callWith_type1 (thn (ha pos pins s σ H _ I h) λus s1 ⟨vs,H1,I1,r1,q1⟩=>?_) (by rw[hs,hs2]) (by rw[hs2];rfl)));obtain⟨l1,l2,xs,ys,e,hl1,hl2,q⟩:=q1;subst e;cases r1 with
 | cons r rr =>
  cases rr with
  | cons r' rr =>
   cases rr;cases r;cases r';obtain⟨its1,_,p1,_⟩:=I1.list (SqL.of (K:=X.K) hl1);obtain⟨its2,_,p2,_⟩:=I1.list (SqL.of (K:=X.K) hl2);have a1:l1<s1.heap.objs.size:=I1.hok.lt hl1;have a2:l2<s1.heap.objs.size:=I1.hok.lt hl2;refine call_zip_2 p1.isList p2.isList λh' hz hTI hTO h1 h2 hsz hk=>wpAny_pyIter_zip hz ?_;have I2:Inv X pins σ H1 { s1 with heap:=h' }:=I1.kept (t':=s1.toks) hk;refine⟨s1.heap.objs.size+4,[s1.heap.objs.size+4,s1.heap.objs.size+2,s1.heap.objs.size+3,s1.heap.objs.size,s1.heap.objs.size+1],_,_,H1,rfl,I2,Mt l1 l2 _ _ _ _ _ (zipApart_new a1 a2),⟨hz,hTI,⟨_,_,hTO⟩,h1,h2⟩,λb hb=>?_,q⟩;have hle:s1.heap.objs.size<=b:=by
    simp only[List.mem_cons,List.not_mem_nil,or_false]at hb;rcases hb with hb|hb|hb|hb|hb<;>rw[hb]
    . exact Nat.le_add_right _ _
    . exact Nat.le_add_right _ _
    . exact Nat.le_add_right _ _
    . exact Nat.le_refl _
    . exact Nat.le_add_right _ _
   exact I1.fpOk hle (I1.hok.fresh hle)
end
end L2
namespace L2
open PySem PySem.Spec PyProof.Rows
def ForJ(J:It)(g:TG)(tb:TS)(D:Ends)(σ:St)(H:Hp):Prop:=∃W:Nat->Nat->St->Hp->Prop,(∃m,W 0 m σ H)/\∀i m σ H,W i m σ H ->
 (J.stop i H/\D.nx σ H)\/(J.go i H/\∃N:St->Hp->Prop,(∀σ' H',N σ' H'->∃m',m' <m/\W (i+1) m' σ' H')/\∀x H',J.yld i H x H'->g x σ H' λσ2 H2=>tb { D with nx:=N,ct:=N,bk:=D.nx } σ2 H2)
def ForE(vs:List V)(g:TG)(tb:TS)(D:Ends)(σ:St)(H:Hp):Prop:=∃a xs,vs=[.ref a]/\H a=some (.lst xs)/\ForJ (Ite a) g tb D σ H
def ForZ(vs:List V)(g:TG)(tb:TS)(D:Ends)(σ:St)(H:Hp):Prop:=∃a b xs ys,vs=[.ref a,.ref b]/\H a=some (.lst xs)/\H b=some (.lst ys)/\ForJ (Itz a b) g tb D σ H
section
variable {tA : TA} {g : TG} {tb : TS} {D : Ends} {σ : St} {H : Hp} {n b c : St -> Hp -> Prop} {r : VK}
theorem r_forE(h:tA σ H λvs H1=>ForE vs g tb D σ H1):tFor (iEnum tA) g tb D σ H:=h
theorem r_forZ(h:tA σ H λvs H1=>ForZ vs g tb D σ H1):tFor (iZip tA) g tb D σ H:=h
theorem forE{a:Addr}{xs:List V}(Pv:Nat->St->Hp->Prop)(h0:Pv 0 σ H)(hl:∀i σ H,i<=xs.length->Pv i σ H->H a=some (.lst xs))
 (hs:∀(i:Nat) x σ H T,xs[i]?=some x->Pv i σ H->H T=none->g (.ref T) σ (upd H T (.tup [.int (i:Int),x])) λσ2 H2=>tb ⟨Pv (i+1),r,n,Pv (i+1)⟩ σ2 H2)(hd:∀σ H,Pv xs.length σ H->n σ H):ForE [.ref a] g tb ⟨n,r,b,c⟩ σ H:=by
 refine⟨a,xs,rfl,hl 0 σ H (Nat.zero_le _) h0,λi m σ' H'=>m=xs.length-i/\i<=xs.length/\Pv i σ' H',⟨xs.length,by simp,Nat.zero_le _,h0⟩,?_⟩;rintro i m σ' H' ⟨rfl,hi,p⟩
 have q:=hl i σ' H' hi p;by_cases hlt:i<xs.length
 . refine .inr ⟨⟨xs,xs[i],q,by simp[hlt]⟩,Pv (i+1),λσ' H' p'=>⟨xs.length-(i+1),by omega,rfl,hlt,p'⟩,λv H2 y=>?_⟩
   obtain⟨T,xs',x,rfl,hT,hq,hx,rfl⟩:=y;rw[q]at hq;cases hq;exact hs i x σ' H' T hx p hT
 . have e:i=xs.length:=by omega
   subst e;exact .inl ⟨⟨xs,q,Nat.le_refl _⟩,hd σ' H' p⟩
theorem forZ{a1 a2:Addr}{xs ys:List V}(Pv:Nat->St->Hp->Prop)(h0:Pv 0 σ H)(hl:∀i σ H,i<=xs.length->i<=ys.length->Pv i σ H->H a1=some (.lst xs)/\H a2=some (.lst ys))
 (hs:∀(i:Nat) x y σ H T,xs[i]?=some x->ys[i]?=some y->Pv i σ H->H T=none->g (.ref T) σ (upd H T (.tup [x,y])) λσ2 H2=>tb ⟨Pv (i+1),r,n,Pv (i+1)⟩ σ2 H2)(hd:∀σ H,Pv (min xs.length ys.length) σ H->n σ H):ForZ [.ref a1,.ref a2] g tb ⟨n,r,b,c⟩ σ H:=by
 obtain⟨q1,q2⟩:=hl 0 σ H (Nat.zero_le _) (Nat.zero_le _) h0;refine⟨a1,a2,xs,ys,rfl,q1,q2,λi m σ' H'=>m=min xs.length ys.length-i/\i<=min xs.length ys.length/\Pv i σ' H',⟨min xs.length ys.length,by simp,Nat.zero_le _,h0⟩,?_⟩;rintro i m σ' H' ⟨rfl,hi,p⟩
 obtain⟨q1,q2⟩:=hl i σ' H' (by omega) (by omega) p;by_cases hlt:i<min xs.length ys.length
 . have l1:i<xs.length:=by omega
   have l2:i<ys.length:=by omega
   refine .inr ⟨⟨xs,ys,xs[i],ys[i],q1,q2,by simp[l1],by simp[l2]⟩,Pv (i+1),λσ' H' p'=>⟨min xs.length ys.length-(i+1),by omega,rfl,hlt,p'⟩,λv H2 y=>?_⟩;obtain⟨T,xs',ys',x,y,rfl,hT,e1,e2,hx,hy,rfl⟩:=y;rw[q1]at e1;rw[q2]at e2;cases e1;cases e2;exact hs i x y σ' H' T hx hy p hT
 . have e:i=min xs.length ys.length:=by omega
   refine .inl ⟨⟨xs,ys,q1,q2,by omega⟩,hd σ' H' (e▸p)⟩
end
section
variable {tA : TA} {js : List Nat} {g : TG} {tt : TT} {te : TE} {σ : St} {H : Hp} {Q : VK} {nt : Nat}
def CompZ(vs:List V)(js:List Nat)(nt:Nat)(g:TG)(tt:TT)(te:TE)(σ:St)(H:Hp)(Q:VK):Prop:=∃a b xs ys,vs=[.ref a,.ref b]/\H a=some (.lst xs)/\H b=some (.lst ys)/\Ii (Itz a b) js nt g tt te σ H Q
theorem my(h:tA σ H λvs H1=>CompZ vs js nt g tt te σ H1 Q):Yg js nt (iZip tA) g tt te σ H Q:=h
theorem compZ{a1 a2:Addr}{xs ws:List V}(caps:St)(Pv:Nat->List V->Hp->Prop)(hcaps:cap σ js 2=caps++[none,none])(hsz:xs.length<sizeLine)(h0:Pv 0 [] H)
 (hl:∀i ys H,i<=xs.length->i<=ws.length->Pv i ys H->H a1=some (.lst xs)/\H a2=some (.lst ws))(hlen:∀i ys H,Pv i ys H->ys.length<=i)
 (hs:∀(i:Nat) x w ys z1 z2 H T,xs[i]?=some x->ws[i]?=some w->Pv i ys H->H T=none->g (.ref T) (caps++[z1,z2]) (upd H T (.tup [x,w])) λσ3 H3=>tt σ3 H3 λok H4=>if ok=true then te σ3 H4 λy H5=>Pv (i+1) (ys++[y]) H5/\∃z1 z2,σ3=caps++[z1,z2] else Pv (i+1) ys H4/\∃z1 z2,σ3=caps++[z1,z2])
 (hd:∀ys H,Pv (min xs.length ws.length) ys H->∀D,H D=none->Q (.ref D) (upd H D (.lst ys))):CompZ [.ref a1,.ref a2] js 2 g tt te σ H Q:=by
 obtain⟨q1,q2⟩:=hl 0 [] H (Nat.zero_le _) (Nat.zero_le _) h0;refine⟨a1,a2,xs,ws,rfl,q1,q2,λi m ys σ' H'=>m=min xs.length ws.length-i/\i<=min xs.length ws.length/\Pv i ys H'/\∃z1 z2,σ'=caps++[z1,z2],⟨min xs.length ws.length,by simp,Nat.zero_le _,h0,none,none,hcaps⟩,?_⟩;rintro i m ys σ' H' ⟨rfl,hi,p,z1,z2,rfl⟩
 refine⟨by have:=hlen i ys H' p;omega,?_⟩;obtain⟨q1,q2⟩:=hl i ys H' (by omega) (by omega) p;by_cases hlt:i<min xs.length ws.length
 . have l1:i<xs.length:=by omega
   have l2:i<ws.length:=by omega
   refine .inr ⟨⟨xs,ws,xs[i],ws[i],q1,q2,by simp[l1],by simp[l2]⟩,λys σ' H'=>Pv (i+1) ys H'/\∃z1 z2,σ'=caps++[z1,z2],λys σ' H' ⟨p',q'⟩=>⟨min xs.length ws.length-(i+1),by omega,rfl,hlt,p',q'⟩,λv H2 y=>?_⟩;obtain⟨T,xs',ys',x,y,rfl,hT,e1,e2,hx,hy,rfl⟩:=y;rw[q1]at e1;rw[q2]at e2;cases e1;cases e2;exact hs i x y ys z1 z2 H' T hx hy p hT
 . have e:i=min xs.length ws.length:=by omega
   exact .inl ⟨⟨xs,ws,q1,q2,by omega⟩,hd ys H' (e▸p)⟩
end
def rRev(K:PySem.W.Frag)(x y:V)(H:Hp)(Q:VK):Prop:=∃a xs,x= .ref a/\y= .int (-1)/\SqL K H a xs/\∀p,H p=none->Q (.ref p) (upd H p (.lst xs.reverse))
section
variable {X : Cx} {K : PySem.W.Frag}
theorem Br{e k:Expr}{te tk:TE}{pos p2:Pos}(hK:X.K=K)(he:PE X e te)(hk:PE X k tk):PE X (.Subscript e (.Slice none none (some k) p2) pos) (tOp (rRev K) te tk):=by
 subst hK;intro pins s σ H Q I h;refine Subscript_ (thn (he pins s σ H _ I h) λv s1 hqq=>?_);obtain⟨x,H1,I1,r1,q1⟩:=hqq;refine wpAny_Slice ?_;rw[evalPart_none];refine wpAny_pure ?_;refine wpAny_pure ?_;rw[evalPart_some];refine thn (hk pins s1 σ H1 _ I1 q1) λvk s3 hqq=>?_;obtain⟨y,H3,I3,r3,q3⟩:=hqq;obtain⟨a,xs,rfl,rfl,hx,q⟩:=q3;cases r1;obtain⟨t,rfl⟩:=r3;have I4:Inv X pins σ H3 { s3 with heap:=s3.heap.push { cls:=.type "slice",data:=.fields #[.none,.none,.int (-1) t] } }:=I3.kept (t':=s3.toks) λb ob q=>Heap.get?_push_of_some _ q;obtain⟨its,r,ht,hz⟩:=I4.list hx;have hlen:=r.length;show wpAny (model X.prog X.w) X.A (subscriptTail e (.Slice none none (some k) p2) (.ref a) (.ref s3.heap.objs.size)) (EP X pins σ Q) X.xe { s3 with heap:=s3.heap.push { cls:=.type "slice",data:=.fields #[.none,.none,.int (-1) t] } };refine tail_any (ops:=[.ref a,.ref s3.heap.objs.size]) (T:="list") ht.isList.typeIs slot_list_getitem.lookup ?_ (by with_unfolding_all rfl);refine wpAny_getItem_list_slice ht.isList (Heap.IsSliceOf.new ..) .none .none (.int (-1) t) (by decide) ?_ (by rw[List.size_toArray]<;>omega);rw[PySem.W.krv_pick];refine⟨.ref _,_,I4.laid (t':=s3.toks) (o:=.lst xs.reverse) (λb ob q=>Heap.get?_push_of_some _ q) (Nat.le_refl _) ?_,rfl,q _ (I4.hok.fresh (Nat.le_refl _))⟩;exact⟨by rw[List.length_reverse];exact hz,_,0,r.reverse,Heap.get?_push_size _ rfl⟩
end
theorem bw{K:PySem.W.Frag}{H:Hp}{Q:VK}{a:Addr}{xs:List V}(h1:H a=some (.lst xs))(h:∀p,H p=none->Q (.ref p) (upd H p (.lst xs.reverse))):rRev K (.ref a) (.int (-1)) H Q:=⟨a,xs,rfl,rfl,SqL.of h1,h⟩
theorem Nd{X:Cx}{x:Str}{i:Int}{pos:Pos}(hg:Gl X x)(hm:∃t,X.mg x=some (.int i t))(hd:(x==("__debug__":Str))=false:=by decide):PE X (.Name x pos) (tC (.int i)):=by
 obtain⟨t,hm⟩:=hm;exact Gr hg hm ⟨t,rfl⟩ hd
section
variable {X : Cx}
def ipC(C:Int->Int->Prop)(f:Int->Int->Int):TIp:=λx y H Q=>∃i j,x= .int i/\y= .int j/\C i j/\Q (.int (f i j)) H
theorem ip_mul:PIp X .Mult (ipC xh λi j=>i*j):=by
 intro pins s σ H x y v u Q I r1 r2 h;obtain⟨i,j,e1,e2,hc,q⟩:=h;subst e1;subst e2;obtain⟨t,rfl⟩:=r1;obtain⟨t',rfl⟩:=r2;have ok:IntMulOk i j:=by
  rcases hc with hc|⟨m,n,h1,h2,h3⟩
  . exact hc.ok
  . exact PySem.IntMulOk.of_le (PySem.intBits_le_iff.mpr h1) (PySem.intBits_le_iff.mpr h2) h3
 exact imul_int ⟨.int _,H,I.tok _,⟨_,rfl⟩,q⟩ ok
end
theorem r_ipC{C:Int->Int->Prop}{f:Int->Int->Int}{p q:Int}{H:Hp}{Q:VK}(hc:C p q)(h:Q (.int (f p q)) H):ipC C f (.int p) (.int q) H Q:=⟨p,q,rfl,rfl,hc,h⟩
section
variable {X : Cx} {K : PySem.W.Frag}
theorem inK(h:X.K=K):OpR X (compareOp .In) (rIn K false):=by subst h;exact Kr
theorem Tr(h:X.K=K):OpR X (compareOp .NotIn) (rIn K true):=by subst h;exact cm
def gr:List V->Hp->VK->Prop:=λxs H Q=>∃i j,xs=[.int i,.int j]/\Yk i j/\∀p,H p=none->Q (.ref p) (upd H p (.tup [.int (i/j),.int (i%j)]))
theorem qt:vc X (.builtin "divmod") gr:=by
 intro pins s σ H xs us Q I r h;obtain⟨i,j,rfl,⟨h1,n,h2,h3⟩,q⟩:=h;obtain⟨u,w',rfl,⟨t,rfl⟩,⟨t',rfl⟩⟩:=vals2 r;refine divmod_int (by omega) ?_ (.inl (PyProof.noPylong_of_log2 ((Nat.log2_lt (by omega)).mpr (Nat.lt_of_lt_of_le h2 (Nat.pow_le_pow_right (by decide) h3)))));rw[Int.fdiv_eq_ediv_of_nonneg i (by omega),Int.fmod_eq_emod_of_nonneg i (by omega)];have hn:H s.heap.objs.size=none:=I.hok.fresh (Nat.le_refl _);refine⟨.ref s.heap.objs.size,_,?_,rfl,q _ hn⟩;refine I.laid (λb o e=>Heap.get?_push_of_some _ e) (Nat.le_refl _) ⟨by simp only[List.length_cons,List.length_nil];rw[sizeLine_eq];decide,[.int (i/j) s.toks,.int (i%j) (s.toks+1)],.cons ⟨_,rfl⟩ (.cons ⟨_,rfl⟩ .nil),?_⟩;exact⟨_,Heap.get?_push_size s.heap rfl,rfl,0,rfl⟩
theorem zt:bootBuiltins "divmod"=some (.builtin "divmod"):=by decide +kernel
end
theorem Cu{i j:Int}{H:Hp}{Q:VK}(hc:Yk i j)(h:∀p,H p=none->Q (.ref p) (upd H p (.tup [.int (i/j),.int (i%j)]))):gr [.int i,.int j] H Q:=⟨i,j,rfl,hc,h⟩
end L2
namespace L2
open PySem PySem.Spec PyProof.Rows
theorem Ej:∀{ns:List (Str×NameKind)} {cl:List (Str×Addr)} {C:Addr},(∀y∈ns,y.2≠ .cell)->cellsFrom C ns cl=cl
 | [],_,_,_=>rfl
 | (_,k)::l,_,_,h=>by
  have n:(k==NameKind.cell)=false:=beq_eq_false_iff_ne.mpr (h _ List.mem_cons_self);simp only[cellsFrom,n];exact Ej λy hy=>h y (List.mem_cons_of_mem _ hy)
theorem jr{X:Cx}{xn:Str}{ix:Nat}{npos spos:Pos}{elt tg iter:Expr}{ifs:List Expr}{scope:Scope}{pos:Pos}{cl:List (Str×Addr)}{cN tN:List Str}{js:List Nat}{wi:TI}{g:TG}{tt:TT}{te:TE}
 (hc:X.calm=true)(hx0:X.xe=λ_ _=>False)(hi:PI X tg iter wi)
 (hclos:closureFor scope X.env=pure cl)(hcell:∀y∈scope.names,y.2≠ .cell)(hkind:scope.kind= .function)(hnames:∀y∈scope.names,y.2= .local->scope.names.lookup y.1=some .local)
 (hcl:∀p∈cl,X.env.cells.lookup p.1=some p.2)(hhas:∀C x,((compEnvC scope cl C X.env).kindOf x=some .cell\/(compEnvC scope cl C X.env).kindOf x=some .free)->∃c,cl.lookup x=some c)
 (hcap:∀C,vh X (compEnvC scope cl C X.env) cN js)
 (hg:∀C s₀ H₀ ex,PG (cxIn X scope cl C (cN++tN) s₀ H₀ ex) tg g)(ht:∀C s₀ H₀ ex,PTs (cxIn X scope cl C (cN++tN) s₀ H₀ ex) ifs tt)(he:∀C s₀ H₀ ex,PE (cxIn X scope cl C (cN++tN) s₀ H₀ ex) elt te)
 (hgN:PG X (.Name xn npos) (Mn ix))(hsw:swapsWith (.ListComp elt [⟨tg,iter,ifs,0⟩] scope pos) (some (.Name xn npos)) spos.line X.env=pure true)
 (hs:∀x,foldedSetIterable iter X.env x=pure x:=by intro _;first|rfl|with_unfolding_all rfl) :
 PS X (.Assign [.Name xn npos] (.ListComp elt [⟨tg,iter,ifs,0⟩] scope pos) spos) (tAsg (Yg js tN.length wi g tt te) (Mn ix)):=by
 intro pins s σ H DD I h;rw[exec_Assign_Name_used xn npos _ spos hsw];refine wpAny_bind (wpAny_standAt (wpAny_bind ?_));show wpAny _ _ (comprehension (.ListComp elt [⟨tg,iter,ifs,0⟩] scope pos) scope X.env _ (newList []) false (eval iter X.env) (some (assign (.Name xn npos) X.env)) >>= _) _ _ s;refine wpAny_bind ?_;refine wpAny_mono (Q:=λ_ s''=>∃σ' H',Inv X pins σ' H' s''/\DD.nx σ' H') ?_ (λ_ s'' hq=>wpAny_pure (wpAny_pure hq)) λ_ _ z=>z;refine ao (use:=some (assign (.Name xn npos) X.env)) (cs:=λ_=>cl) hc hi hclos (λC=>Ej hcell) hkind hnames hcl hhas hcap hg ht he hs I h λD C s6 m Hf hn hC nL nF hz hc' hp' q I7=>?_;obtain⟨oC,esC,epC,hoC,rC⟩:=id hn;have dC:∀v,oC.data≠ .cell v:=λv z=>by first|(obtain⟨_,r2,_⟩:=rC;rw[r2]at z;cases z)|(obtain⟨r2,_⟩:=rC;rw[r2]at z;cases z)|(obtain⟨_,_,r2,_⟩:=rC;rw[r2]at z;cases z)|(obtain⟨_,_,r2⟩:=rC;rw[r2]at z;cases z)
 have J7:Inv X pins σ Hf s6:=I7 s6.heap ⟨rfl,λ_ _=>rfl⟩;have I8:=J7.Lf (pins':=(C,oC)::pins) λp hp=>by
  rcases List.mem_cons.mp hp with hp|hp
  . rw[hp];exact⟨hoC,hC,nL,nF,dC⟩
  . exact J7.pin p (List.mem_append_right _ hp)
 refine thn (hgN _ _ σ _ (.ref D) (.ref D) DD.nx I8 rfl q) λ_ s9 hqq=>?_;obtain⟨σ9,H9,I9,q9⟩:=hqq;obtain⟨p1,p2,_⟩:=I9.pin (C,oC) (List.mem_append_right _ List.mem_cons_self);refine⟨m,⟨oC,esC,epC,p1,rC⟩,λh' hs'=>⟨σ9,H9,?_,q9⟩⟩;have I10:Inv X pins σ9 H9 s9:=I9.Lf λp hp=>I9.pin p (List.mem_append_right _ (List.mem_cons_of_mem _ hp));exact I10.turned (t':=s9.toks) (it:=C) (λb o hb q=>hs'.extBut b o hb q) p2 nL (.inr hz) hc' hp'
theorem vw{X:Cx}{xn:Str}{ix:Nat}{npos spos:Pos}{elt tg iter:Expr}{ifs:List Expr}{scope:Scope}{pos:Pos}{cl:List (Str×Addr)}{wi:TI}{g:TG}{tt:TT}{te:TE}(cN tN:List Str)(js:List Nat)
 (hgN:PG X (.Name xn npos) (Mn ix))
 (hclos:closureFor scope X.env=pure cl)(hc:X.calm=true)(hx0:X.xe=λ_ _=>False)(hi:PI X tg iter wi)
 (hcell:∀y∈scope.names,y.2≠ .cell)(hkind:scope.kind= .function)(hnames:∀y∈scope.names,y.2= .local->scope.names.lookup y.1=some .local)
 (hcl:CellsOk X cl)(hall:(scope.names.all λy=>y.2 !=.free||(cl.lookup y.1).isSome)=true)(hcap:∀C,vh X (compEnvC scope cl C X.env) cN js)
 (hg:∀C s₀ H₀ ex,PG (cxIn X scope cl C (cN++tN) s₀ H₀ ex) tg g)(ht:∀C s₀ H₀ ex,PTs (cxIn X scope cl C (cN++tN) s₀ H₀ ex) ifs tt)(he:∀C s₀ H₀ ex,PE (cxIn X scope cl C (cN++tN) s₀ H₀ ex) elt te)
 (hsw:swapsWith (.ListComp elt [⟨tg,iter,ifs,0⟩] scope pos) (some (.Name xn npos)) spos.line X.env=pure true:=by first|rfl|with_unfolding_all rfl)
 (hs:∀x,foldedSetIterable iter X.env x=pure x:=by intro _;first|rfl|with_unfolding_all rfl) :
 PS X (.Assign [.Name xn npos] (.ListComp elt [⟨tg,iter,ifs,0⟩] scope pos) spos) (tAsg (Yg js tN.length wi g tt te) (Mn ix)) :=
 jr hc hx0 hi hclos hcell hkind hnames hcl.all (Gw hcell hall) hcap hg ht he hgN hsw hs
end L2
namespace L2
open PySem PySem.Spec PyProof.Rows
def GTup(K:PySem.W.Frag)(a:Addr)(xs:List V):Prop:=∃(o:Obj) (its:Array Value) (n:Nat),K.lookup a=some o/\o.cls= .type "tuple"/\o.data= .seq its n/\its.size<=sizeLine/\Vals xs its.toList
theorem GTup.sq{K:PySem.W.Frag}{a:Addr}{xs:List V}{H:Hp}(h:GTup K a xs):SqT K H a xs:=.inr h
def tG(K:PySem.W.Frag)(xs:List V):TE:=λ_ H Q=>∀a,GTup K a xs->Q (.ref a) H
theorem af{X:Cx}{K:PySem.W.Frag}{x:Str}{xs:List V}{pos:Pos}(hg:Gl X x)(hm:∃a,X.mg x=some (.ref a)/\GTup K a xs)(hd:(x==("__debug__":Str))=false:=by decide):PE X (.Name x pos) (tG K xs):=by
 obtain⟨a,hm,g⟩:=hm;intro pins s σ H Q I h;exact Gr (v:=.ref a) hg hm rfl hd pins s σ H Q I (h a g)
end L2
namespace L2
open PySem PySem.Spec PyProof.Rows
def upTo(n:Nat):List Int:=(List.range n).map λi:Nat=>(i:Int)
def tLR(ta:TA):TE:=λσ H Q=>ta σ H λvs H1=>∃j:Nat,vs=[.int (j:Int)]/\j<65536/\∀l,H1 l=none->Q (.ref l) (upd H1 l (.lst ((upTo j).map V.int)))
theorem gq:∀{xs:List V} {us:List Value},xs.length=us.length->(∀(j:Nat) (x:V) (u:Value),xs[j]?=some x->us[j]?=some u->RelV x u)->Vals xs us
 | [],[],_,_=>.nil
 | x::xs,u::us,h,k=>.cons (k 0 x u rfl rfl) (gq (by simpa using h) λj x' u' h1 h2=>k (j+1) x' u' (by simpa using h1) (by simpa using h2))
 | [],_::_,h,_=>by simp at h
 | _::_,[],h,_=>by simp at h
theorem r_LR{ta:TA}{σ:St}{H:Hp}{Q:VK}(h:ta σ H λvs H1=>∃j:Nat,vs=[.int (j:Int)]/\j<65536/\∀l,H1 l=none->Q (.ref l) (upd H1 l (.lst ((upTo j).map V.int)))):tLR ta σ H Q:=h
section
variable {X : Cx} {a : Expr} {ta : TA} {p1 p2 q1 q2 : Pos}
theorem Al{acc:Array Value}{n:Nat}(h:ItemsOf (λi v=>∃t,v=Value.int (0+(i:Nat)*1) t) acc n):Vals ((upTo n).map V.int) acc.toList:=by
 obtain⟨hs,hi⟩:=h;refine gq (by rw[List.length_map];unfold upTo;rw[List.length_map,List.length_range,Array.length_toList,hs]) λj x u h1 h2=>?_;rw[Array.getElem?_toList]at h2;obtain⟨t,rfl⟩:=hi j u h2;rw[List.getElem?_map]at h1;unfold upTo at h1;rw[List.getElem?_map]at h1;have hj:j<n:=by
  have:=(Array.getElem?_eq_some_iff.mp h2).1;omega
 rw[List.getElem?_range hj]at h1;have:x=V.int (j:Int):=(Option.some.inj h1).symm;subst this;exact⟨t,by congr 1;omega⟩
theorem Ie(hc:X.calm=true)(hg1:Gl X "list")(hm1:X.mg "list"=none)(hg2:Gl X "range")(hm2:X.mg "range"=none)(ha:PA X [a] ta)
 (hs:starEach [a] X.env=[(false,eval a X.env)]:=by first|rfl|with_unfolding_all rfl)
 (he:starEach [Expr.Call (.Name "range" p2) [a] [] q2] X.env=[(false,eval (Expr.Call (.Name "range" p2) [a] [] q2) X.env)]:=by first|rfl|with_unfolding_all rfl) :
 PE X (.Call (.Name "list" p1) [.Call (.Name "range" p2) [a] [] q2] [] q1) (tLR ta):=by
 intro pins s σ H Q I h;refine wpAny_Call_Name_kw (yf I hg1 hm1 Pe ?_ (by decide) (by decide));refine PyProof.Rows.callWith_type1 ?_ he rfl;rw[he];show wpAny _ _ (spliced [(false,eval (Expr.Call (.Name "range" p2) [a] [] q2) X.env)]) _ _ s;refine Calls.spliced_cons ?_;refine Call_ (yf I hg2 hm2 boot_range (PyProof.Rows.callWith_type1 (thn (ha q2 pins s σ H _ I h) λus s1 ⟨vs,H1,I1,r1,q1⟩=>?_) hs rfl));obtain⟨j,e,hj,q⟩:=q1;subst e;cases r1 with
 | cons r rr =>
  cases rr;obtain⟨t,rfl⟩:=r;refine call_range_1 ?_;have I2:Inv X pins σ H1 { s1 with heap:=s1.heap.push { cls:=.type "range",data:=.fields #[.int 0 s1.toks,.int (j:Int) t,.int 1 (s1.toks+1)] },toks:=s1.toks+1+1 }:=I1.kept λb o e=>Heap.get?_push_of_some _ e;refine Calls.spliced_nil ?_;refine call_list_range (I.ok.hd hc) (IsRange.new ..) (small_one (by omega) (by omega) (by omega) (by omega)) (n:=j) (by rw[rangeSize_one];split<;>omega) (by omega) λh' tk acc' c' kp e it=>?_;refine⟨.ref _,_,I2.laid (t':=tk) (o:=.lst ((upTo j).map V.int)) kp (Nat.le_refl _) ?_,rfl,q _ (I2.hok.fresh (Nat.le_refl _))⟩;refine⟨by rw[List.length_map];unfold upTo;rw[List.length_map,List.length_range,sizeLine_eq];omega,acc'.toList,c',Al it,by simpa using e⟩
end
end L2
namespace L2
open PySem PySem.Spec PyProof.Rows
section
variable {X : Cx} {K : PySem.W.Frag}
def Zq(K:PySem.W.Frag):List V->Hp->VK->Prop:=λxs H Q=>∃(p:Addr) (ns:List Int),xs=[.ref p]/\SqL K H p (ns.map V.int)/\ns.length<64/\∀(l:Addr) (ms:List Int),H l=none->ms.Perm ns->ms.Pairwise (·<=·)->Q (.ref l) (upd H l (.lst (ms.map V.int)))
theorem Fi:bootBuiltins "sorted"=some (.builtin "sorted"):=by decide +kernel
theorem ug:∀{us:List Value} {ns:List Int},IntsAre us ns->Vals (ns.map V.int) us
 | _,_,.nil=>.nil
 | _,_,.cons a t h=>.cons ⟨t,rfl⟩ (ug h)
theorem sortedK(hK:X.K=K):vc X (.builtin "sorted") (Zq K):=by
 subst hK;intro pins s σ H xs us Q I r h;obtain⟨p,ns,rfl,hq,hl,q⟩:=h;obtain⟨u,rfl,rx⟩:=vals1 r;cases rx;obtain⟨its,r',pl,hz⟩:=I.list hq;have hi:IntsAre its ns:=intsAre_of (by simpa using r');have e1:=hi.length;refine sorted_ints pl.isList hi (by omega) λout ns' a1 a2 a3=>?_;obtain⟨e,he⟩:=sortedAll_at s.heap its out;have hn:H (s.heap.objs.size+1)=none:=I.hok.fresh (Nat.le_succ _);refine⟨.ref _,_,I.laid (a:=s.heap.objs.size+1) (o:=.lst (ns'.map V.int)) (t':=s.toks) (λb o hb=>sortedAll_old hb) (Nat.le_succ _) ?_,rfl,q _ ns' hn a2 a3⟩;refine⟨by rw[List.length_map,a2.length_eq,sizeLine_eq];omega,out.toList,e,ug a1,?_⟩;simpa[seqObj] using he
theorem tu{H:Hp}{Q:VK}{p:Addr}{ns:List Int}(h1:H p=some (.lst (ns.map V.int)))(h2:ns.length<64)(h:∀(l:Addr) (ms:List Int),H l=none->ms.Perm ns->ms.Pairwise (·<=·)->Q (.ref l) (upd H l (.lst (ms.map V.int)))):Zq K [.ref p] H Q:=⟨p,ns,rfl,SqL.of h1,h2,h⟩
def Ay(K:PySem.W.Frag):R2:=λx y H Q=>Dp K x y H Q\/∃i j:Str,x= .str i/\y= .str j/\i.length+j.length<=sizeLine/\Q (.str (i++j)) H
theorem Sv(h:X.K=K):OpR X (binaryOp .Add) (Ay K):=(addK h).or yj
theorem tw{H:Hp}{Q:VK}{i j:Str}(h1:i.length+j.length<=sizeLine)(h:Q (.str (i++j)) H):Ay K (.str i) (.str j) H Q:=.inr ⟨i,j,rfl,rfl,h1,h⟩
theorem Xq{H:Hp}{Q:VK}{p q:Int}(h:Q (.int (p+q)) H):Ay K (.int p) (.int q) H Q:=.inl (Yq h)
def rIxC(K:PySem.W.Frag):R2:=λx y H Q=>rIx2 K x y H Q\/rIxS x y H Q
theorem ixCK(h:X.K=K):IxR X (rIxC K):=(ixK h).or ix_str
theorem ow{H:Hp}{Q:VK}{z:Str}{i:Nat}{c:Nat}(h1:z.length<=sizeLine)(h2:z.cps.toList[i]?=some c)(h:Q (.str ⟨#[c]⟩) H):rIxC K (.str z) (.int (i:Int)) H Q:=.inr ⟨z,i,c,rfl,rfl,h1,kc h2,h⟩
theorem r_ixC{H:Hp}{Q:VK}{x y:V}(h:rIx2 K x y H Q):rIxC K x y H Q:=.inl h
def rMulS:R2:=λx y H Q=>∃(z:Str) (n:Nat),x= .str z/\y= .int (n:Int)/\n<1000/\z.length<1000/\Q (.str (Txt.mul z (n:Int))) H
theorem Gp:OpR X (binaryOp .Mult) rMulS:=by
 intro pins s σ H x y v u Q I rx ry h;obtain⟨z,n,rfl,rfl,hn,hz,q⟩:=h;obtain⟨t,rfl⟩:=rx;obtain⟨t',rfl⟩:=ry;refine PySem.SB.mul ⟨?_,?_,?_⟩ λt'' k=>⟨.str _,H,I.tok _,⟨_,rfl⟩,q⟩
 . simp only[Bool.or_eq_false_iff,decide_eq_false_iff_not]
   omega
 . intro h1 _
   have:(1:Int)*1000<=(2^63-1)/(n:Int):=Int.le_ediv_of_mul_le (by omega) (by omega);omega
 . intro h1 _
   have h2:z.length*((n:Int)).toNat<=1000*1000:=Nat.mul_le_mul (by omega) (by omega);refine decide_eq_false ?_;rw[sizeLine_eq];omega
def br:V->List V->Hp->VK->Prop:=λx vs H Q=>∃(l:Addr) (xs:List V) (i:Nat) (y:V),x= .ref l/\vs=[.int (i:Int),y]/\H l=some (.lst xs)/\i<=xs.length/\xs.length<sizeLine/\Q .non (upd H l (.lst (xs.take i++y::xs.drop i)))
theorem fq{xs:List V}{us:List Value}(h:Vals xs us):∀i,Vals (xs.take i) (us.take i):=by
 induction h with
 | nil=>intro i;simp;exact .nil
 | cons r t ih=>intro i;cases i with
  | zero=>exact .nil
  | succ i=>exact .cons r (ih i)
theorem iq{xs:List V}{us:List Value}(h:Vals xs us):∀i,Vals (xs.drop i) (us.drop i):=by
 induction h with
 | nil=>intro i;simp;exact .nil
 | cons r t ih=>intro i;cases i with
  | zero=>exact .cons r t
  | succ i=>exact ih i
theorem Kt{xs ys:List V}{us vs:List Value}(h:Vals xs us)(k:Vals ys vs):Vals (xs++ys) (us++vs):=by
 induction h with
 | nil=>exact k
 | cons r t ih=>exact .cons r ih
theorem Vr:MtM X "list.insert" br:=by
 intro pins s σ H x vs v us Q I rx rv h;obtain⟨l,xs,i,y,rfl,rfl,hH,hi,hz,q⟩:=h;cases rx;obtain⟨u1,u2,rfl,r1,r2⟩:∃u1 u2,us=[u1,u2]/\RelV (.int (i:Int)) u1/\RelV y u2:=by
  cases rv with
  | cons a b=>cases b with
   | cons c d=>cases d;exact⟨_,_,rfl,a,c⟩
 obtain⟨t,rfl⟩:=r1;obtain⟨z,its,n,r,hl,e⟩:=I.lstM hH;have hlen:=r.length;have hz':=hz;rw[sizeLine_eq]at hz';have hfit:¬(!Builtin.List.listFitsIndex (i:Int))=true:=by
  have:Builtin.List.listFitsIndex (i:Int)=true:=by
   unfold Builtin.List.listFitsIndex;simp only[Bool.and_eq_true,decide_eq_true_eq];omega
  rw[this];decide
 have hs:its.toArray.size<=sizeLine:=by rw[List.size_toArray];omega
 generalize hj:(i:Int)=j at *;have M:=AutoSeq1.list_insert_list_int_val_1 l its.toArray n j t u2 hfit hs;refine call_meets F.slot_list_insert ⟨_,e,rfl⟩ F.entry_list_insert (F.args_list_insert_3 _ _ _) M ⟨e,?_⟩;refine⟨.non,_,I.lset (its':=its.take i++u2::its.drop i) hH e ?_ (Kt (fq r i) (.cons r2 (iq r i))) ?_,rfl,q⟩
 . have k1:¬(j<0):=by omega
   have k2:j.toNat=i:=by omega
   simp only[k1,if_false,k2,List.size_toArray];rw[Nat.min_eq_left (by omega)];apply Array.toList_inj.mp;simp;exact List.take_of_length_le (by rw[List.length_drop];exact Nat.le_refl _)
 . rw[List.length_append,List.length_cons,List.length_take,List.length_drop]
   omega
theorem Au{H:Hp}{Q:VK}{p:Addr}{xs:List V}{i:Nat}{y:V}(h1:H p=some (.lst xs))(hi:i<=xs.length)(h2:xs.length<sizeLine)(h:Q .non (upd H p (.lst (xs.take i++y::xs.drop i)))):br (.ref p) [.int (i:Int),y] H Q:=⟨p,xs,i,y,rfl,rfl,h1,hi,h2,h⟩
def xy:R2:=λx y H Q=>Eu x y H Q\/rMulS x y H Q
theorem jn:OpR X (binaryOp .Mult) xy:=Mf.or Gp
theorem r_mulS{H:Hp}{Q:VK}{z:Str}{n:Nat}(h1:n<1000)(h2:z.length<1000)(h:Q (.str (Txt.mul z (n:Int))) H):xy (.str z) (.int (n:Int)) H Q:=.inr ⟨z,n,rfl,rfl,h1,h2,h⟩
theorem fw{H:Hp}{Q:VK}{x y:V}(h:Eu x y H Q):xy x y H Q:=.inl h
end
end L2
namespace L2
open PySem PySem.Spec PyProof.Rows
local macro_rules | `(tactic| walk_at "ad") => `(tactic| first | (intro q; have q' : @Eq Nat _ _ := q; omega) | omega)
end L2
namespace L2
open PySem PySem.Spec PyProof.Rows PySem.SeqAt
end L2
namespace L2
open PySem PySem.Spec PyProof.Rows PySem.SeqAt
end L2
namespace L2
open PySem PySem.Spec PyProof.Rows
abbrev KX:=List ((List Key×Addr)×V)
abbrev RX:KX->List (List Key×Addr×Value)->Prop:=Paired λp q=>p.1.1=q.1/\p.1.2=q.2.1/\RelV p.2 q.2.2
def valX(kvs:KX)(k:List Key):Option V:=(kvs.find? λp=>decide (p.1.1=k)).map (·.2)
def putX(kvs:KX)(k:List Key)(b:Addr)(v:V):KX:=if (valX kvs k).isSome then kvs.map (λp=>if p.1.1=k then (p.1,v) else p) else kvs++[((k,b),v)]
theorem ag{p:(List Key×Addr)×V}{r:KX}{k:List Key}(e:p.1.1=k):valX (p::r) k=some p.2:=by simp[valX,List.find?_cons,e]
theorem bg{p:(List Key×Addr)×V}{r:KX}{k:List Key}(e:¬p.1.1=k):valX (p::r) k=valX r k:=by simp[valX,List.find?_cons,e]
theorem RX.val{kvs:KX}{xs:List (List Key×Addr×Value)}(r:RX kvs xs)(k:List Key):RelO (valX kvs k) ((atKey xs k).map (·.2)):=by
 induction r with
 | nil=>exact True.intro
 | @cons p q ps qs h t ih =>
  obtain⟨h1,_,h2⟩:=h;by_cases e:p.1.1=k
  . have e':q.1=k:=h1.symm.trans e
    have b:atKey (q::qs) k=some q.2:=by simp[atKey,List.find?_cons,e']
    rw[ag e,b];exact h2
  . have e':¬q.1=k:=λz=>e (h1.trans z)
    have b:atKey (q::qs) k=atKey qs k:=by simp[atKey,List.find?_cons,e']
    rw[bg e,b];exact ih
theorem RX.repl{kvs:KX}{xs:List (List Key×Addr×Value)}(r:RX kvs xs)(k:List Key){y:V}{u:Value}(ry:RelV y u) :
 RX (kvs.map λp=>if p.1.1=k then (p.1,y) else p) (xs.map (putAt k u)):=by
 induction r with
 | nil=>exact .nil
 | @cons p q ps qs h t ih =>
  rw[List.map_cons,List.map_cons];refine .cons ?_ ih;obtain⟨h1,h2,h3⟩:=h;unfold putAt;by_cases e:p.1.1=k
  . rw[if_pos e,if_pos (h1.symm.trans e)];exact⟨h1,h2,ry⟩
  . rw[if_neg e,if_neg (λz=>e (h1.trans z))];exact⟨h1,h2,h3⟩
theorem RX.put{kvs:KX}{xs:List (List Key×Addr×Value)}(r:RX kvs xs)(k:List Key){b:Addr}{y:V}{u:Value}(ry:RelV y u):RX (putX kvs k b y) (storedH xs k b u):=by
 have e:(valX kvs k).isSome=(atKey xs k).isSome:=by rw[(r.val k).og,Option.isSome_map]
 unfold putX storedH;rw[e];by_cases q:(atKey xs k).isSome=true
 . rw[if_pos q,if_pos q];exact r.repl k ry
 . rw[if_neg q,if_neg q];exact Paired.snoc r ⟨rfl,rfl,ry⟩
theorem Mc(kvs:KX)(k:List Key)(b:Addr)(v:V):(putX kvs k b v).length<=kvs.length+1:=by
 unfold putX;split
 . rw[List.length_map];omega
 . rw[List.length_append,List.length_cons,List.length_nil];omega
def dxOk(P:Program)(w:World)(a:Addr)(kvs:KX)(h:Heap):Prop:=kvs.length<=sizeLine/\(a==sysModules)=false/\∃xs,RX kvs xs /\
 ∃o es ep,h.get? a=some o/\o.ExactDict/\o.data= .dict es ep/\es.toList=xs.map (entryOfKey (tupleKind (Qb P w)))/\(xs.map (·.1)).Nodup
def DX(P:Program)(w:World)(a:Addr)(kvs:KX):HO:=.ext (dxOk P w a kvs)
theorem DX.ok{P:Program}{w:World}{H:Hp}{h:Heap}{a:Addr}{kvs:KX}(d:dxOk P w a kvs h):Bc P w H h a (DX P w a kvs):=by
 refine⟨d,?_,λh1 h2 q k=>?_⟩
 . obtain⟨_,_,xs,_,o,_,_,e,_⟩:=d
   exact⟨o,e⟩
 . obtain⟨z,y,xs,r,o,es,ep,e,rest⟩:=q
   exact⟨z,y,xs,r,o,es,ep,k o e,rest⟩
def KeysIn(K:PySem.W.Frag)(H:Hp)(kvs:KX):Prop:=∀p∈kvs,SqT K H p.1.2 (p.1.1.map kV)
theorem ui{X:Cx}{pins:List (Addr×Obj)}{σ:St}{H:Hp}{s:Shared}{b:Addr}{ks:List Key}(I:Inv X pins σ H s)(e:SqT X.K H b (ks.map kV)):(tupleKind (Qb X.prog X.w)).is s.heap ks b:=by
 obtain⟨its,r,⟨o,h1,h2,n,h3⟩,_⟩:=I.tuple e;exact⟨o,its.toArray,n,h1,h2,h3,by simpa using qm r⟩
section
variable {X : Cx} {pins : List (Addr × Obj)} {σ : St} {H : Hp} {s : Shared} {a b : Addr} {kvs : KX} {k : List Key} {v : V} {r : Value} {A : Around} {E : Value -> Shared -> Prop}
theorem Nn(I:Inv X pins σ H s)(e:H a=some (DX X.prog X.w a kvs))(hk:KeysIn X.K H kvs):kvs.length<=sizeLine/\(a==sysModules)=false/\∃xs,RX kvs xs/\s.heap.DictOfH (tupleKind (Qb X.prog X.w)) a xs:=by
 obtain⟨⟨z,y,xs,r,o,es,ep,h1,h2,h3,h4,h5⟩,_⟩:=(show Bc X.prog X.w H s.heap a (DX X.prog X.w a kvs) from I.hok a _ e)
 refine⟨z,y,xs,r,o,es,ep,h1,h2,h3,h4,?_,h5⟩;have all:∀{l:KX} {m:List (List Key×Addr×Value)},RX l m->KeysIn X.K H l->∀x∈m,(tupleKind (Qb X.prog X.w)).is s.heap x.1 x.2.1:=by
  intro l m q
  induction q with
  | nil=>intro _ x hx;exact nomatch hx
  | @cons p q ps qs hq t ih =>
   intro hl x hx;rcases List.mem_cons.mp hx with e|hx
   . subst e
     rw[<-hq.1,<-hq.2.1];exact ui I (hl p (List.mem_cons_self ..))
   . exact ih (λp hp=>hl p (List.mem_cons_of_mem _ hp)) x hx
 exact all r hk
theorem dx_get{Q:Value->Shared->Prop}(hu:A.units+1<cLine)(I:Inv X pins σ H s)(e:H a=some (DX X.prog X.w a kvs))(hk:KeysIn X.K H kvs)(hb:SqT X.K H b (k.map kV))(l:valX kvs k=some v)
 (h:∀w' s',Inv X pins σ H s'->RelV v w'->Q w' s'):wpAny (model X.prog X.w) A (getItem (.ref a) (.ref b)) Q E s:=by
 obtain⟨z,hd,xs,rel,dd⟩:=Nn I e hk;obtain⟨w',hw,rw'⟩:=RelO.some_of (v:=v) (o:=(atKey xs k).map (·.2)) (by rw[<-l];exact rel.val k);obtain⟨p,hp,hp2⟩:=Option.map_eq_some_iff.mp hw;refine wpAny_getItem_heap (tupleKind_room_in1 hu) (ui I hb) dd hp ?_;rw[hp2];exact h w' _ (I.tok _) rw'
theorem dx_in{Q:Value->Shared->Prop}(hu:A.units+1<cLine)(I:Inv X pins σ H s)(e:H a=some (DX X.prog X.w a kvs))(hk:KeysIn X.K H kvs)(hb:SqT X.K H b (k.map kV))
 (h:∀s',Inv X pins σ H s'->Q (.bool (valX kvs k).isSome) s'):wpAny (model X.prog X.w) A (compareOp .In (.ref b) (.ref a)) Q E s:=by
 obtain⟨z,hd,xs,rel,dd⟩:=Nn I e hk;refine wpAny_in_heap (tupleKind_room_in1 hu) (ui I hb) hd dd ?_;have q:=(rel.val k).og;rw[Option.isSome_map]at q;rw[<-q];exact h _ (I.tok _)
theorem Iv{Q:Value->Shared->Prop}(hu:A.units+1<cLine)(I:Inv X pins σ H s)(e:H a=some (DX X.prog X.w a kvs))(hk:KeysIn X.K H kvs)(hb:SqT X.K H b (k.map kV))
 (h:∀s',Inv X pins σ H s'->Q (.bool (!(valX kvs k).isSome)) s'):wpAny (model X.prog X.w) A (compareOp .NotIn (.ref b) (.ref a)) Q E s:=by
 obtain⟨z,hd,xs,rel,dd⟩:=Nn I e hk;refine wpAny_notIn_heap (tupleKind_room_in1 hu) (ui I hb) hd dd ?_;have q:=(rel.val k).og;rw[Option.isSome_map]at q;rw[<-q];exact h _ (I.tok _)
theorem qz{Q:Value->Shared->Prop}(hu:A.units+1<cLine)(I:Inv X pins σ H s)(e:H a=some (DX X.prog X.w a kvs))(hk:KeysIn X.K H kvs)(hb:SqT X.K H b (k.map kV))
 (h:∀w' s',Inv X pins σ H s'->RelV ((valX kvs k).getD .non) w'->Q w' s'):wpAny (model X.prog X.w) A (call (.builtin "dict.get") [.ref a,.ref b]) Q E s:=by
 obtain⟨z,hd,xs,rel,dd⟩:=Nn I e hk;exact call_meetsIn PySem.F.slot_dict_get dd.typeIs PySem.F.entry_dict_get (PySem.F.args_dict_get_2 _ _) (meetsH_dict_get (tupleKind (Qb X.prog X.w)) a b hd) ⟨tupleKind_room_in1 hu,k,xs,ui I hb,dd,h _ _ (I.tok _) ((rel.val k).getD rfl)⟩
theorem dx_set{Q:Unit->Shared->Prop}(hu:A.units+1<cLine)(I:Inv X pins σ H s)(e:H a=some (DX X.prog X.w a kvs))(hk:KeysIn X.K H kvs)(hb:SqT X.K H b (k.map kV))(hl:kvs.length<sizeLine)(rv:RelV v r)
 (h:∀s',Inv X pins σ (upd H a (DX X.prog X.w a (putX kvs k b v))) s'->Q () s'):wpAny (model X.prog X.w) A (setItem (.ref a) (.ref b) r) Q E s:=by
 obtain⟨z,hd,xs,rel,dd⟩:=Nn I e hk;have hz:xs.length<=sizeLine:=by rw[<-Paired.length rel];exact z
 have hl':(putX kvs k b v).length<=sizeLine:=by have:=Mc kvs k b v;omega
 refine wpAny_setItem_heap (hsz:=hz) (tupleKind_room_in1 hu) (ui I hb) dd λh' dd' hs=>h _ ?_;obtain⟨q,es,ep,hq,h2,h3,h4,_,h5⟩:=dd';exact et I (by rw[e];exact True.intro) hs ⟨q,hq⟩ (DX.ok ⟨hl',hd,_,rel.put k rv,q,es,ep,hq,h2,h3,h4,h5⟩)
end
end L2
namespace L2
open PySem PySem.Spec PyProof.Rows
section
variable (P : Program) (w : World) (K : PySem.W.Frag)
def rXget:R2:=λx y H Q=>∃a b kvs k v,x= .ref a/\y= .ref b/\H a=some (DX P w a kvs)/\KeysIn K H kvs/\SqT K H b (k.map kV)/\valX kvs k=some v/\Q v H
def rXin:R2:=λy x H Q=>∃a b kvs k,x= .ref a/\y= .ref b/\H a=some (DX P w a kvs)/\KeysIn K H kvs/\SqT K H b (k.map kV)/\Q (.bl (valX kvs k).isSome) H
def rXni:R2:=λy x H Q=>∃a b kvs k,x= .ref a/\y= .ref b/\H a=some (DX P w a kvs)/\KeysIn K H kvs/\SqT K H b (k.map kV)/\Q (.bl (!(valX kvs k).isSome)) H
def rXset:TSet:=λx y v H Q=>∃a b kvs k,x= .ref a/\y= .ref b/\H a=some (DX P w a kvs)/\KeysIn K H kvs/\SqT K H b (k.map kV)/\kvs.length<sizeLine/\Q (upd H a (DX P w a (putX kvs k b v)))
def Wv(td ty:TE):TE:=λσ H Q=>td σ H λx H1=>∃a kvs0,x= .ref a/\H1 a=some (DX P w a kvs0)/\KeysIn K H1 kvs0/\ty σ H1 λy H2=>∃b kvs k,y= .ref b/\H2 a=some (DX P w a kvs)/\KeysIn K H2 kvs/\SqT K H2 b (k.map kV)/\Q ((valX kvs k).getD .non) H2
end
section
variable {P : Program} {w : World} {K : PySem.W.Frag} {X : Cx} {o i e value : Expr} {pos pos' tpos apos cpos : Pos} {td ty tv : TE}
theorem Ms{pins:List (Addr×Obj)}{σ:St}{H:Hp}{s:Shared}{a:Addr}{kvs:KX}(I:Inv X pins σ H s)(e:H a=some (DX X.prog X.w a kvs))(hk:KeysIn X.K H kvs):s.TypeIs (.ref a) "dict"/\∀b,Value.ref a= .ref b->∃ob,s.heap.get? b=some ob/\ob.dict=none:=by
 obtain⟨_,_,xs,_,dd⟩:=Nn I e hk;refine⟨dd.typeIs,λb q=>?_⟩;cases q;obtain⟨ob,_,_,h1,h2,_⟩:=dd;exact⟨ob,h1,h2.2.1⟩
theorem Eg(hP:X.prog=P)(hW:X.w=w)(hK:X.K=K)(hu:X.A.units+1<cLine)(ho:PE X o td)(hi:PE X i ty)(hs:NoSl i):PE X (.Subscript o i pos) (tOp (rXget P w K) td ty):=by
 subst hP hW hK;intro pins s σ H Q I h;refine Xw PySem.F.slot_dict_getitem.lookup hs (thn (ho pins s σ H _ I h) λu s1 ⟨x,H1,I1,rx,q1⟩=>thn (hi pins s1 σ H1 _ I1 q1) λiv s2 hqq=>?_);obtain⟨y,H2,I2,ry,a,b,kvs,k,v,ex,ey,g1,g2,g3,g4,q2⟩:=hqq;subst ex ey;obtain rfl:u=Value.ref a:=rx;obtain rfl:iv=Value.ref b:=ry;exact⟨(Ms I2 g1 g2).1,dx_get hu I2 g1 g2 g3 g4 λw' s3 I3 rw'=>⟨v,H2,I3,rw',q2⟩⟩
theorem inXK(hP:X.prog=P)(hW:X.w=w)(hK:X.K=K)(hu:X.A.units+1<cLine):OpR X (compareOp .In) (rXin P w K):=by
 subst hP hW hK;intro pins s σ H y x iv u Q I ry rx h;obtain⟨a,b,kvs,k,rfl,rfl,g1,g2,g3,q⟩:=h;obtain rfl:u=Value.ref a:=rx;obtain rfl:iv=Value.ref b:=ry;exact dx_in hu I g1 g2 g3 λs' I'=>⟨.bl _,H,I',rfl,q⟩
theorem An(hP:X.prog=P)(hW:X.w=w)(hK:X.K=K)(hu:X.A.units+1<cLine):OpR X (compareOp .NotIn) (rXni P w K):=by
 subst hP hW hK;intro pins s σ H y x iv u Q I ry rx h;obtain⟨a,b,kvs,k,rfl,rfl,g1,g2,g3,q⟩:=h;obtain rfl:u=Value.ref a:=rx;obtain rfl:iv=Value.ref b:=ry;exact Iv hu I g1 g2 g3 λs' I'=>⟨.bl _,H,I',rfl,q⟩
theorem setXK(hP:X.prog=P)(hW:X.w=w)(hK:X.K=K)(hu:X.A.units+1<cLine):PSet X (rXset P w K):=by
 subst hP hW hK;intro pins s σ H o i v ov iv u Q I ro ri rv h;obtain⟨a,b,kvs,k,rfl,rfl,g1,g2,g3,g4,q⟩:=h;obtain rfl:ov=Value.ref a:=ro;obtain rfl:iv=Value.ref b:=ri;exact dx_set hu I g1 g2 g3 g4 rv λs' I'=>⟨_,I',q⟩
theorem Mu(hP:X.prog=P)(hW:X.w=w)(hK:X.K=K)(hu:X.A.units+1<cLine)(ho:PE X o td)(he:PE X e ty)(m:M1 X o "get" apos e cpos):PE X (.Call (.Attribute o "get" apos) [e] [] cpos) (Wv P w K td ty):=by
 subst hP hW hK;intro pins s σ H Q I h;refine wpAny_Call_method m.base m.few m.line PySem.F.plainAttrs_dict PySem.F.slot_dict_get PySem.F.type_dict_get (thn (ho pins s σ H _ I h) λu s1 hqq=>?_);obtain⟨x,H1,I1,rx,a,kvs0,ex,d1,d2,q1⟩:=hqq;subst ex;obtain rfl:u=Value.ref a:=rx;obtain⟨t1,t2⟩:=Ms I1 d1 d2;refine⟨t1,t2,?_⟩;rw[m.trees];refine Calls.callWith_builtin rfl (Calls.evalArgs_plain (Calls.spliced_cons (thn (he pins s1 σ H1 _ I1 q1) λiv s2 ⟨y,H2,I2,ry,b,kvs,k,ey,g1,g2,g3,q2⟩=>Calls.spliced_nil ?_)));subst ey;obtain rfl:iv=Value.ref b:=ry;exact qz hu I2 g1 g2 g3 λw' s3 I3 rw'=>⟨_,H2,I3,rw',q2⟩
end
structure Ng(K:PySem.W.Frag)(C:Addr)(f:Str):Prop where
 c:Cls K C
 n:Im K C f
def rFl(C:Addr)(f:Str):V->Hp->VK->Prop:=λx H Q=>∃a dx fs v,x= .ref a/\H a=some (.ins C dx fs)/\fs.lookup f=some v/\Q v H
def sFl(C:Addr)(f:Str)(ta tv:TE):TS:=λD σ H=>tv σ H λy H1=>ta σ H1 λx H2=>∃a dx fs,x= .ref a/\H2 a=some (.ins C dx fs)/\fs.length<1000/\D.nx σ (upd H2 a (.ins C dx (putF f y fs)))
section
variable {X : Cx} {o e value : Expr} {f m : Str} {pos pos' tpos apos p : Pos} {ta tv : TE} {C : Addr} {k : Nat} {ps : List Str} {sp : Sp} {x : Str} {es : List Expr} {t : TA}
theorem cb(F:Ng X.K C f)(he:PE X e ta)(hb:attributeBase e f X.env (eval e X.env)=eval e X.env:=by first|rfl|with_unfolding_all rfl):PE X (.Attribute e f pos) (tUn (rFl C f) ta):=by
 intro pins s σ H Q I h;refine Dz hb (thn (he pins s σ H _ I h) λu s1 hqq=>?_);obtain⟨x,H1,I1,rx,a,dx,fs,v,ex,ea,l,q⟩:=hqq;subst ex;obtain rfl:u=Value.ref a:=rx;exact aq I1 ea F.c F.n l λu' s2 I2 ru=>⟨v,H1,I2,ru,q⟩
theorem jh(F:Ng X.K C f)(ha:PE X o ta)(hv:PE X value tv)(hs:swapsWith value (some (.Attribute o f pos')) pos.line X.env=pure false:=by first|rfl|with_unfolding_all rfl):PS X (.Assign [.Attribute o f pos'] value pos) (sFl C f ta tv):=by
 intro pins s σ H D I h;refine plainObj_wpAny_Assign_Attribute (thn (hv pins s σ H _ I h) λu s1 ⟨y,H1,I1,ry,q⟩=>thn (ha pins s1 σ H1 _ I1 q) λov s2 ⟨x,H2,I2,rx,a,dx,fs,ex,ea,l,q2⟩=>?_) hs;subst ex;obtain rfl:ov=Value.ref a:=rx;exact vp I2 ea F.c F.n l ry λs3 I3=>⟨σ,_,I3,q2⟩
end
structure UpM(K:PySem.W.Frag)(C:Addr)(m qual:Str)(st:Stmt)(ps:List Str):Prop where
 ex:∃(f:Addr) (fd:FuncData),Fun K m qual st f fd/\Cls K C/\Meth K C m f/\Binds K fd ps []
structure ya(P:Program)(w:World)(K:PySem.W.Frag)(mg:Str->Option Value)(base:Heap)(k:Nat)(C:Addr)(m:Str)(ps:List Str)(sp:Sp):Prop where
 ex:∃(f:Addr) (fd:FuncData),FnOk P w K mg base CX0 k f fd ps sp/\Cls K C/\Meth K C m f/\Binds K fd ps []
section
variable {P : Program} {w : World} {K : PySem.W.Frag} {mg : Str -> Option Value} {base : Heap} {C : Addr} {m qual x : Str} {st : Stmt} {N ps : List Str} {k : Nat} {sp : Sp}
theorem ya.of(U:UpM K C m qual st ps)(S:wa N ps (la st))(len:∀vs H Q E,sp vs H Q E->vs.length=ps.length)
 (hbody:∀(f:Addr) (cdv:Value) (A:Around) (outer:List Env) (s:Shared) (H:Hp) (vs:List V) (Q:VK) (E:XK),Room k (A.deeper (envOfC qual (la st) s.heap.objs.size f cdv))->sp vs H Q E ->
   ∃t,PSs (cxOf CX0 P w K mg base N qual (la st) f cdv A outer s H E).nox (qa st) t/\t { nx:=λ_ H'=>Q .non H',rt:=Q } (start N vs) H):ya P w K mg base (k+1) C m ps sp:=by
 obtain⟨f,fd,F,c,hm,hb⟩:=U.ex;exact⟨f,fd,F.ok S len λcdv A outer s H vs Q E hr h=>hbody f cdv A outer s H vs Q E hr h,c,hm,hb⟩
structure UpN(K:PySem.W.Frag)(mg:Str->Option Value)(C:Addr)(x qual:Str)(st:Stmt)(ps:List Str):Prop where
 ex:∃(f:Addr) (fd:FuncData),Fun K "__init__" qual st f fd/\Mk K C f/\mg x=some (.ref C)/\Binds K fd ps []
structure pd(P:Program)(w:World)(K:PySem.W.Frag)(mg:Str->Option Value)(base:Heap)(k:Nat)(C:Addr)(x:Str)(ps:List Str)(sp:Sp):Prop where
 ex:∃(f:Addr) (fd:FuncData),FnOk P w K mg base CX0 k f fd ps sp/\Mk K C f/\mg x=some (.ref C)/\Binds K fd ps []
theorem pd.of(U:UpN K mg C x qual st ps)(S:wa N ps (la st))(len:∀vs H Q E,sp vs H Q E->vs.length=ps.length)
 (hbody:∀(f:Addr) (cdv:Value) (A:Around) (outer:List Env) (s:Shared) (H:Hp) (vs:List V) (Q:VK) (E:XK),Room k (A.deeper (envOfC qual (la st) s.heap.objs.size f cdv))->sp vs H Q E ->
   ∃t,PSs (cxOf CX0 P w K mg base N qual (la st) f cdv A outer s H E).nox (qa st) t/\t { nx:=λ_ H'=>Q .non H',rt:=Q } (start N vs) H):pd P w K mg base (k+1) C x ps sp:=by
 obtain⟨f,fd,F,c,hm,hb⟩:=U.ex;exact⟨f,fd,F.ok S len λcdv A outer s H vs Q E hr h=>hbody f cdv A outer s H vs Q E hr h,c,hm,hb⟩
end
def tMe(C:Addr)(m:Str)(sp:Sp)(ta:TE)(t:TA):TE:=λσ H Q=>ta σ H λx H1=>∃a dx fs,x= .ref a/\H1 a=some (.ins C dx fs)/\fs.lookup m=none/\t σ H1 λvs H2=>sp (x::vs) H2 Q E0
def tNew(C:Addr)(sp:Sp)(t:TA):TE:=λσ H Q=>t σ H λvs H1=>∀x dx,H1 x=none->H1 dx=none->dx≠x->sp (.ref x::vs) (upd (upd H1 dx (.own x)) x (.ins C dx [])) (λv H2=>v= .non/\Q (.ref x) H2) E0
section
variable {X : Cx} {o e : Expr} {m : Str} {pos apos p : Pos} {ta : TE} {C : Addr} {k : Nat} {ps : List Str} {sp : Sp} {x : Str} {es : List Expr} {t : TA} {pl : Sem Bool}
theorem rb(Cm:ya X.prog X.w X.K X.mg X.base k C m ps sp)(hr:Room k X.A)(he:PE X o ta)(ha:PA X (e::es) t)
 (hst:starEach (e::es) X.env=(false,eval e X.env)::starEach es X.env:=by first|rfl|with_unfolding_all rfl)(hpl:(backTo pos (starEach es X.env)).any (·.1)=false:=by first|rfl|with_unfolding_all rfl)
 (ht:eval (.Call (.Attribute o m apos) (e::es) [] pos) X.env=(do
   let ov<-eval o X.env
   standAt apos.atName
   let (f,first)<-holding [ov] (getMethod ov m pl)
   callWith pos f first (backTo pos (starEach (e::es) X.env)) (backToKw pos (keywordEach [] X.env))):=by first|rfl|with_unfolding_all rfl) :
 PE X (.Call (.Attribute o m apos) (e::es) [] pos) (tMe C m sp ta t):=by
 obtain⟨f,fd,F,c,hm,hb⟩:=Cm.ex;have h:=Iy (apos:=apos) (pos:=pos) he c hm F hr hb .nil (E:=E0) Ir ha hst hpl ht;intro pins s σ H Q I q;refine h pins s σ H Q I ?_;unfold tMe at q;unfold Nt;simp only[List.append_nil];exact q
theorem Lb(Cm:ya X.prog X.w X.K X.mg X.base k C m ps sp)(hr:Room k X.A)(he:PE X o ta)
 (ht:eval (.Call (.Attribute o m apos) [] [] pos) X.env=(do
   let ov<-eval o X.env
   standAt apos.atName
   let (f,first)<-holding [ov] (getMethod ov m pl)
   callWith pos f first (backTo pos (starEach [] X.env)) (backToKw pos (keywordEach [] X.env))):=by first|rfl|with_unfolding_all rfl) :
 PE X (.Call (.Attribute o m apos) [] [] pos) (tMe C m sp ta tNil):=by
 obtain⟨f,fd,F,c,hm,hb⟩:=Cm.ex;have h:=Nu (apos:=apos) (pos:=pos) he c hm F hr hb .nil (E:=E0) Ir ht;intro pins s σ H Q I q;refine h pins s σ H Q I ?_;unfold tMe at q;unfold Nt;simp only[List.append_nil];exact q
theorem Hr(Cn:pd X.prog X.w X.K X.mg X.base k C x ps sp)(hr:Room (k+1) X.A)(hg:Gl X x)(ha:PA X (e::es) t)(hdb:(x==("__debug__":Str))=false:=by decide)
 (he:starEach (e::es) X.env=(false,eval e X.env)::starEach es X.env:=by first|rfl|with_unfolding_all rfl)(hpl:(backTo pos (starEach es X.env)).any (·.1)=false:=by first|rfl|with_unfolding_all rfl) :
 PE X (.Call (.Name x p) (e::es) [] pos) (tNew C sp t):=by
 obtain⟨f,fd,F,M,hm,hb⟩:=Cn.ex;have h:=Jy (p:=p) (pos:=pos) M F hr hg hm hb .nil (E:=E0) Ir ha hdb he hpl;intro pins s σ H Q I q;refine h pins s σ H Q I ?_;unfold tNew at q;unfold Ot;simp only[List.append_nil];exact q
theorem pe_cn0(Cn:pd X.prog X.w X.K X.mg X.base k C x ps sp)(hr:Room (k+1) X.A)(hg:Gl X x)(hdb:(x==("__debug__":Str))=false:=by decide):PE X (.Call (.Name x p) [] [] pos) (tNew C sp tNil):=by
 obtain⟨f,fd,F,M,hm,hb⟩:=Cn.ex;have h:=Ou (p:=p) (pos:=pos) M F hr hg hm hb .nil (E:=E0) Ir hdb;intro pins s σ H Q I q;refine h pins s σ H Q I ?_;unfold tNew at q;unfold Ot;simp only[List.append_nil];exact q
end
section
variable {P : Program} {w : World} {K : PySem.W.Frag} {σ : St} {H : Hp} {Q : VK} {ta td ty tv : TE} {tA : TA} {a b C dx : Addr} {fs : List (Str × V)} {f m : Str} {v : V} {kvs : KX} {k : List Key} {sp : Sp}
theorem r_fl(h1:H a=some (.ins C dx fs))(h2:fs.lookup f=some v)(h:Q v H):rFl C f (.ref a) H Q:=⟨a,dx,fs,v,rfl,h1,h2,h⟩
theorem r_sfl{n:St->Hp->Prop}{r:VK}{bb cc:St->Hp->Prop}(h:tv σ H λy H1=>ta σ H1 λx H2=>∃a dx fs,x= .ref a/\H2 a=some (.ins C dx fs)/\fs.length<1000/\n σ (upd H2 a (.ins C dx (putF f y fs)))):sFl C f ta tv ⟨n,r,bb,cc⟩ σ H:=h
theorem wj{y:V}{n:St->Hp->Prop}(h1:H a=some (.ins C dx fs))(h2:fs.length<1000)(h:n σ (upd H a (.ins C dx (putF f y fs)))):∃a' dx fs,V.ref a= .ref a'/\H a'=some (.ins C dx fs)/\fs.length<1000/\n σ (upd H a' (.ins C dx (putF f y fs))):=⟨a,dx,fs,rfl,h1,h2,h⟩
theorem r_me(h:ta σ H λx H1=>∃a dx fs,x= .ref a/\H1 a=some (.ins C dx fs)/\fs.lookup m=none/\tA σ H1 λvs H2=>sp (x::vs) H2 Q E0):tMe C m sp ta tA σ H Q:=h
theorem r_me2(h1:H a=some (.ins C dx fs))(h2:fs.lookup m=none)(h:tA σ H λvs H2=>sp (.ref a::vs) H2 Q E0):∃a' dx fs,V.ref a= .ref a'/\H a'=some (.ins C dx fs)/\fs.lookup m=none/\tA σ H λvs H2=>sp (.ref a::vs) H2 Q E0:=⟨a,dx,fs,rfl,h1,h2,h⟩
theorem r_new(h:tA σ H λvs H1=>∀x dx,H1 x=none->H1 dx=none->dx≠x->sp (.ref x::vs) (upd (upd H1 dx (.own x)) x (.ins C dx [])) (λv H2=>v= .non/\Q (.ref x) H2) E0):tNew C sp tA σ H Q:=h
theorem vj(h1:H a=some (DX P w a kvs))(h2:KeysIn K H kvs)(h3:SqT K H b (k.map kV))(h4:valX kvs k=some v)(h:Q v H):rXget P w K (.ref a) (.ref b) H Q:=⟨a,b,kvs,k,v,rfl,rfl,h1,h2,h3,h4,h⟩
theorem r_xin(h1:H a=some (DX P w a kvs))(h2:KeysIn K H kvs)(h3:SqT K H b (k.map kV))(h:Q (.bl (valX kvs k).isSome) H):rXin P w K (.ref b) (.ref a) H Q:=⟨a,b,kvs,k,rfl,rfl,h1,h2,h3,h⟩
theorem Tx(h1:H a=some (DX P w a kvs))(h2:KeysIn K H kvs)(h3:SqT K H b (k.map kV))(h:Q (.bl (!(valX kvs k).isSome)) H):rXni P w K (.ref b) (.ref a) H Q:=⟨a,b,kvs,k,rfl,rfl,h1,h2,h3,h⟩
theorem r_xset{QH:Hp->Prop}(h1:H a=some (DX P w a kvs))(h2:KeysIn K H kvs)(h3:SqT K H b (k.map kV))(h4:kvs.length<sizeLine)(h:QH (upd H a (DX P w a (putX kvs k b v)))):rXset P w K (.ref a) (.ref b) v H QH:=⟨a,b,kvs,k,rfl,rfl,h1,h2,h3,h4,h⟩
theorem Ux(h:td σ H λx H1=>∃a kvs0,x= .ref a/\H1 a=some (DX P w a kvs0)/\KeysIn K H1 kvs0/\ty σ H1 λy H2=>∃b kvs k,y= .ref b/\H2 a=some (DX P w a kvs)/\KeysIn K H2 kvs/\SqT K H2 b (k.map kV)/\Q ((valX kvs k).getD .non) H2):Wv P w K td ty σ H Q:=h
end
end L2
namespace L2
open PySem PySem.Spec PyProof.Rows
theorem Pt{prog:Program}{w:World}{A:Around}{E:Value->Shared->Prop}{s:Shared}{pr:Sem Value×Sem Value}{Q:Addr->Shared->Prop}(hu:A.units+1<cLine)
 (h:wpAny (model prog w) A (evalPairs [pr]) (λvs s₁=>∃b u k,vs=[(.ref b,u)]/\(tupleKind (Qb prog w)).is s₁.heap k b/\s₁.heap.DictOfH (tupleKind (Qb prog w)) s.heap.objs.size [] /\
   ∀h' t',h'.DictOfH (tupleKind (Qb prog w)) s.heap.objs.size [(k,b,u)]->Heap.SameBut s.heap.objs.size s₁.heap h'->Q s.heap.objs.size { s₁ with heap:=h',toks:=t' }) E
   { s with heap:=s.heap.push { cls:=.type "dict",data:=.dict #[] } }) :
 wpAny (model prog w) A (subDict [pr]) Q E s:=by
 unfold subDict;refine wpAny_bind (wpAny_alloc ?_);refine wpAny_bind (wpAny_holding ?_);rw[if_pos (show [pr].length<=15 from by show 1<=15;decide)];refine wpAny_bind (wpAny_mono h (λvs s₁ h₁=>?_) λ_ _ e=>e);obtain⟨b,u,k,rfl,hk,hm,hQ⟩:=h₁;refine wpAny_holding ?_;refine wpAny_bind ?_;rw[List.forIn_cons];refine wpAny_bind (wpAny_bind (wpAny_dictSet_heap (hsz:=Nat.zero_le _) (show A.units<cLine from by omega) hk hm λh₁ hm₁ hs₁=>wpAny_pure ?_));show wpAny _ _ (forIn [] _ _) _ _ _;rw[List.forIn_nil];exact wpAny_pure (wpAny_pure (wpAny_pure (hQ _ _ hm₁ hs₁)))
def tX1(P:Program)(w:World)(K:PySem.W.Frag)(tk tv:TE):TE:=λσ H Q=>∀p,H p=none->tk σ (upd H p (DX P w p [])) λx H1=>tv σ H1 λy H2=>∃b k,x= .ref b/\H2 p=some (DX P w p [])/\SqT K H2 b (k.map kV)/\Q (.ref p) (upd H2 p (DX P w p [((k,b),y)]))
theorem pe_x1{X:Cx}{P:Program}{w:World}{K:PySem.W.Frag}{kx vx:Expr}{pos:Pos}{tk tv:TE}(hP:X.prog=P)(hW:X.w=w)(hK:X.K=K)(hu:X.A.units+1<cLine)(hk:PE X kx tk)(hv:PE X vx tv):PE X (.Dict [some kx] [vx] pos) (tX1 P w K tk tv):=by
 subst hP hW hK;intro pins s σ H Q I h;have hn:=I.hok.fresh (Nat.le_refl s.heap.objs.size);have hd:(s.heap.objs.size==sysModules)=false:=beq_eq_false_iff_ne.mpr (Ne.symm (Nat.ne_of_lt I.big));have I1:=I.laid (a:=s.heap.objs.size) (o:=DX X.prog X.w s.heap.objs.size []) (h':=s.heap.push { cls:=.type "dict",data:=.dict #[] }) (t':=s.toks) (λ_ _ q=>Heap.get?_push_of_some _ q) (Nat.le_refl _)
  (DX.ok ⟨Nat.zero_le _,hd,[],.nil,_,#[],0,Heap.get?_push_size _ rfl,⟨rfl,rfl,rfl⟩,rfl,rfl,List.nodup_nil⟩)
 rw[arm_eval_Dict,zip_pairTrees [some kx] [vx] X.env pos rfl rfl,dictDisplay_pairs (pairTrees [some kx] [vx] X.env pos) (by intro z;cases z) (by show 1<17;decide)];refine wpAny_bind (wpAny_standAt (wpAny_bind (Pt (Q:=λd s'=>wpAny (model X.prog X.w) X.A (pure (Value.ref d)) (EP X pins σ Q) X.xe s') hu ?_)));refine pairTrees_cons_walk (thn (hk pins _ σ _ _ I1 (h _ hn)) λu s1 ⟨x,H1,I2,rx,q1⟩=>thn (hv pins s1 σ H1 _ I2 q1) λu2 s2 ⟨y,H2,I3,ry,b,k,ex,e2,sq,q2⟩=>pairTrees_nil_walk ?_);subst ex;obtain rfl:u=Value.ref b:=rx;obtain⟨_,_,xs,rel,dd⟩:=Nn I3 e2 (λp hp=>nomatch hp);cases rel;refine⟨b,u2,k,rfl,ui I3 sq,dd,λh' t' dd' hs=>wpAny_pure ⟨.ref _,_,?_,rfl,q2⟩⟩;obtain⟨q,es,ep,hq,h2,h3,h4,_,h5⟩:=dd';exact et I3 (by rw[e2];exact True.intro) hs ⟨q,hq⟩ (DX.ok ⟨by show 1<=sizeLine;decide,hd,_,.cons ⟨rfl,rfl,ry⟩ .nil,q,es,ep,hq,h2,h3,h4,h5⟩)
end L2
namespace L2
open PySem PySem.Spec PyProof.Rows
def uc(h:Int)(led:Bool):SetTable:={ mask:=7,place:= #[SetTable.bits h%8],dummies:= #[],finger:=0,led,moves:=0,plain:=false }
def Nf(h:Int)(led:Bool):SetTable:={ mask:=7,place:= #[SetTable.bits h%8],dummies:= #[],finger:=0,led,moves:=0,plain:=true }
theorem rp(led:Bool)(j:Nat):(SetTable.fresh 0 0 led).slot j= .empty:=by
 unfold SetTable.slot SetTable.has SetTable.fresh;simp
theorem Yr(led:Bool)(hv:Int)(v:Value):layNew (SetTable.fresh 0 0 led) #[] hv v=(#[(hv,v)],Nf hv led,false,false):=by
 have e1:(SetTable.fresh 0 0 led).freeSlot hv=some (SetTable.bits hv%8,false):=by
  unfold SetTable.freeSlot SetTable.probe;rw[show 10*SetTable.turns (SetTable.fresh 0 0 led).mask=219+1 from rfl];unfold SetTable.probe.go;rw[rp];rfl
 unfold layNew;rw[e1];have e2:(SetTable.fresh 0 0 led).put (SetTable.bits hv%8)=(Nf hv led,0):=by
  unfold SetTable.put SetTable.fresh Nf;have:SetTable.below (#[]:Array Nat) (SetTable.bits hv%8)=0:=rfl;simp only[this];rfl
 simp only[e2];have e3:(Nf hv led).fits 1=true:=rfl;have e4:SetTable.insertAt (#[]:Array (Int×Value)) 0 (hv,v)= #[(hv,v)]:=rfl;rw[e4];show (_,(Nf hv led).orStandIn 1,false,!(Nf hv led).fits 1)=_;unfold SetTable.orStandIn;rw[e3];rfl
section
variable {prog : Program} {w : World} {A : Around} {E : Value -> Shared -> Prop} {s : Shared}
theorem add_one{a:Addr}{led:Bool}{x:Str}{t:Tok}{hv:Int}{Q:Bool->Shared->Prop}(ho:s.heap.get? a=some { cls:=.type "set",dict:=none,data:=.set #[] 0 (.fresh 0 0 led) })
 (h:Q true { s with heap:=s.heap.update a (Obj.putSet #[(hv,.str x t)] (uc hv led)) }):wpAny (model prog w) A (setAddHashed a (.str x t) hv) Q E s:=by
 unfold setAddHashed setAddHashedIn;refine wpAny_holding (wpAny_bind (wpAny_setState_of ho rfl rfl ?_));dsimp only;rw[show byScan (.str x t) #[]=true from by simp[byScan,Value.scannable,scanBound]];simp only[↓reduceIte];unfold setAddByScan;refine wpAny_bind ?_;refine wpAny_bind (wpAny_rule ?_);have es:setScan a (.str x t) hv true #[]=pure .absent:=by
  unfold setScan setScanStrs;simp
 refine wpAny_bind (wpAny_of_eq es ?_);dsimp only;rw[Yr];dsimp only;refine wpAny_bind (wpAny_pure ?_);rw[if_pos (show (Nf hv led).plain=true from rfl)];have eh:hashByValue 8 (.str x t)=pure false:=by unfold hashByValue;rfl
 refine wpAny_bind (wpAny_of_eq eh ?_);show wpAny (model prog w) A (storeSet a #[(hv,.str x t)] (uc hv led) >>= λ_=>if (!false&&(uc hv led).tooFull)=true then _ else pure (some true)) _ _ _;refine wpAny_bind (wpAny_storeSet_of ho rfl ?_ (fits_of_scanBound (by show 1<scanBound;decide)));rw[if_neg (show ¬(!false&&(uc hv led).tooFull)=true from by simp[SetTable.tooFull,SetTable.fill,uc])];exact wpAny_pure (wpAny_pure h)
def Rf(w:World):Bool:= !(w.params.followText "set-order")
def set0(w:World):Obj:={ cls:=.type "set",dict:=none,data:=.set #[] 0 (.fresh 0 0 (Rf w)) }
theorem Mm(a:Value){Q₁:Value->Shared->Prop}(h:Q₁ (.ref s.heap.objs.size) { s with heap:=s.heap.push (set0 w) }) :
 codeAny (model prog w) A (.call (.builtin "set.__new__") ⟨[.type "set",a],[]⟩) (wants Q₁ E) s:=by
 refine codeAny_of_tree ?_;show wpAny _ A.in1 (do checkBuiltinCall "set.__new__" ⟨[.type "set",a],[]⟩;again (.builtin "set.__new__" ⟨[.type "set",a],[]⟩)) _ _ s;refine wpAny_bind (wpAny_of_eq (PySem.F.newCall_set_1 a) (wpAny_pure ⟨plainId_quiet PySem.F.plain_set_new _,codeAny_builtin PySem.F.entry_set_new ?_⟩));rw[Around.under_plainId PySem.F.plain_set_new _];unfold Builtin.«set.__new__» Builtin.Frozenset.newClass;have hsub:=sub_set_self;obtain⟨hp,g,d,tk,os⟩:=s;dsimp only;wp_walk
 refine wpAny_askSetting (wpAny_pure ?_);dsimp only;simp only[newObj];refine wpAny_bind (wpAny_alloc (wpAny_pure ?_));exact wpAny_pure h
def set1(w:World)(hv:Int)(x:Str)(t:Tok):Obj:={ cls:=.type "set",dict:=none,data:=.set #[(hv,.str x t)] 1 (uc hv (Rf w)) }
theorem Kl{I:Addr}{fp wr:List Addr}{G:Array GenState->Array GenState->Prop}{x:Str}{St:Nat->Shared->Prop}{R:Result->Shared->Prop}(W:WalksS prog w A.in1 I fp wr G 1 (λi v=>∃t,v= .str x t) St)(S:Addr)(hSf:S∉fp)(hst:St 0 s)(ho:s.heap.get? S=some (set0 w))
 (hR:∀s' hv t,Moved (S::wr) G s s'->s'.heap.get? S=some (set1 w hv x t)->R (.ok (.ret .none)) s'):codeAny (model prog w) A (.builtin "set.update.loop" ⟨[.ref S,.ref I],[]⟩) R s:=by
 have hSw:S∉wr:=λh=>hSf (W.sub _ h);have hsub:∀b∈wr,b∈S::wr:=λb hb=>List.mem_cons_of_mem _ hb;refine codeAny_builtin PyProof.Rows.F.entry_set_update_loop ?_;rw[Around.under_plainId PyProof.Rows.F.plain_set_update_loop _];show wpAny _ A.in1 (pyNext (.ref I) >>= _) _ _ s;refine wpAny_bind (W.item 0 s _ _ (by decide) hst λv s' hP hst' hm=>?_);obtain⟨t,rfl⟩:=hP;have ho':=hm.heap S _ hSw ho;show wpAny _ A.in1 (holding [Value.str x t] (setAdd S (.str x t)) >>= _) _ _ s';refine wpAny_bind (wpAny_holding ?_);unfold setAdd;refine wpAny_holding ?_;refine wpAny_bind ((strKind prog w).pyHash (k:=x) (strKind_is _ _ _ _) ?_);refine add_one (led:=Rf w) (s:={ s' with toks:=s'.toks+1 }) ho' ?_;have hg:(s'.heap.update S (Obj.putSet #[((strKind prog w).hash x,.str x t)] (uc ((strKind prog w).hash x) (Rf w)))).get? S=some (set1 w ((strKind prog w).hash x) x t):=by
  have:=Heap.get?_update_self (Obj.putSet #[((strKind prog w).hash x,.str x t)] (uc ((strKind prog w).hash x) (Rf w))) ho' (by rw[putSet_of _ _ (rfl:(set0 w).data=_)];rfl);rw[putSet_of _ _ (rfl:(set0 w).data=_)]at this;exact this
 have hsb:=Heap.SameBut.update s'.heap S (Obj.putSet #[((strKind prog w).hash x,.str x t)] (uc ((strKind prog w).hash x) (Rf w)));have hst2:=W.frame 1 s' (s'.heap.update S (Obj.putSet #[((strKind prog w).hash x,.str x t)] (uc ((strKind prog w).hash x) (Rf w)))) (s'.toks+1) hst' (Nat.le_succ _) λb hb o e=>by
  rw[hsb.2 b (λh:b=S=>hSf (by rw[<-h];exact hb))];exact e
 refine wpAny_pure ⟨plainId_quiet PyProof.Rows.F.plain_set_update_loop _,codeAny_builtin PyProof.Rows.F.entry_set_update_loop ?_⟩;rw[Around.under_plainId PyProof.Rows.F.plain_set_update_loop _];show wpAny _ A.in1 (pyNext (.ref I) >>= _) _ _ _;refine wpAny_bind (W.done _ _ _ hst2 λs'' hm2=>?_);show wpAny _ A.in1 (ret Value.none) _ _ s'';refine wpAny_pure (hR s'' _ _ ?_ (hm2.heap S _ hSw hg));refine Moved.trans W.gtrans ((hm.mono hsub).then_heap (Nat.le_succ _) λb o hb e=>?_) (hm2.mono hsub);rw[hsb.2 b (λh:b=S=>hb (by rw[h];exact List.mem_cons_self))];exact e
set_option maxHeartbeats 3200000 in
theorem ym{l:Addr}{x:Str}{t0:Tok}{Q:Value->Shared->Prop}(hh:A.handled=none)(hl:s.heap.IsList l #[.str x t0])
 (h:∀(h':Heap) (tk:Nat) (hv:Int) (t:Tok),h'.get? s.heap.objs.size=some (set1 w hv x t)->(∀b o,b<s.heap.objs.size->s.heap.get? b=some o->h'.get? b=some o)->Q (.ref s.heap.objs.size) { s with heap:=h',toks:=tk }) :
 wpAny (model prog w) A (call (.type "set") [.ref l]) Q E s:=by
 obtain⟨c,tl,hmro⟩:=PySem.F.called_set.mro;have hmade:=PySem.F.called_set.made;have hsub:=PySem.F.called_set.sub;refine wpAny_call (codeAny_of_tree ?_);show wpAny _ _ (callAny (.type "set") _) _ _ _;refine wpAny_pure ⟨Code.quiet_builtin _ (by decide +kernel),codeAny_builtin PySem.F.entry_type_call ?_⟩;rw[Around.under_plain (weight_type_call_type "set" [.ref l] []) rfl];have h1:=PySem.F.called_set.notType;have h2:=PySem.F.called_set.canCreate;have hct:=PySem.F.typeCall_set_1 (.ref l)
 repeat (any_goals (first|assumption|wp_step))
 refine codeAny_mono (Mm (.ref l) (E:=E) (Q₁:=λobj s₁=>obj= .ref s.heap.objs.size/\s₁={ s with heap:=s.heap.push (set0 w) }) ⟨rfl,rfl⟩) λr s₁ hr=>?_;cases r with
 | error e=>exact hr
 | ok fl =>
  cases fl with
  | ret obj =>
   obtain⟨rfl,rfl⟩:=hr;have hS:(s.heap.push (set0 w)).get? s.heap.objs.size=some (set0 w):=Heap.get?_push_size _ rfl;have hT:Shared.TypeIs { s with heap:=s.heap.push (set0 w) } (.ref s.heap.objs.size) "set":=⟨_,hS,rfl⟩
   have hli:=PySem.F.called_set.init.lookup;have hbi:=PySem.F.called_set.init.bind (.ref s.heap.objs.size)
   repeat (any_goals (first|assumption|wp_step))
   refine codeAny_mono (codeAny_call_builtin (R:=wants (λr s₂=>r= .none/\∃h' tk hv t,s₂={ s with heap:=h',toks:=tk }/\h'.get? s.heap.objs.size=some (set1 w hv x t) /\
    (∀b o,b<s.heap.objs.size->s.heap.get? b=some o->h'.get? b=some o)) E) PySem.F.called_set.init.plain PySem.F.entry_set_init (check_set_init_1 hT ?_)) λr₂ s₂ hr₂=>?_
   . obtain⟨ol,hol,hcl,nl,hdl⟩:=hl
     obtain⟨ocls,odict,odata,oslots⟩:=ol;simp only at hcl hdl;subst hcl;subst hdl;have hol':(s.heap.push (set0 w)).get? l=some { cls:=.type "list",dict:=odict,data:=.seq #[.str x t0] nl,slots:=oslots }:=Heap.get?_push_of_some _ hol;have hsls:=PySem.F.sub_list_set;have hslf:=PySem.F.sub_list_frozenset;have hne:(Value.type "list"==Value.type "dict")=false:=by decide
     have hl1:(s.heap.push (set0 w)).IsList l #[.str x t0]:=⟨_,hol',rfl,nl,rfl⟩
     unfold Builtin.«set.__init__» noKeywords Builtin.Frozenset.updateFrom;generalize hPI:pyIter=PI;wp_walk
     subst hPI;refine wpAny_pyIter_list hl1 ?_;refine wpAny_bind (wpAny_runValue ?_);have hlS:l<s.heap.objs.size:=Heap.lt_size hol;have hh3:A.in1.in1.in1.handled=none:=by simp[hh]
     have hneI:l≠(s.heap.push (set0 w)).objs.size:=by
      rw[Heap.size_push];exact Nat.ne_of_lt (Nat.lt_succ_of_lt hlS)
     have hSf:s.heap.objs.size∉[(s.heap.push (set0 w)).objs.size,l]:=by
      rw[Heap.size_push];simp only[List.mem_cons,List.mem_singleton,List.not_mem_nil,or_false,not_or];exact⟨Nat.ne_of_lt (Nat.lt_succ_self _),Nat.ne_of_gt hlS⟩
     have W0:=(Walks.list (prog:=prog) (w:=w) hh3 _ l hneI #[.str x t0]).toS;have W1:WalksS prog w A.in1.in1.in1 _ _ _ (λa b=>b=a) 1 (λi v=>∃t,v= .str x t) _ :=
      ⟨W0.sub,W0.grefl,W0.gtrans,W0.frame,λi s Q E hi st hQ=>W0.item i s Q E hi st λv s' hv st' hm=>hQ v s' (by
       have:i=0:=by omega
       subst this;simp at hv;exact⟨t0,hv.symm⟩) st' hm,W0.done,W0.self⟩
     refine Kl W1 s.heap.objs.size hSf ⟨⟨_,Heap.get?_push_size _ rfl,rfl,rfl⟩,(hl1.push _)⟩ (Heap.get?_push_of_some _ hS) ?_;intro s' hv t hm hS';obtain⟨h',g',d',tk',os'⟩:=s';have eg:g'=s.gens:=hm.gens;have ed:d'=s.drawn:=hm.drawn;have eo:os'=s.os:=hm.os;subst eg;subst ed;subst eo;show wpAny _ _ _ _ _ _;refine wpAny_pure ?_;show wpAny _ _ (ret Value.none) _ _ _;refine wpAny_pure ⟨rfl,h',tk',hv,t,rfl,hS',λb o hb e=>?_⟩;have hb1:b≠s.heap.objs.size:=Nat.ne_of_lt hb;have hb2:b≠(s.heap.push (set0 w)).objs.size:=by
      rw[Heap.size_push];exact Nat.ne_of_lt (Nat.lt_succ_of_lt hb)
     exact hm.heap b o (by simp only[List.mem_cons,List.mem_singleton,List.not_mem_nil,or_false,not_or];exact⟨hb1,hb2⟩) (Heap.get?_push_of_some _ (Heap.get?_push_of_some _ e))
   . cases r₂ with
     | error e=>exact hr₂
     | ok fl₂ =>
      cases fl₂ with
      | ret r =>
       obtain⟨rfl,h',tk,hv,t,rfl,hS',hk'⟩:=hr₂
       repeat (any_goals (first|assumption|wp_step))
       exact h _ _ _ _ hS' hk'
      | _=>exact hr₂.elim
  | _=>exact hr.elim
end
end L2
namespace L2
open PySem PySem.Spec PyProof.Rows
theorem Tb:Slot "set_iterator" "__next__" "set_iterator.__next__" :=
 .of (owner:="set_iterator") (n:="__next__") (by rw[typeLookup_type,builtinLookup_eq_fast];kernel_rfl) (by decide +kernel) (by decide +kernel) (by decide +kernel)
  (by first|exact .inl (by decide +kernel)|exact .inr (by decide +kernel)) (by rw[isSubtype_type];kernel_rfl)
theorem qg:entryFor table "set_iterator.__next__"=some Builtin.«set_iterator.__next__»:=entryFor_of_tree (by kernel_rfl)
theorem Wg(a:Value):argsOk "set_iterator.__next__" ⟨[a],[]⟩:=by unfold argsOk;kernel_rfl
theorem kj:entryFor table "set.__iter__"=some Builtin.«frozenset.__iter__»:=entryFor_alias (id':="frozenset.__iter__") (by kernel_rfl) rfl (by decide +kernel) (by kernel_rfl)
def vg(a:Addr)(slot i:Int):Obj:={ cls:=.type "set_iterator",data:=.fields #[rawInt slot,rawInt i,.ref a,rawInt 1,rawInt 1] }
section
variable {prog : Program} {w : World} {A : Around} {E : Value -> Shared -> Prop} {s : Shared} {a it : Addr} {hv : Int} {x : Str} {t : Tok}
theorem Fv(led:Bool):(uc hv led).fits 1=true:=rfl
theorem st1{Q:Array (Int×Value)×Nat×SetTable->Shared->Prop}(ho:s.heap.get? a=some (set1 w hv x t))(h:Q (#[(hv,.str x t)],1,uc hv (Rf w)) s):wpAny (model prog w) A (setState a) Q E s :=
 wpAny_setState_of ho rfl (Fv _) h
theorem iter1{Q:Value->Shared->Prop}(ho:s.heap.get? a=some (set1 w hv x t))(hQ:Q (.ref s.heap.objs.size) { s with heap:=s.heap.push (vg a 0 0) }):wpAny (model prog w) A (pyIter (.ref a)) Q E s:=by
 have hT:s.TypeIs (.ref a) "set":=⟨_,ho,rfl⟩
 refine wpAny_pyIter_slot hT PySem.F.slot_set_iter (wpAny_call_entry PySem.F.slot_set_iter hT kj ?_ (PySem.F.args_set_iter_1 _));show wpAny _ _ (Builtin.Frozenset.sizeOf a >>= _) _ _ s;unfold Builtin.Frozenset.sizeOf setEntries;refine wpAny_bind (wpAny_bind (wpAny_bind (st1 ho (wpAny_pure (wpAny_pure ?_)))));unfold setDrawn setsByText;refine wpAny_bind (wpAny_bind (st1 ho ?_));refine wpAny_bind (wpAny_bind (wpAny_askSetting (wpAny_pure (wpAny_pure ?_))));have e0:(!w.params.followText "set-order"&&(!(uc hv (Rf w)).plain&&decide ((#[(hv,Value.str x t)]:Array (Int×Value)).size>1)))=false:=by
  rw[show decide ((#[(hv,Value.str x t)]:Array (Int×Value)).size>1)=false from rfl,Bool.and_false,Bool.and_false]
 dsimp only;split
 . rename_i z
   have z':(!w.params.followText "set-order"&&(!(uc hv (Rf w)).plain&&decide ((#[(hv,Value.str x t)]:Array (Int×Value)).size>1)))=true:=z;rw[e0]at z';cases z'
 . refine wpAny_bind (wpAny_pure ?_)
   unfold setEpoch;refine wpAny_bind (wpAny_bind (st1 ho (wpAny_pure ?_)));exact wpAny_bind (wpAny_newObj_type (wpAny_pure ⟨_,rfl,"set_iterator",_,⟨_,Heap.get?_push_size _ rfl,rfl⟩,Tb.lookup,hQ⟩))
theorem walk1(hw:w.params.followText "set-order"=true){Q:Array (Int×Value)->Shared->Prop}(ho:s.heap.get? a=some (set1 w hv x t))(h:Q #[(hv,.str x t)] s):wpAny (model prog w) A (setWalk a) Q E s:=by
 unfold setWalk setsByText;refine wpAny_bind (st1 ho ?_);refine wpAny_bind (wpAny_bind (wpAny_askSetting (wpAny_pure ?_)));dsimp only;rw[if_pos (show (model prog w).w.params.followText "set-order"=true from hw)];refine wpAny_bind (wpAny_askSetting (wpAny_pure ?_));have e:pickOrder (w.params.setOrder a 1) #[(hv,Value.str x t)]= #[(hv,.str x t)]:=by
  unfold pickOrder;show pickOrder.go _ 1 0 [(hv,Value.str x t)] #[]=_;unfold pickOrder.go;simp[Nat.mod_one];unfold pickOrder.go;rfl
 show Q (pickOrder (w.params.setOrder a 1) #[(hv,Value.str x t)]) s;rw[e];exact h
def plc(w:World)(hv:Int):Int:=if w.params.followText "set-order"=true then 0 else ((SetTable.bits hv%8+1:Nat):Int)
theorem below0(j:Nat):SetTable.below #[j] 0=0:=by simp[SetTable.below,SetTable.below.go]
theorem below1(j:Nat):SetTable.below #[j] (j+1)=1:=by simp[SetTable.below,SetTable.below.go]
theorem Ur{i slot:Nat}{r:Option (Value×Nat)}{Q:Option (Value×Nat)->Shared->Prop}(ho:s.heap.get? a=some (set1 w hv x t))
 (h1:w.params.followText "set-order"=true->((#[(hv,Value.str x t)]:Array (Int×Value))[i]?).map (λe=>(e.2,slot))=r)
 (h2:¬w.params.followText "set-order"=true->(match (#[(hv,Value.str x t)]:Array (Int×Value))[SetTable.below #[SetTable.bits hv%8] slot]?,(#[SetTable.bits hv%8]:Array Nat)[SetTable.below #[SetTable.bits hv%8] slot]? with
   | some (_,x),some j=>some (x,j+1)
   | _,_=>none)=r)
 (h:Q r s):wpAny (model prog w) A (setNext a slot i 1) Q E s:=by
 unfold setNext setsByText;refine wpAny_bind (st1 ho ?_);refine wpAny_bind (wpAny_bind (wpAny_askSetting (wpAny_pure ?_)));dsimp only;by_cases hw:w.params.followText "set-order"=true
 . rw[if_pos (show (model prog w).w.params.followText "set-order"=true from hw),if_neg (show ¬((1:Nat) !=1)=true from by decide)]
   refine wpAny_bind (walk1 hw ho (wpAny_pure ?_));rw[h1 hw];exact h
 . rw [if_neg (show ¬ (model prog w).w.params.followText "set-order" = true from hw)]
   split
   . rename_i z
     have z':(!(uc hv (Rf w)).plain&&decide ((#[(hv,Value.str x t)]:Array (Int×Value)).size>1))=true:=z;rw[show decide ((#[(hv,Value.str x t)]:Array (Int×Value)).size>1)=false from rfl,Bool.and_false]at z';cases z'
   . refine wpAny_bind ?_
     show wpAny _ _ (if (!(uc hv (Rf w)).led&& !(#[(hv,Value.str x t)]:Array (Int×Value)).isEmpty)=true then unsupported "set:maker-not-led" else pure ()) _ _ _;have hl:(uc hv (Rf w)).led=true:=by
      show Rf w=true;unfold Rf;cases q:w.params.followText "set-order" with
      | true=>exact absurd q hw
      | false=>rfl
     rw[hl,if_neg (show ¬(!true&& !(#[(hv,Value.str x t)]:Array (Int×Value)).isEmpty)=true from by simp)];refine wpAny_pure (wpAny_pure ?_);have e:=h2 hw;rw[<-e]at h;exact h
theorem next1{Q:Option (Value×Nat)->Shared->Prop}(ho:s.heap.get? a=some (set1 w hv x t))(h:Q (some (.str x t,(plc w hv).toNat)) s):wpAny (model prog w) A (setNext a 0 0 1) Q E s:=by
 refine Ur ho (λhw=>?_) (λhw=>?_) h
 . rw[show plc w hv=0 from if_pos hw];rfl
 . rw[show plc w hv=_ from if_neg hw,below0];rfl
theorem next2{Q:Option (Value×Nat)->Shared->Prop}(ho:s.heap.get? a=some (set1 w hv x t))(h:Q none s):wpAny (model prog w) A (setNext a (plc w hv).toNat 1 1) Q E s:=by
 refine Ur ho (λhw=>rfl) (λhw=>?_) h;rw[show plc w hv=_ from if_neg hw,Int.toNat_natCast,below1];rfl
theorem Cy{Q:Option Value->Shared->Prop}(ne:a≠it)(hi:s.heap.get? it=some (vg a 0 0))(ho:s.heap.get? a=some (set1 w hv x t))
 (hQ:∀h',h'.get? it=some (vg a ((plc w hv).toNat:Nat) 1)->Heap.SameBut it s.heap h'->Q (some (.str x t)) { s with heap:=h' }):wpAny (model prog w) A (pyNext (.ref it)) Q E s:=by
 have hT:s.TypeIs (.ref it) "set_iterator":=⟨_,hi,rfl⟩
 unfold pyNext;refine wpAny_bind (wpAny_attempt (wpAny_callSpecial?_slot (name:=Str.ofString "__next__") hT Tb (wpAny_call_entry Tb hT qg ?_ (Wg _))));unfold Builtin.«set_iterator.__next__»;refine wpAny_bind (m:=slotArgs "__next__" 0 _) (wpAny_pure ?_);refine wpAny_bind (wpAny_fieldsOf hi rfl ?_);show wpAny _ _ (setEntries a >>= _) _ _ _;unfold setEntries;refine wpAny_bind (wpAny_bind (st1 ho (wpAny_pure ?_)));dsimp only;rw[if_neg (show ¬(((#[(hv,Value.str x t)]:Array (Int×Value)).size:Int) !=1)=true from by show ¬((1:Int) !=1)=true;decide)];show wpAny _ _ (setNext a 0 0 1 >>= _) _ _ _;refine wpAny_bind (next1 ho ?_);dsimp only;refine wpAny_bind (wpAny_setField hi rfl (by show 0<5;decide) ?_);have hg1:=Heap.get?_update_self (Obj.mapFields (·.setIfInBounds 0 (rawInt ((plc w hv).toNat:Nat)))) hi rfl;refine wpAny_bind (wpAny_setField hg1 rfl (by show 1<5;decide) ?_);have hg2:=Heap.get?_update_self (Obj.mapFields (·.setIfInBounds 1 (rawInt (0+1)))) hg1 rfl;exact wpAny_pure ⟨_,rfl,wpAny_pure (hQ _ hg2 ((Heap.SameBut.update ..).trans (Heap.SameBut.update ..)))⟩
theorem By{Q:Option Value->Shared->Prop}(hh:A.handled=none)(ne:a≠it)(hi:s.heap.get? it=some (vg a ((plc w hv).toNat:Nat) 1))(ho:s.heap.get? a=some (set1 w hv x t))
 (hQ:∀h',Heap.ExtBut it s.heap h'->Q none { s with heap:=h' }):wpAny (model prog w) A (pyNext (.ref it)) Q E s:=by
 have hT:s.TypeIs (.ref it) "set_iterator":=⟨_,hi,rfl⟩
 unfold pyNext;refine wpAny_bind (wpAny_attempt (wpAny_callSpecial?_slot (name:=Str.ofString "__next__") hT Tb (wpAny_call_entry Tb hT qg ?_ (Wg _))));unfold Builtin.«set_iterator.__next__»;refine wpAny_bind (m:=slotArgs "__next__" 0 _) (wpAny_pure ?_);refine wpAny_bind (wpAny_fieldsOf hi rfl ?_);show wpAny _ _ (setEntries a >>= _) _ _ _;unfold setEntries;refine wpAny_bind (wpAny_bind (st1 ho (wpAny_pure ?_)));dsimp only;rw[if_neg (show ¬(((#[(hv,Value.str x t)]:Array (Int×Value)).size:Int) !=1)=true from by show ¬((1:Int) !=1)=true;decide)];show wpAny _ _ (setNext a (((plc w hv).toNat:Nat):Int).toNat 1 1 >>= _) _ _ _;rw[Int.toNat_natCast];refine wpAny_bind (next2 ho ?_);dsimp only;refine wpAny_bind (wpAny_setField hi rfl (by show 2<5;decide) ?_);show wpAny _ _ (newExc (.type "StopIteration") [] >>= _) _ _ _;refine wpAny_bind ?_;simp only[newExc,newTuple];refine wpAny_bind (wpAny_newObj_type ?_ (by size_fits));refine wpAny_bind (m:=firstArgMember _ _) (wpAny_of_eq (a:=Value.none) (by first|rfl|(simp only[firstArgMember];rfl)) ?_);refine wpAny_newObj_type ?_ (by size_fits);simp only[raiseNew];refine wpAny_bind (wpAny_handled ?_)
 first|rw[show A.in1.handled=none from hh]|rw[hh]
 refine wpAny_bind (wpAny_pure (wpAny_throw ?_));refine wpAny_bind (wpAny_isInstance (T:="StopIteration") (b:=true) ⟨_,Heap.get?_push_size _ rfl,rfl⟩ isSubtype_stop ?_);exact wpAny_pure (hQ _ (((Heap.SameBut.update ..).extBut.push _).push _))
end
end L2
namespace L2
open PySem PySem.Spec PyProof.Rows
theorem Sg:Slot "set_iterator" "__iter__" "set_iterator.__iter__" :=
 .of (owner:="set_iterator") (n:="__iter__") (by rw[typeLookup_type,builtinLookup_eq_fast];kernel_rfl) (by decide +kernel) (by decide +kernel) (by decide +kernel)
  (by first|exact .inl (by decide +kernel)|exact .inr (by decide +kernel)) (by rw[isSubtype_type];kernel_rfl)
theorem Rk:entryFor table "set_iterator.__iter__"=some Builtin.«dict_keyiterator.__iter__»:=entryFor_alias (id':="dict_keyiterator.__iter__") (by kernel_rfl) rfl (by decide +kernel) (by kernel_rfl)
theorem Hm(a:Value):argsOk "set_iterator.__iter__" ⟨[a],[]⟩:=by unfold argsOk;kernel_rfl
section
variable {prog : Program} {w : World} {A : Around} {E : Value -> Shared -> Prop} {s : Shared} {a it : Addr} {hv : Int} {x : Str} {t : Tok}
theorem cu(hh:A.handled=none)(ne:a≠it):WalksS prog w A it [it,a] [it] (λa b=>b=a) 1 (λ_ v=>v= .str x t) (λi s=>s.heap.get? it=some (if i=0 then vg a 0 0 else vg a ((plc w hv).toNat:Nat) 1)/\s.heap.get? a=some (set1 w hv x t)) where
 sub:=λb hb=>by simp at hb;simp[hb]
 grefl:=λ_=>rfl
 gtrans:=λa b c h1 h2=>h2.trans h1
 frame:=λi s h' tk st _ hk=>⟨hk it (by simp) _ st.1,hk a (by simp) _ st.2⟩
 item:=λi s Q E hi st hQ=>by
  have:i=0:=by omega
  subst this;refine Cy ne st.1 st.2 λh' e1 sb=>hQ _ _ rfl ⟨e1,(sb.2 a ne).trans st.2⟩ ⟨λb o hb e=>(sb.2 b (λz=>hb (by simp[z]))).trans e,rfl,rfl,rfl,Nat.le_refl _⟩
 done:=λs Q E st hQ=>by
  refine By hh ne st.1 st.2 λh' sb=>hQ _ ⟨λb o hb e=>sb b o (λz=>hb (by simp[z])) e,rfl,rfl,rfl,Nat.le_refl _⟩
 self:=λi s Q E st hQ=>by
  have hT:s.TypeIs (.ref it) "set_iterator":=by
   rcases Nat.eq_zero_or_pos i with z|z
   . subst z;exact⟨_,st.1,rfl⟩
   . have:=st.1
     rw[if_neg (by omega)]at this;exact⟨_,this,rfl⟩
  refine wpAny_pyIter_slot hT Sg (wpAny_call_entry Sg hT Rk ?_ (Hm _));show wpAny _ _ (ret (.ref it)) _ _ s;exact wpAny_pure ⟨_,rfl,"set_iterator",_,hT,Tb.lookup,hQ⟩
set_option maxHeartbeats 800000 in
theorem xm{Q:List Value->Shared->Prop}(hh:A.handled=none)(ho:s.heap.get? a=some (set1 w hv x t))
 (hQ:∀h' tk,(∀b o,s.heap.get? b=some o->h'.get? b=some o)->s.heap.objs.size<=h'.objs.size->Q [.str x t] { s with heap:=h',toks:=tk }):wpAny (model prog w) A (collect (.ref a)) Q E s:=by
 have ha:a<s.heap.objs.size:=Heap.lt_size ho;unfold collect;refine wpAny_bind (wpAny_runValue (codeAny_builtin PySem.F.entry_proto_collect ?_));rw[Around.under_plainId PySem.F.plain_proto_collect _];show wpAny _ A.in1 (newList [] >>= λl=>again (.builtin "list.__iadd__" ⟨[l,.ref a],[]⟩)) _ _ s;refine wpAny_bind (wpAny_newObj_type ?_);refine wpAny_pure ⟨plainId_quiet PySem.F.plain_list_iadd _,codeAny_builtin PySem.F.entry_list_iadd ?_⟩;rw[Around.under_plainId PySem.F.plain_list_iadd _];show wpAny _ A.in1 (Builtin.List.listExtendWith (.ref s.heap.objs.size) (.ref a) (.ref s.heap.objs.size)) _ _ _;have ho1:(s.heap.push { cls:=.type "list",data:=.seq ([]:List Value).toArray }).get? a=some (set1 w hv x t):=Heap.get?_push_of_some _ ho;have hT:Shared.TypeIs { s with heap:=s.heap.push { cls:=.type "list",data:=.seq ([]:List Value).toArray } } (.ref a) "set":=⟨_,ho1,rfl⟩
 unfold Builtin.List.listExtendWith;refine wpAny_bind (wpAny_typeOf hT ?_);have h1:Builtin.List.listSameRef (.ref s.heap.objs.size) (.ref a)=false:=by simp[Builtin.List.listSameRef,Nat.ne_of_gt ha]
 have h2:(Value.type "set"==Value.type "list")=false:=by decide
 have h3:(Value.type "set"==Value.type "tuple")=false:=by decide
 simp only[h1,h2,h3,Bool.or_false,Bool.false_eq_true,if_false];refine wpAny_bind (iter1 ho1 ?_);refine wpAny_bind (wpAny_holding ?_);unfold Builtin.List.listLengthHint;have ho2:((s.heap.push { cls:=.type "list",data:=.seq ([]:List Value).toArray }).push (vg a 0 0)).get? a=some (set1 w hv x t):=Heap.get?_push_of_some _ ho1;have hT2:Shared.TypeIs { s with heap:=(s.heap.push { cls:=.type "list",data:=.seq ([]:List Value).toArray }).push (vg a 0 0) } (.ref a) "set":=⟨_,ho2,rfl⟩
 refine wpAny_bind (wpAny_specialOf hT2 PySem.F.slot_set_len.lookup ?_)
 (generalize hid:("set.__len__":String)=id0;(fail_if_success (clear hid id0));wp_delta;rw[show splitId id0=some ("set","__len__") from by subst hid;decide +kernel];subst hid)
 refine wpAny_bind (wpAny_isInstance (b:=true) hT2 (by rw[isSubtype_type];kernel_rfl) ?_);dsimp only[Bool.not_true];rw[if_neg (by decide)];rw[if_pos (by decide +kernel)];refine wpAny_bind (wpAny_typeOf hT2 ?_);dsimp only;refine wpAny_pure ?_;show wpAny _ A.in1 (rule "list.extend.makes-room" >>= λ_=>Builtin.List.listTouch (.ref s.heap.objs.size) >>= λ_ =>
  again (.builtin "list.extend.loop" ⟨[.ref s.heap.objs.size,.ref (s.heap.push { cls:=.type "list",data:=.seq ([]:List Value).toArray }).objs.size,.ref s.heap.objs.size],[]⟩)) _ _ _
 refine wpAny_bind (wpAny_rule ?_);have hsz:(s.heap.push { cls:=.type "list",data:=.seq ([]:List Value).toArray }).objs.size=s.heap.objs.size+1:=Heap.size_push _ _;have hS₁:((s.heap.push { cls:=.type "list",data:=.seq ([]:List Value).toArray }).push (vg a 0 0)).get? s.heap.objs.size=some { cls:=.type "list",data:=.seq ([]:List Value).toArray }:=Heap.get?_push_of_some _ (Heap.get?_push_size _ rfl);refine wpAny_bind ?_;show wpAny _ A.in1 (updateSeq s.heap.objs.size (·.push .none) >>= λ_=>updateSeq s.heap.objs.size (·.pop)) _ _ _;refine wpAny_bind (wpAny_updateSeq hS₁ rfl ?_);have hS₂:=Heap.get?_update_self (Obj.mapSeq (·.push Value.none)) hS₁ rfl;refine wpAny_updateSeq hS₂ rfl ?_;have hS₃:=Heap.get?_update_self (Obj.mapSeq (·.pop)) hS₂ rfl;have oth:∀b o,b≠s.heap.objs.size->((s.heap.push { cls:=.type "list",data:=.seq ([]:List Value).toArray }).push (vg a 0 0)).get? b=some o ->
  ((((s.heap.push { cls:=.type "list",data:=.seq ([]:List Value).toArray }).push (vg a 0 0)).update s.heap.objs.size (Obj.mapSeq (·.push Value.none))).update s.heap.objs.size (Obj.mapSeq (·.pop))).get? b=some o :=
  λb o hb e=>(Heap.get?_update_other _ _ (Ne.symm hb)).trans ((Heap.get?_update_other _ _ (Ne.symm hb)).trans e)
 have hI:((s.heap.push { cls:=.type "list",data:=.seq ([]:List Value).toArray }).push (vg a 0 0)).get? (s.heap.objs.size+1)=some (vg a 0 0):=by
  rw[<-hsz];exact Heap.get?_push_size _ rfl
 rw[hsz];have W:=cu (prog:=prog) (w:=w) (A:=A.in1) (a:=a) (it:=s.heap.objs.size+1) (hv:=hv) (x:=x) (t:=t) (by simp[hh]) (Nat.ne_of_lt (Nat.lt_succ_of_lt ha));refine wpAny_pure ⟨plainId_quiet PySem.F.plain_extend_loop _,codeAny_extend_loopS W (by decide) s.heap.objs.size (by simp only[List.mem_cons,List.mem_singleton,List.not_mem_nil,or_false,not_or];exact⟨Nat.ne_of_lt (Nat.lt_succ_self _),Nat.ne_of_gt ha⟩) _ 1 0 _ _ _ rfl (Nat.zero_le _) ⟨oth _ _ (Nat.ne_of_gt (Nat.lt_succ_self _)) hI,oth _ _ (Nat.ne_of_lt ha) ho2⟩ hS₃ (ItemsOf.nil _) λs' acc' c' hm hS' hacc=>?_⟩;show wpAny _ A (load s.heap.objs.size >>= _) _ _ s';refine wpAny_bind (wpAny_load hS' ?_);obtain⟨h',g',d',tk',os'⟩:=s';have eg:g'=s.gens:=hm.gens;have ed:d'=s.drawn:=hm.drawn;have eo:os'=s.os:=hm.os;subst eg;subst ed;subst eo;obtain⟨hz,hp⟩:=hacc;have e:acc'.toList=[.str x t]:=by
  have h0:0<acc'.size:=by omega
  have e0:=hp 0 acc'[0] (by simp[h0]);refine List.ext_getElem (by simp[hz]) λi h1 h2=>?_;have:i=0:=by simp at h2;omega
  subst this;simpa using e0
 show wpAny _ A (pure acc'.toList) Q E _;rw[e];refine wpAny_pure (hQ h' tk' (λb o hb=>?_) ?_)
 . have hbl:=Heap.lt_size hb
   exact hm.heap b o (by simp only[List.mem_cons,List.mem_singleton,List.not_mem_nil,or_false,not_or];exact⟨Nat.ne_of_lt hbl,Nat.ne_of_lt (Nat.lt_succ_of_lt hbl)⟩) (oth b o (Nat.ne_of_lt hbl) (Heap.get?_push_of_some _ (Heap.get?_push_of_some _ hb)))
 . exact Nat.le_of_lt (Heap.lt_size hS')
def SetO(w:World)(a:Addr)(x:Str):HO:=.ext λh=>∃hv t,h.get? a=some (set1 w hv x t)
theorem SetO.ok{P:Program}{H:Hp}{h:Heap}(e:h.get? a=some (set1 w hv x t)):Bc P w H h a (SetO w a x):=⟨⟨hv,t,e⟩,⟨_,e⟩,λh1 h2 ⟨hv,t,q⟩ k=>⟨hv,t,k _ q⟩⟩
theorem uh{Q:Value->Shared->Prop}(hh:A.handled=none)(ho:s.heap.get? a=some (set1 w hv x t))
 (h:∀h' tk l,(∀b o,s.heap.get? b=some o->h'.get? b=some o)->s.heap.objs.size<=l->(∃n,h'.get? l=some (seqObj "list" #[.str x t] n))->Q (.ref l) { s with heap:=h',toks:=tk }) :
 wpAny (model prog w) A (call (.builtin "sorted") [.ref a]) Q E s:=by
 refine Calls.call_function_entry kind_sorted plain_sorted entry_sorted (args_sorted1 _) ?_;unfold Builtin.«sorted»;refine wpAny_bind (m:=checkCount "sorted" 1 1 _) (wpAny_pure ?_);refine wpAny_bind (xm (by simp[hh]) ho λh1 tk k1 z1=>?_);refine wpAny_bind (wpAny_newList ?_);have hoL:(h1.push (seqObj "list" [Value.str x t].toArray 0)).get? h1.objs.size=some (seqObj "list" [Value.str x t].toArray 0):=Heap.get?_push_size _ rfl;show wpAny _ _ _ _ _ { s with heap:=h1.push (seqObj "list" [Value.str x t].toArray 0),toks:=tk };have hS:StrsAre [Value.str x t] [x]:=.cons x t .nil;refine wpAny_bind (wpAny_holding (wpAny_call_entry slot_list_sort ⟨_,hoL,rfl⟩ entry_list_sort (list_sort_treeK PyProof.Rows.strKind_oneLt hoL hS.keysOf (λv₁ v₂ rest e=>by cases e) (show 1<64 from by decide) λst' a1 a2=>⟨_,rfl,?_⟩) (args_list_sort _)));have e1:Array.map (λx=>x.2) (arrOf st')= #[Value.str x t]:=by
  have h1:(arrOf st').toList.Perm ([Value.str x t].zip [Value.str x t]):=by rw[<-pairsOf_toList];exact Array.perm_iff_toList_perm.mp a1
  have h2:(arrOf st').toList=[(Value.str x t,Value.str x t)]:=List.perm_singleton.mp h1;apply Array.toList_inj.mp;rw[Array.toList_map,h2];rfl
 rw[e1];refine wpAny_pure ⟨_,rfl,h _ tk h1.objs.size (λb o hb=>?_) z1 (sortedHeap_at hoL)⟩;have hbl:=Heap.lt_size (k1 b o hb);exact(sortedHeap_old (Nat.ne_of_lt hbl) (by rw[size_push'];exact Nat.lt_succ_of_lt hbl)).trans (Heap.get?_push_of_some _ (k1 b o hb))
end
section
variable {X : Cx} {K : PySem.W.Frag} {w : World}
def rSet1(w:World)(K:PySem.W.Frag):List V->Hp->VK->Prop:=λxs H Q=>∃p x,xs=[.ref p]/\SqL K H p [.str x]/\∀l,H l=none->Q (.ref l) (upd H l (SetO w l x))
def rSortO(w:World):List V->Hp->VK->Prop:=λxs H Q=>∃p x,xs=[.ref p]/\H p=some (SetO w p x)/\∀l,H l=none->Q (.ref l) (upd H l (.lst [.str x]))
theorem bt_set:bootBuiltins "set"=some (.type "set"):=by decide +kernel
theorem set1K(hW:X.w=w)(hK:X.K=K)(hc:X.calm=true):vc X (.type "set") (rSet1 w K):=by
 subst hW hK;intro pins s σ H xs us Q I r h;obtain⟨p,x,rfl,hq,q⟩:=h;obtain⟨u,rfl,rx⟩:=vals1 r;cases rx;obtain⟨its,r',pl,hz⟩:=I.list hq;obtain⟨u,rfl,t,rfl⟩:=vals1 r';refine ym (I.ok.hd hc) pl.isList λh' tk hv t e1 k1=>?_;exact⟨.ref _,_,I.laid (a:=s.heap.objs.size) (o:=SetO X.w s.heap.objs.size x) (t':=tk) (λb o hb=>k1 b o (Heap.lt_size hb) hb) (Nat.le_refl _) (SetO.ok e1),rfl,q _ (I.hok.fresh (Nat.le_refl _))⟩
theorem sortOK(hW:X.w=w)(hc:X.calm=true):vc X (.builtin "sorted") (rSortO w):=by
 subst hW;intro pins s σ H xs us Q I r h;obtain⟨p,x,rfl,hp,q⟩:=h;obtain⟨u,rfl,rx⟩:=vals1 r;cases rx;obtain⟨⟨hv,t,e⟩,_⟩:=(show Bc X.prog X.w H s.heap p (SetO X.w p x) from I.hok p _ hp)
 refine uh (I.ok.hd hc) e λh' tk l k1 hl hqq=>?_;obtain⟨n,e1⟩:=hqq;refine⟨.ref l,_,I.laid (a:=l) (o:=.lst [.str x]) (t':=tk) k1 hl ?_,rfl,q _ (I.hok.fresh hl)⟩;refine⟨by show 1<=sizeLine;decide,[.str x t],n,.cons ⟨t,rfl⟩ .nil,?_⟩;simpa[seqObj] using e1
end
end L2
namespace L2
open PySem PySem.Spec PyProof.Rows
def obB(b:Bool)(xs:List V):HO:=match b with
 | true=>.lst xs
 | false=>.tup xs
def SqB(K:PySem.W.Frag)(b:Bool)(H:Hp)(a:Addr)(xs:List V):Prop:=match b with
 | true=>SqL K H a xs
 | false=>SqT K H a xs
theorem SqB.of{K:PySem.W.Frag}{H:Hp}{a:Addr}{xs:List V}:∀{b:Bool},H a=some (obB b xs)->SqB K b H a xs
 | true,h=>SqL.of h
 | false,h=>SqT.of h
def ItB(K:PySem.W.Frag)(b:Bool)(a:Addr):It:=match b with
 | true=>Itl K a
 | false=>Itt K a
def iLT(K:PySem.W.Frag)(tl:TE):TI:=λσ H R=>tl σ H λx H1=>∃b a xs,x= .ref a/\SqB K b H1 a xs/\R (ItB K b a) H1
section
variable {X : Cx} {K : PySem.W.Frag}
theorem piXK{tg l:Expr}{tl:TE}(hK:X.K=K)(hl:PE X l tl):PI X tg l (iLT K tl):=by
 subst hK;intro pins s σ H R I h;refine thn (hl pins s σ H _ I h) λv s1 hqq=>?_;obtain⟨x,H1,I1,r1,q1⟩:=hqq;obtain⟨b,a,xs,e,hq,q⟩:=q1;subst e;cases r1;cases b with
 | true =>
  obtain⟨its,rv,p,hz⟩:=I1.list (show SqL X.K H1 a xs from hq);refine wpAny_pyIter_list p.isList ?_;refine⟨s1.heap.objs.size,[s1.heap.objs.size],_,_,H1,rfl,I1.kept (t':=s1.toks) λb o e=>Heap.get?_push_of_some _ e,Dl a _,⟨_,Heap.get?_push_size _ rfl,rfl,rfl⟩,λb hb=>?_,q⟩;have e:b=s1.heap.objs.size:=by simpa using hb
  subst e;exact I1.fpOk (Nat.le_refl _) (I1.hok.fresh (Nat.le_refl _))
 | false =>
  obtain⟨its,rv,p,hz⟩:=I1.tuple (show SqT X.K H1 a xs from hq);refine wpAny_pyIter_tuple (show s1.heap.IsTuple a its.toArray from p) ?_;refine⟨s1.heap.objs.size,[s1.heap.objs.size],_,_,H1,rfl,I1.kept (t':=s1.toks) λb o e=>Heap.get?_push_of_some _ e,oj a _,⟨_,Heap.get?_push_size _ rfl,rfl,rfl⟩,λb hb=>?_,q⟩;have e:b=s1.heap.objs.size:=by simpa using hb
  subst e;exact I1.fpOk (Nat.le_refl _) (I1.hok.fresh (Nat.le_refl _))
end
def CompB(K:PySem.W.Frag)(x:V)(js:List Nat)(nt:Nat)(g:TG)(tt:TT)(te:TE)(σ:St)(H:Hp)(Q:VK):Prop:=∃b a xs,x= .ref a/\SqB K b H a xs/\Ii (ItB K b a) js nt g tt te σ H Q
theorem wy{K:PySem.W.Frag}{tl:TE}{js:List Nat}{nt:Nat}{g:TG}{tt:TT}{te:TE}{σ:St}{H:Hp}{Q:VK}(h:tl σ H λx H1=>CompB K x js nt g tt te σ H1 Q):Yg js nt (iLT K tl) g tt te σ H Q:=h
theorem compB{K:PySem.W.Frag}{b:Bool}{a:Addr}{xs:List V}{js:List Nat}{g:TG}{tt:TT}{te:TE}{σ:St}{H:Hp}{Q:VK}(caps:St)(Pv:Nat->List V->Hp->Prop)(hcaps:cap σ js 1=caps++[none])(hsz:xs.length<sizeLine)(h0:Pv 0 [] H)
 (hl:∀i ys H,i<=xs.length->Pv i ys H->SqB K b H a xs)(hlen:∀i ys H,Pv i ys H->ys.length<=i)
 (hs:∀(i:Nat) x ys z H,xs[i]?=some x->Pv i ys H->g x (caps++[z]) H λσ3 H3=>tt σ3 H3 λok H4=>if ok=true then te σ3 H4 λy H5=>Pv (i+1) (ys++[y]) H5/\∃z,σ3=caps++[z] else Pv (i+1) ys H4/\∃z,σ3=caps++[z])
 (hd:∀ys H,Pv xs.length ys H->∀D,H D=none->Q (.ref D) (upd H D (.lst ys))):CompB K (.ref a) js 1 g tt te σ H Q:=by
 cases b with
 | true =>
  obtain⟨a',e,⟨xs',h1⟩,h2⟩:=jt (K:=K) (a:=a) (xs:=xs) (js:=js) (g:=g) (tt:=tt) (te:=te) (σ:=σ) (H:=H) (Q:=Q) caps Pv hcaps hsz h0 hl hlen hs hd;cases e;exact⟨true,a,xs',rfl,h1,h2⟩
 | false =>
  obtain⟨a',e,⟨xs',h1⟩,h2⟩:=uz (K:=K) (a:=a) (xs:=xs) (js:=js) (g:=g) (tt:=tt) (te:=te) (σ:=σ) (H:=H) (Q:=Q) caps Pv hcaps hsz h0 hl hlen hs hd;cases e;exact⟨false,a,xs',rfl,h1,h2⟩
def Its(x:Str):It:=⟨λi _=>i<x.cps.size,λi H v H'=>H'=H/\∃c,x.cps.toList[i]?=some c/\v= .str ⟨#[c]⟩,λi _=>i=x.cps.size⟩
theorem jo{P:Program}{w:World}{K:PySem.W.Frag}{ty:String}{y:Str}{pos:Pos}(x:Str)(t:Tok)(it:Addr)(W:∀A':Around,A'.handled=none->Walks P w A' it [it] [it] x.cps.size (SignAt x) (λi h=>h.IsStrIter it ty x t i))
 (hself:∀(A:Around) (i:Nat) (s:Shared) (Q:Value->Shared->Prop) (E:Value->Shared->Prop),s.heap.IsStrIter it ty x t i->Q (.ref it) s->wpAny (model P w) A (pyIter (.ref it)) Q E s) :
 Turn P w K (.Name y pos) (Its x) [it] it (λi h=>h.IsStrIter it ty x t i) where
 mem:=by simp
 obj:=λi h st b hb=>by
  have e:b=it:=by simpa using hb
  subst e;obtain⟨o,e,c,d⟩:=st;exact⟨o,e,λv z=>by rw[d]at z;cases z⟩
 keep:=λi h h' st k=>by
  obtain⟨o,e,c,d⟩:=st;exact⟨o,k it (by simp) o e,c,d⟩
 item:=by
  intro X hP hw hK hc i pins s σ H E I hf st hg;subst hP hw hK;obtain⟨f0,f1,f2,f3,f4,f5⟩:=hf it (by simp);refine(W X.A (I.ok.hd hc)).item i s _ _ hg st λv h' tk hv st' kk=>?_;obtain⟨c,u,hc1,rfl⟩:=hv;have I1:Inv X pins σ H { s with heap:=h',toks:=tk }:=I.turned (λb o hb e=>kk b o (by simpa using hb) e) f0 f1 f3 f4 f5;exact⟨_,rfl,wpAny_pure ⟨.str ⟨#[c]⟩,H,I1,⟨u,rfl⟩,⟨rfl,c,by simpa using hc1,rfl⟩,st',λb hb=>(hf b hb).1⟩⟩
 done:=by
  intro X hP hw hK hc i pins s σ H E I hf st hg;subst hP hw hK;obtain⟨f0,f1,f2,f3,f4,f5⟩:=hf it (by simp);obtain rfl:i=x.cps.size:=hg;exact(W X.A (I.ok.hd hc)).done s _ _ st λh' tk kk=>⟨rfl,I.turned (λb o hb e=>kk b o (by simpa using hb) e) f0 f1 f3 f4 f5⟩
 self:=λA i s Q E st h=>hself A i s Q E st h
def iStr(tl:TE):TI:=λσ H R=>tl σ H λx H1=>∃y:Str,x= .str y/\R (Its y) H1
section
variable {X : Cx}
theorem pi_str{l:Expr}{tl:TE}{y:Str}{pos:Pos}(hl:PE X l tl):PI X (.Name y pos) l (iStr tl):=by
 intro pins s σ H R I h;refine thn (hl pins s σ H _ I h) λv s1 hqq=>?_;obtain⟨x,H1,I1,r1,q1⟩:=hqq;obtain⟨y,e,q⟩:=q1;subst e;obtain⟨t,rfl⟩:=r1;have hf:∀b∈[s1.heap.objs.size],FpOk X pins H1 b:=λb hb=>by
  have e:b=s1.heap.objs.size:=by simpa using hb
  subst e;exact I1.fpOk (Nat.le_refl _) (I1.hok.fresh (Nat.le_refl _))
 cases ha:y.cps.all (·<128)
 . refine wpAny_pyIter_wide ha ?_
   exact⟨s1.heap.objs.size,[s1.heap.objs.size],_,_,H1,rfl,I1.kept (t':=s1.toks) λb o e=>Heap.get?_push_of_some _ e,jo (ty:="str_iterator") y t _ (λA' hA=>Walks.strWide hA _ y t) (λ_ _ _ _ _ st hQ=>wpAny_pyIter_striter_wide st hQ),⟨_,Heap.get?_push_size _ rfl,rfl,rfl⟩,hf,q⟩
 . refine wpAny_pyIter_ascii ha ?_
   exact⟨s1.heap.objs.size,[s1.heap.objs.size],_,_,H1,rfl,I1.kept (t':=s1.toks) λb o e=>Heap.get?_push_of_some _ e,jo (ty:="str_ascii_iterator") y t _ (λA' hA=>Walks.strAscii hA _ y t) (λ_ _ _ _ _ st hQ=>wpAny_pyIter_striter_ascii st hQ),⟨_,Heap.get?_push_size _ rfl,rfl,rfl⟩,hf,q⟩
end
def CompS(x:V)(js:List Nat)(nt:Nat)(g:TG)(tt:TT)(te:TE)(σ:St)(H:Hp)(Q:VK):Prop:=∃y:Str,x= .str y/\Ii (Its y) js nt g tt te σ H Q
theorem sy{tl:TE}{js:List Nat}{nt:Nat}{g:TG}{tt:TT}{te:TE}{σ:St}{H:Hp}{Q:VK}(h:tl σ H λx H1=>CompS x js nt g tt te σ H1 Q):Yg js nt (iStr tl) g tt te σ H Q:=h
theorem compS{x:Str}{js:List Nat}{g:TG}{tt:TT}{te:TE}{σ:St}{H:Hp}{Q:VK}(caps:St)(Pv:Nat->List V->Hp->Prop)(hcaps:cap σ js 1=caps++[none])(hsz:x.cps.size<sizeLine)(h0:Pv 0 [] H)(hlen:∀i ys H,Pv i ys H->ys.length<=i)
 (hs:∀(i:Nat) c ys z H,x.cps.toList[i]?=some c->Pv i ys H->g (.str ⟨#[c]⟩) (caps++[z]) H λσ3 H3=>tt σ3 H3 λok H4=>if ok=true then te σ3 H4 λy H5=>Pv (i+1) (ys++[y]) H5/\∃z,σ3=caps++[z] else Pv (i+1) ys H4/\∃z,σ3=caps++[z])
 (hd:∀ys H,Pv x.cps.size ys H->∀D,H D=none->Q (.ref D) (upd H D (.lst ys))):CompS (.str x) js 1 g tt te σ H Q:=by
 refine⟨x,rfl,λi m ys σ' H'=>m=x.cps.size-i/\i<=x.cps.size/\Pv i ys H'/\∃z,σ'=caps++[z],⟨x.cps.size,by simp,Nat.zero_le _,h0,none,hcaps⟩,?_⟩;rintro i m ys σ' H' ⟨rfl,hi,p,z,rfl⟩
 refine⟨by have:=hlen i ys H' p;omega,?_⟩;by_cases hlt:i<x.cps.size
 . refine .inr ⟨hlt,λys σ' H'=>Pv (i+1) ys H'/\∃z,σ'=caps++[z],λys σ' H' ⟨p',q'⟩=>⟨x.cps.size-(i+1),by omega,rfl,hlt,p',q'⟩,λv H2 y=>?_⟩
   obtain⟨e1,c,e2,e3⟩:=y;subst e1 e3;exact hs i c ys z _ e2 p
 . have e:i=x.cps.size:=by omega
   subst e;exact .inl ⟨rfl,hd ys H' p⟩
end L2
namespace L2
open PySem PySem.Spec PyProof.Rows
section
variable {prog : Program} {w : World} {A : Around} {E : Value -> Shared -> Prop} {s : Shared}
theorem Uk{Q:List Value->Shared->Prop}{r:Addr}{a b c:Int}{t u v:Tok}{n:Nat}(hh:A.handled=none)(hr:IsRange s.heap r a b c t u v)(hsmall:Builtin.Range.small a b c=true)(hn:Builtin.Range.rangeSize a b c=n)(hlen:n<=2^24)
 (hQ:∀(s':Shared) (acc:Array Value),(∀b o,s.heap.get? b=some o->s'.heap.get? b=some o)->s'.gens=s.gens->s'.drawn=s.drawn->s'.os=s.os->ItemsOf (λi v=>∃t,v= .int (a+i*c) t) acc n->Q acc.toList s'):wpAny (model prog w) A (collect (.ref r)) Q E s:=by
 unfold collect;refine wpAny_bind (wpAny_runValue (codeAny_builtin PySem.F.entry_proto_collect ?_));rw[Around.under_plainId PySem.F.plain_proto_collect _];show wpAny _ A.in1 (newList [] >>= λl=>again (.builtin "list.__iadd__" ⟨[l,.ref r],[]⟩)) _ _ s;refine wpAny_bind (wpAny_newObj_type ?_);refine wpAny_pure ⟨plainId_quiet PySem.F.plain_list_iadd _,codeAny_builtin PySem.F.entry_list_iadd ?_⟩;rw[Around.under_plainId PySem.F.plain_list_iadd _];show wpAny _ A.in1 (Builtin.List.listExtendWith (.ref s.heap.objs.size) (.ref r) (.ref s.heap.objs.size)) _ _ _;have fin':∀(h':Heap) (tk:Nat) (acc':Array Value) (c':Nat),(∀b o,b≠s.heap.objs.size->(s.heap.push { cls:=.type "list",data:=.seq ([]:List Value).toArray }).get? b=some o->h'.get? b=some o)->h'.get? s.heap.objs.size=some { cls:=.type "list",dict:=none,data:=.seq acc' c',slots:= #[] }->ItemsOf (λi v=>∃t,v= .int (a+i*c) t) acc' n ->
  wpAny (model prog w) A (match Value.ref s.heap.objs.size with
  | .ref a => do
   let o<-load a
   match o.data with
    | .seq xs _=>pure xs.toList
    | _=>unsupported "internal:collect"
  | _=>unsupported "internal:collect") Q E { s with heap:=h',toks:=tk }:=λh' tk acc' c' kp e it=>by
  show wpAny _ A (load s.heap.objs.size >>= _) _ _ _;refine wpAny_bind (wpAny_load e ?_);exact wpAny_pure (hQ _ acc' (λb o hb=>kp b o (Nat.ne_of_lt (Heap.lt_size hb)) (Heap.get?_push_of_some _ hb)) rfl rfl rfl it)
 refine wpAny_mono (wpAny_extend_range (A:=A) (R:=λr s'=>r= .ok (.ret (.ref s.heap.objs.size))/\∃h' tk acc' c',s'={ s with heap:=h',toks:=tk }/\(∀b o,b≠s.heap.objs.size->(s.heap.push { cls:=.type "list",data:=.seq ([]:List Value).toArray }).get? b=some o->h'.get? b=some o)/\h'.get? s.heap.objs.size=some { cls:=.type "list",dict:=none,data:=.seq acc' c',slots:= #[] }/\ItemsOf (λi v=>∃t,v= .int (a+i*c) t) acc' n) (s:={ s with heap:=s.heap.push { cls:=.type "list",data:=.seq ([]:List Value).toArray } }) hh (Heap.get?_push_of_some _ hr) hsmall hn hlen s.heap.objs.size _ 0 (Heap.get?_push_size _ rfl) λh' tk acc' c' kp e it=>⟨rfl,h',tk,acc',c',rfl,kp,e,it⟩) (λfin s' h=>?_) (λe s' h=>?_)
 . cases fin with
   | done f =>
    obtain⟨e,h',tk,acc',c',rfl,kp,e2,it⟩:=h;cases e;exact fin' h' tk acc' c' kp e2 it
   | again c'=>exact⟨h.1,codeAny_mono h.2 λr s'' hr=>by obtain⟨rfl,h',tk,acc',c',rfl,kp,e2,it⟩:=hr;exact fin' h' tk acc' c' kp e2 it⟩
 . exact absurd h.1 (by simp)
theorem Hg(r:Addr)(a b c:Int)(t u v:Tok)(n:Nat)(hsmall:Builtin.Range.small a b c=true)(hn:Builtin.Range.rangeSize a b c=n)(hlen:n<=2^24) :
 Meets (Builtin.«tuple.__new__» ⟨[.type "tuple",.ref r],[]⟩)
  (λA R s=>A.handled=none/\IsRange s.heap r a b c t u v/\∀(s':Shared) (acc:Array Value),(∀b o,s.heap.get? b=some o->s'.heap.get? b=some o)->s'.gens=s.gens->s'.drawn=s.drawn->s'.os=s.os->ItemsOf (λi v=>∃t,v= .int (a+i*c) t) acc n ->
    R (.ok (.ret (.ref s'.heap.objs.size))) { s' with heap:=s'.heap.push { cls:=.type "tuple",data:=.seq acc } }) :=
 .of_wp λprog w A R s h=>by
  obtain⟨hh,hr,h⟩:=h;have hsub:=sub_tuple_self;have hinit:=init_tuple_lookup;have hmh:=madeHere_tuple;have hT:s.TypeIs (.ref r) "range":=⟨_,hr,rfl⟩
  have hh1:A.in1.handled=none:=hh;wp_walk using wpAny_typeOf hT,Uk hh1 hr hsmall hn hlen
  intro s' acc hk hg hd hos hacc;show wpAny _ _ (Builtin.Tuple.tupleExact acc.toList.toArray >>= λv=>ret v) _ _ _;unfold Builtin.Tuple.tupleExact;refine wpAny_bind (wpAny_newObj_type ?_ (show acc.toList.toArray.size<=sizeLine by simp only[Array.toArray_toList];rw[hacc.1,sizeLine_eq];omega));refine wpAny_pure ⟨_,rfl,?_⟩;have e:acc.toList.toArray=acc:=by simp
  rw[e];exact h s' acc hk hg hd hos hacc
theorem sh{Q:Value->Shared->Prop}{r:Addr}{a b c:Int}{t u v:Tok}{n:Nat}(hh:A.handled=none)(hr:IsRange s.heap r a b c t u v)(hsmall:Builtin.Range.small a b c=true)(hn:Builtin.Range.rangeSize a b c=n)(hlen:n<=2^24)
 (h:∀(h':Heap) (tk:Nat) (acc:Array Value),(∀b o,s.heap.get? b=some o->h'.get? b=some o)->ItemsOf (λi v=>∃t,v= .int (a+i*c) t) acc n->Q (.ref h'.objs.size) { s with heap:=h'.push { cls:=.type "tuple",data:=.seq acc },toks:=tk }) :
 wpAny (model prog w) A (call (.type "tuple") [.ref r]) Q E s:=by
 refine callType_new PySem.F.called_tuple (by decide) (PySem.F.typeCall_tuple_1 _) (PySem.F.newCall_tuple_1 _) (λobj=>PySem.F.args_object_init_2 obj _) PySem.F.entry_tuple_new
  (Hg r a b c t u v n hsmall hn hlen) ⟨hh,hr,λs' acc hk hg hd hos hacc=>⟨⟨_,Heap.get?_push_size _ rfl,rfl⟩,?_⟩⟩
 obtain⟨h',g',d',tk',os'⟩:=s';have e1:g'=s.gens:=hg;have e2:d'=s.drawn:=hd;have e3:os'=s.os:=hos;subst e1 e2 e3;exact h h' tk' acc hk hacc
end
section
variable {X : Cx} {a : Expr} {ta : TA} {p1 q1 p2 q2 : Pos}
def tTR(tA:TA):TE:=λσ H Q=>tA σ H λvs H1=>∃j:Nat,vs=[.int (j:Int)]/\j<100000/\∀p,H1 p=none->Q (.ref p) (upd H1 p (.tup ((upTo j).map V.int)))
theorem Ym(hc:X.calm=true)(hg1:Gl X "tuple")(hm1:X.mg "tuple"=none)(hg2:Gl X "range")(hm2:X.mg "range"=none)(ha:PA X [a] ta)
 (hs:starEach [a] X.env=[(false,eval a X.env)]:=by first|rfl|with_unfolding_all rfl)
 (he:starEach [Expr.Call (.Name "range" p2) [a] [] q2] X.env=[(false,eval (Expr.Call (.Name "range" p2) [a] [] q2) X.env)]:=by first|rfl|with_unfolding_all rfl) :
 PE X (.Call (.Name "tuple" p1) [.Call (.Name "range" p2) [a] [] q2] [] q1) (tTR ta):=by
 intro pins s σ H Q I h;refine wpAny_Call_Name_kw (yf I hg1 hm1 nc ?_ (by decide) (by decide));refine PyProof.Rows.callWith_type1 ?_ he rfl;rw[he];show wpAny _ _ (spliced [(false,eval (Expr.Call (.Name "range" p2) [a] [] q2) X.env)]) _ _ s;refine Calls.spliced_cons ?_;refine Call_ (yf I hg2 hm2 boot_range (PyProof.Rows.callWith_type1 (thn (ha q2 pins s σ H _ I h) λus s1 ⟨vs,H1,I1,r1,q1⟩=>?_) hs rfl));obtain⟨j,e,hj,q⟩:=q1;subst e;cases r1 with
 | cons r rr =>
  cases rr;obtain⟨t,rfl⟩:=r;refine call_range_1 ?_;have I2:Inv X pins σ H1 { s1 with heap:=s1.heap.push { cls:=.type "range",data:=.fields #[.int 0 s1.toks,.int (j:Int) t,.int 1 (s1.toks+1)] },toks:=s1.toks+1+1 }:=I1.kept λb o e=>Heap.get?_push_of_some _ e;refine Calls.spliced_nil ?_;refine sh (I.ok.hd hc) (IsRange.new ..) (small_one (by omega) (by omega) (by omega) (by omega)) (n:=j) (by rw[rangeSize_one];split<;>omega) (by omega) λh' tk acc' kp it=>?_;have hl:s1.heap.objs.size+1<=h'.objs.size:=by
   exact Nat.succ_le_of_lt (Heap.lt_size (kp s1.heap.objs.size _ (Heap.get?_push_size _ rfl)))
  refine⟨.ref h'.objs.size,_,I2.laid (a:=h'.objs.size) (t':=tk) (o:=.tup ((upTo j).map V.int)) (λb o hb=>Heap.get?_push_of_some _ (kp b o hb)) (by show (s1.heap.push _).objs.size<=_;rw[Heap.size_push];exact hl) ?_,rfl,q _ (I2.hok.fresh (by show (s1.heap.push _).objs.size<=_;rw[Heap.size_push];exact hl))⟩;refine⟨by rw[List.length_map];unfold upTo;rw[List.length_map,List.length_range,sizeLine_eq];omega,acc'.toList,Al it,_,Heap.get?_push_size _ rfl,rfl,0,by simp⟩
theorem op_geS:OpR X (compareOp .GtE) (λx y H Q=>∃i j:Str,x= .str i/\y= .str j/\Q (.bl (!decide (i.cps.toList<j.cps.toList))) H):=by
 intro pins s σ H x y v u Q I rx ry h;obtain⟨i,j,rfl,rfl,q⟩:=h;obtain⟨t,rfl⟩:=rx;obtain⟨t',rfl⟩:=ry;exact PySem.P.ge_str ⟨.bl _,H,I,rfl,q⟩
theorem op_leS:OpR X (compareOp .LtE) (λx y H Q=>∃i j:Str,x= .str i/\y= .str j/\Q (.bl (!decide (j.cps.toList<i.cps.toList))) H):=by
 intro pins s σ H x y v u Q I rx ry h;obtain⟨i,j,rfl,rfl,q⟩:=h;obtain⟨t,rfl⟩:=rx;obtain⟨t',rfl⟩:=ry;exact PySem.P.le_str ⟨.bl _,H,I,rfl,q⟩
end
end L2
namespace L2
open PySem PySem.Spec PyProof.Rows PySem.SeqAt AutoSeq1
theorem uv{prog:Program}{w:World}{A:Around}{E:Value->Shared->Prop}(items:Array Value)(x:Str)(t:Tok)(j:Nat)(hj:j<items.size)(hit:∃u,items[j]?=some (.str x u))(hno:∀m,m<j->∃y u,items[m]?=some (.str y u)/\y≠x)(Q:Option PySem.Fin×Unit->Shared->Prop)(s:Shared)(hQ:Q (some (.done (.ret (.int j s.toks))),()) { s with toks:=s.toks+1 }) :
 ∀ (k i : Nat), j - i = k -> i <= j -> wpAny (model prog w) A (forIn (List.range' i (items.size - i)) ((none, ()) : Option PySem.Fin × Unit) fun i (_ : Option PySem.Fin × Unit) =>
  (match items[i]? with
  | some y => do
   let b<-eqBool y (.str x t)
   if b=true then do
    let r<-retInt (i:Nat)
    pure (ForInStep.done (some r,()))
   else pure (ForInStep.yield (none,()))
  | _=>pure (ForInStep.yield (none,())):Sem (ForInStep (Option PySem.Fin×Unit)))) Q E s:=by
 intro k
 induction k with
 | zero =>
  intro i hk hi;have:i=j:=by omega
  subst this;obtain⟨u,hu⟩:=hit;rw[show items.size-i=(items.size-i-1)+1 from by omega,List.range'_succ,List.forIn_cons,hu];refine wpAny_bind ?_;refine wpAny_bind (EqAt.str_str x u x t prog w E _ ?_);rw[show (x==x)=true from beq_self_eq_true x,if_pos rfl];unfold retInt;exact wpAny_bind (wpAny_bind (wpAny_mkInt (wpAny_pure (wpAny_pure (wpAny_pure hQ)))))
 | succ k ih =>
  intro i hk hi;obtain⟨y,u,hu,hy⟩:=hno i (by omega);rw[show items.size-i=(items.size-(i+1))+1 from by omega,List.range'_succ,List.forIn_cons,hu];refine wpAny_bind ?_;refine wpAny_bind (EqAt.str_str y u x t prog w E _ ?_);rw[show (y==x)=false from beq_eq_false_iff_ne.mpr hy,if_neg (by decide)];exact wpAny_pure (ih (i+1) (by omega) (by omega))
theorem Xg(l:Addr)(o:Obj)(items:Array Value)(n:Nat)(hc:o.cls= .type "tuple")(hd:o.data= .seq items n)(x:Str)(t:Tok)(j:Nat)(hj:j<items.size)(hit:∃u,items[j]?=some (.str x u))(hno:∀m,m<j->∃y u,items[m]?=some (.str y u)/\y≠x) :
 Meets (Builtin.«tuple.index» ⟨[.ref l,.str x t],[]⟩) (λA R s=>s.heap.get? l=some o/\R (.ok (.ret (.int j s.toks))) { s with toks:=s.toks+1 }) :=
 .of_wp λprog w A R s h=>by
  obtain⟨hl,h⟩:=h;unfold Builtin.«tuple.index»;wp_walk using wpAny_loadPart' hl
  rw[hd];refine wpAny_pure (wpAny_pure ?_);dsimp only;refine wpAny_bind (wpAny_pure (wpAny_bind (wpAny_pure ?_)));rw[Nat.min_self,Std.Legacy.Range.forIn_eq_forIn_range'];refine wpAny_bind ?_;show wpAny _ _ (forIn (List.range' 0 ((items.size-0+1-1)/1) 1) _ _) _ _ _;rw[show (items.size-0+1-1)/1=items.size-0 from by simp];refine uv items x t j hj hit hno _ s ?_ j 0 rfl (Nat.zero_le _);exact wpAny_pure ⟨_,rfl,h⟩
theorem Bh:∀{xs:List Str} {us:List Value},Vals (xs.map V.str) us->∀i:Nat,∀y,xs[i]?=some y->∃t,us[i]?=some (.str y t)
 | [],_,_,i,y,h=>by simp at h
 | x::xs,_,.cons r t,0,y,h=>by
  simp at h;subst h;obtain⟨t,rfl⟩:=r;exact⟨t,rfl⟩
 | x::xs,_,.cons r t,i+1,y,h=>by
  obtain⟨t,e⟩:=Bh t i y (by simpa using h);exact⟨t,by simpa using e⟩
section
variable {X : Cx} {K : PySem.W.Frag}
theorem Sk{prog:Program}{w:World}{A:Around}{E:Value->Shared->Prop}{s:Shared}{l:Addr}{o:Obj}{vs:List Value}{n:Nat}{Q:List Value->Shared->Prop}(ho:s.heap.get? l=some o)(hc:o.cls= .type "tuple")(hd:o.data= .seq vs.toArray n)
 (h:Q vs { s with heap:=(s.heap.push (seqObj "list" #[] 0)).update s.heap.objs.size (Obj.mapSeq (·++vs.toArray)) })(hsz:vs.length<=sizeLine):wpAny (model prog w) A (collect (.ref l)) Q E s:=by
 have hls:l≠s.heap.objs.size:=Nat.ne_of_lt (Heap.lt_size ho);unfold collect;refine wpAny_bind (wpAny_runValue (codeAny_builtin PyProof.Rows.entry_proto_collect' ?_));show wpAny _ _ (do again (.builtin "list.__iadd__" ⟨[<-newList [],.ref l],[]⟩)) _ _ s;refine wpAny_bind (wpAny_newList (wpAny_pure ⟨Code.quiet_builtin _ (by decide +kernel),codeAny_builtin PyProof.Rows.entry_list_iadd' ?_⟩));show wpAny _ _ (Builtin.List.listExtendWith (.ref s.heap.objs.size) (.ref l) (.ref s.heap.objs.size)) _ _ { s with heap:=s.heap.push (seqObj "list" #[] 0) };unfold Builtin.List.listExtendWith;have ho':(s.heap.push (seqObj "list" #[] 0)).get? l=some o:=Heap.get?_push_of_some _ ho;refine wpAny_bind (wpAny_typeOf (T:="tuple") ⟨o,ho',hc⟩ ?_);have ht:(Value.type "tuple"==Value.type "tuple")=true:=by rfl
 rw[if_pos (by rw[ht];simp)];refine wpAny_bind (listItems_at ho' hd ?_);refine wpAny_bind (listItems_at (xs:= #[]) (n:=0) (Heap.get?_push_size _ rfl) rfl ?_);rw[if_neg (by simp)];refine wpAny_bind (listUpdate_at (xs:= #[]) (n:=0) (Heap.get?_push_size _ rfl) rfl ?_ (Nat.zero_le _) (by show (#[]++vs.toArray).size<=sizeLine+1;simp only[Array.size_append,List.size_toArray,List.length_nil];omega));refine wpAny_pure ?_;show wpAny (model prog w) A (do
  let o<-load s.heap.objs.size
  match o.data with
  | .seq xs _=>pure xs.toList
  | _=>unsupported "internal:collect") Q E { s with heap:=(s.heap.push (seqObj "list" #[] 0)).update s.heap.objs.size (Obj.mapSeq (·++vs.toArray)) }
 refine wpAny_bind (wpAny_load (get?_update_seq (Heap.get?_push_size _ rfl) _) ?_);show wpAny _ _ (pure ((#[]:Array Value)++vs.toArray).toList) Q E _;rw[show ((#[]:Array Value)++vs.toArray).toList=vs by simp];exact wpAny_pure h
def rSortT(K:PySem.W.Frag):List V->Hp->VK->Prop:=λxs H Q=>∃(p:Addr) (ns:List Int),xs=[.ref p]/\SqT K H p (ns.map V.int)/\ns.length<64/\∀(l:Addr) (ms:List Int),H l=none->ms.Perm ns->ms.Pairwise (·<=·)->Q (.ref l) (upd H l (.lst (ms.map V.int)))
theorem sortTK(hK:X.K=K):vc X (.builtin "sorted") (rSortT K):=by
 subst hK;intro pins s σ H xs us Q I r h;obtain⟨p,ns,rfl,hq,hl,q⟩:=h;obtain⟨u,rfl,rx⟩:=vals1 r;cases rx;obtain⟨its,r',⟨o,e1,e2,n,e3⟩,hz⟩:=I.tuple hq;have hi:IntsAre its ns:=intsAre_of (by simpa using r');have el:=hi.length;refine Calls.call_function_entry kind_sorted plain_sorted entry_sorted (args_sorted1 _) ?_;unfold Builtin.«sorted»;refine wpAny_bind (m:=checkCount "sorted" 1 1 _) (wpAny_pure ?_);refine wpAny_bind (Sk e1 e2 e3 ?_ (by rw[sizeLine_eq];omega));refine wpAny_bind (wpAny_newList ?_);have hsz:((s.heap.push (seqObj "list" #[] 0)).update s.heap.objs.size (Obj.mapSeq (·++its.toArray))).objs.size=s.heap.objs.size+1:=by
  rw[Heap.size_update,size_push']
 have hoL:(((s.heap.push (seqObj "list" #[] 0)).update s.heap.objs.size (Obj.mapSeq (·++its.toArray))).push (seqObj "list" its.toArray 0)).get? (s.heap.objs.size+1)=some (seqObj "list" its.toArray 0):=by
  rw[<-hsz];exact Heap.get?_push_size _ rfl
 show wpAny _ _ _ _ _ { s with heap:=((s.heap.push (seqObj "list" #[] 0)).update s.heap.objs.size (Obj.mapSeq (·++its.toArray))).push (seqObj "list" its.toArray 0) };rw[hsz];refine wpAny_bind (wpAny_holding (wpAny_call_entry slot_list_sort ⟨_,hoL,rfl⟩ entry_list_sort (list_sort_tree hoL hi (by omega) λout ns' a1 a2 a3=>⟨_,rfl,?_⟩) (args_list_sort _)));obtain⟨e,he⟩:=sortedAll_at s.heap its out;have hn:H (s.heap.objs.size+1)=none:=I.hok.fresh (Nat.le_succ _);refine wpAny_pure ⟨_,rfl,.ref _,_,I.laid (a:=s.heap.objs.size+1) (o:=.lst (ns'.map V.int)) (t':=s.toks) (λb o hb=>sortedAll_old hb) (Nat.le_succ _) ?_,rfl,q _ ns' hn a2 a3⟩;refine⟨by rw[List.length_map,a2.length_eq,sizeLine_eq];omega,out.toList,e,ug a1,?_⟩;show (sortedAll s.heap its out).get? _=some (seqObj "list" out.toList.toArray e);rw[Array.toArray_toList];exact he
end
end L2
namespace L2
open PySem PySem.Spec PyProof.Rows AutoSeq1
section
variable {prog : Program} {w : World} {A : Around} {E : Value -> Shared -> Prop} {s : Shared}
theorem Gg{it t:Addr}{i:Nat}{items}{x:Value}{Q:Value->Shared->Prop}(hit:s.heap.IsTupleIter it t i)(ht:s.heap.IsTuple t items)(hx:items[i]?=some x)
 (hQ:∀h',h'.IsTupleIter it t (i+1)->Heap.SameBut it s.heap h'->Q x { s with heap:=h' }):wpAny (model prog w) A (Builtin.SmallTypes.nextOf (.ref it)) Q E s:=by
 obtain⟨o,ho,hc,hd⟩:=id hit;obtain⟨ol,hol,_,nl,hdl⟩:=ht;unfold Builtin.SmallTypes.nextOf;refine wpAny_bind (wpAny_callSpecial?_slot (name:=Str.ofString "__next__") hit.typeIs PySem.F.slot_tuple_iterator_next
  (wpAny_call_entry PySem.F.slot_tuple_iterator_next hit.typeIs PySem.F.entry_tuple_iterator_next ?_ (PySem.F.args_tuple_iterator_next_1 _)))
 show wpAny _ _ (field (.ref it) 0 >>= _) _ _ s;refine wpAny_bind (wpAny_field ho hd (x:=.ref t) rfl ?_);show wpAny _ _ (if (Value.ref t==Value.none)=true then _ else _) _ _ s;rw[if_neg (show ¬((Value.ref t==Value.none)=true) from Bool.false_ne_true)];show wpAny _ _ (field (.ref it) 1 >>= _) _ _ s;refine wpAny_bind (wpAny_field ho hd (x:=.int i 0) rfl ?_);show wpAny _ _ (seqItems? (.ref t) >>= _) _ _ s;refine wpAny_bind (wpAny_seqItems hol hdl ?_);simp only[Int.toNat_natCast,hx];refine wpAny_bind (wpAny_setField ho hd (by simp) (wpAny_pure ⟨x,rfl,wpAny_pure (hQ _ ?_ (Heap.SameBut.update ..))⟩));exact⟨_,Heap.get?_update_self _ ho (Obj.isFreed_of_fields (Obj.data_mapFields hd _)),(Obj.cls_mapFields ..).trans hc,by
  rw[Obj.data_mapFields hd];simp[rawInt]⟩
theorem je{it t:Addr}{i:Nat}{items}{Q:Value->Shared->Prop}(hh:A.handled=none)(hit:s.heap.IsTupleIter it t i)(ht:s.heap.IsTuple t items)(hx:items[i]?=none)
 (hE:∀h' e,Heap.ExtBut it s.heap h'->(∃o,h'.get? e=some o/\o.cls= .type "StopIteration")->E (.ref e) { s with heap:=h' }):wpAny (model prog w) A (Builtin.SmallTypes.nextOf (.ref it)) Q E s:=by
 obtain⟨o,ho,hc,hd⟩:=id hit;obtain⟨ol,hol,_,nl,hdl⟩:=ht;unfold Builtin.SmallTypes.nextOf;refine wpAny_bind (wpAny_callSpecial?_slot (name:=Str.ofString "__next__") hit.typeIs PySem.F.slot_tuple_iterator_next
  (wpAny_call_entry PySem.F.slot_tuple_iterator_next hit.typeIs PySem.F.entry_tuple_iterator_next ?_ (PySem.F.args_tuple_iterator_next_1 _)))
 show wpAny _ _ (field (.ref it) 0 >>= _) _ _ s;refine wpAny_bind (wpAny_field ho hd (x:=.ref t) rfl ?_);show wpAny _ _ (if (Value.ref t==Value.none)=true then _ else _) _ _ s;rw[if_neg (show ¬((Value.ref t==Value.none)=true) from Bool.false_ne_true)];show wpAny _ _ (field (.ref it) 1 >>= _) _ _ s;refine wpAny_bind (wpAny_field ho hd (x:=.int i 0) rfl ?_);show wpAny _ _ (seqItems? (.ref t) >>= _) _ _ s;refine wpAny_bind (wpAny_seqItems hol hdl ?_);simp only[Int.toNat_natCast,hx];refine wpAny_bind (wpAny_rule (wpAny_bind (wpAny_setField ho hd (by simp) ?_)));show wpAny _ _ (newExc (.type "StopIteration") [] >>= _) _ _ _;refine wpAny_bind ?_;simp only[newExc,newTuple];refine wpAny_bind (wpAny_newObj_type ?_ (by size_fits));refine wpAny_bind (m:=firstArgMember _ _) (wpAny_of_eq (a:=Value.none) (by first|rfl|(simp only[firstArgMember];rfl)) ?_);refine wpAny_newObj_type ?_ (by size_fits);simp only[raiseNew];refine wpAny_bind (wpAny_handled ?_)
 first|rw[show A.in1.handled=none from hh]|rw[hh]
 refine wpAny_bind (wpAny_pure (wpAny_throw ?_));exact hE _ _ (((Heap.SameBut.update ..).extBut.push _).push _) ⟨_,Heap.get?_push_size _ rfl,rfl⟩
end
theorem Qn{prog:Program}{w:World}{A:Around}(hh:A.handled=none)(it l:Addr)(hne:l≠it)(items:Array Value) :
 Draws prog w A it [it,l] items.size (λi v=>items[i]?=some v) (λi h=>h.IsTupleIter it l i/\h.IsTuple l items) where
 live:=λ_ _ st=>let ⟨o,ho,_⟩:=st.1;⟨o,ho⟩
 frame:=λ_ _ _ st hk=>⟨st.1.at λo e=>hk it (by simp) o e,by obtain⟨o,ho,c,n,d⟩:=st.2;exact⟨o,hk l (by simp) o ho,c,n,d⟩⟩
 item:=λi s Q E hi st hQ=>by
  refine Gg st.1 st.2 (x:=items[i]) (by simp[hi]) λh' hit' hs'=>?_;exact hQ _ h' s.toks (by simp[hi]) ⟨hit',st.2.extBut hs'.extBut hne⟩ hs'
 done:=λs Q E st hE=>je hh st.1 st.2 (by simp) hE
theorem qh(l:Addr)(o:Obj)(items:Array Value)(n:Nat)(hc:o.cls= .type "tuple")(hd:o.data= .seq items n) :
 Meets (Builtin.«enumerate.__new__» ⟨[.type "enumerate",.ref l],[]⟩) (λ_ R s=>s.heap.get? l=some o /\
  R (.ok (.ret (.ref (s.heap.push { cls:=.type "tuple_iterator",data:=.fields #[.ref l,.int 0 0] }).objs.size)))
   { s with heap:=(s.heap.push { cls:=.type "tuple_iterator",data:=.fields #[.ref l,.int 0 0] }).push { cls:=.type "enumerate",data:=.fields #[.none,.bool false,.ref s.heap.objs.size,rawInt 0,.none,.none] } }) :=
 .of_wp λprog w A R s h=>by
  obtain⟨hp,g,d,tk,os⟩:=s;obtain⟨hl,h⟩:=h;have hsub:=sub_enumerate;have hL:Heap.IsTuple (Shared.heap ⟨hp,g,d,tk,os⟩) l items:=⟨_,hl,hc,n,hd⟩
  wp_walk using wpAny_loadPart' hl
  refine wpAny_stack_any λst=>wpAny_pure ?_;split
  . rename_i c _ _ _ _ _
    cases(c==Value.type "enumerate")
    . wp_walk using wpAny_loadPart' hl,wpAny_pyIter_tuple hL
      exact⟨_,rfl,h⟩
    . wp_walk using wpAny_loadPart' hl,wpAny_pyIter_tuple hL
      exact⟨_,rfl,h⟩
  . wp_walk using wpAny_loadPart' hl,wpAny_pyIter_tuple hL
    exact⟨_,rfl,h⟩
theorem Ei{prog:Program}{w:World}{A:Around}{E:Value->Shared->Prop}{s:Shared}{l:Addr}{o:Obj}{items:Array Value}{n:Nat}{Q:Value->Shared->Prop}(hl:s.heap.get? l=some o)(hc:o.cls= .type "tuple")(hd:o.data= .seq items n)
 (h:∀h',IsEnum h' (s.heap.objs.size+1) s.heap.objs.size 0 .none->h'.IsTupleIter s.heap.objs.size l 0->h'.objs.size=s.heap.objs.size+2->(∀b o,s.heap.get? b=some o->h'.get? b=some o)->Q (.ref (s.heap.objs.size+1)) { s with heap:=h' }) :
 wpAny (model prog w) A (call (.type "enumerate") [.ref l]) Q E s:=by
 refine callType_new PySem.F.called_enumerate (by decide) (PySem.F.typeCall_enumerate_1 _) (PySem.F.newCall_enumerate_1 _) (λobj=>PySem.F.args_object_init_2 obj _) PySem.F.entry_enumerate_new
  (qh l o items n hc hd) ⟨hl,?_⟩
 have hz:(s.heap.push { cls:=.type "tuple_iterator",data:=.fields #[.ref l,.int 0 0] }).objs.size=s.heap.objs.size+1:=Heap.size_push ..;show _/\_;rw[hz];refine⟨⟨_,by rw[<-hz];exact Heap.get?_push_size _ rfl,rfl⟩,h _ (by rw[<-hz];exact Heap.get?_push_size _ rfl) ⟨_,Heap.get?_push_of_some _ (Heap.get?_push_size _ rfl),rfl,rfl⟩ (by rw[Heap.size_push,Heap.size_push]) λb o e=>Heap.get?_push_of_some _ (Heap.get?_push_of_some _ e)⟩
def IteT(a:Addr):It :=
 ⟨λi H=>∃xs x,H a=some (.tup xs)/\xs[i]?=some x,λi H v H'=>∃T xs x,v= .ref T/\H T=none/\H a=some (.tup xs)/\xs[i]?=some x/\H'=upd H T (.tup [.int (i:Int),x]),λi H=>∃xs,H a=some (.tup xs)/\xs.length<=i⟩
theorem Wo{P:Program}{w:World}{K:PySem.W.Frag}{elts:List Expr}{k:Nat}{pos:Pos}(a e it:Addr)(hei:e≠it)(hae:a≠e)(hai:a≠it) :
 Turn P w K (.Tuple elts k pos) (IteT a) [e,it] e (λi h=>(∃old,IsEnum h e it i old)/\h.IsTupleIter it a i) where
 mem:=by simp
 obj:=λi h st b hb=>by
  obtain⟨⟨old,he⟩,o,ho,c,d⟩:=st;rcases List.mem_cons.mp hb with rfl|hb
  . exact⟨_,he,λv z=>by cases z⟩
  . have e':b=it:=by simpa using hb
    subst e';exact⟨o,ho,λv z=>by rw[d]at z;cases z⟩
 keep:=λi h h' st k=>by
  obtain⟨⟨old,he⟩,hi⟩:=st;exact⟨⟨old,k e (by simp) _ he⟩,hi.at λo q=>k it (by simp) o q⟩
 item:=by
  intro X hP hw hK hc i pins s σ H E I hf st hg;subst hP hw hK;obtain⟨xs,x,hq,hx⟩:=hg;obtain⟨its,rv,p,hz⟩:=I.tuple (SqT.of hq);obtain⟨u,hu,ru⟩:=rv.get hx;have W:=WalksT.enumerateD (Qn (prog:=X.prog) (w:=X.w) (A:=X.A.in1) (by simp[I.ok.hd hc]) it a hai its.toArray) e hei (by simp only[List.mem_cons,List.mem_singleton,List.not_mem_nil,or_false,not_or];exact⟨hei,Ne.symm hae⟩) (by simp);have hlt:i<its.toArray.size:=by
   have:=(List.getElem?_eq_some_iff.mp hu).1;simpa using this
  refine W.item i s _ _ hlt ⟨st.1,st.2,show s.heap.IsTuple a its.toArray from p⟩ λT vals h1 tk hPt hT hTup hMid hk=>?_;have hTw:=W.apart _ _ _ hMid;refine⟨_,rfl,W.go elts k pos i T _ _ _ hMid λh2 hSt hk2=>?_⟩;obtain⟨t,x',hx',hv⟩:=hPt;have ex:x'=u:=by
   rw[List.getElem?_toArray,hu]at hx';exact(Option.some.inj hx').symm
  subst ex;subst hv;have hTn:H T=none:=I.hok.fresh hT;refine⟨.ref T,upd H T (.tup [.int (i:Int),x]),?_,rfl,⟨T,xs,x,rfl,hTn,hq,hx,rfl⟩,⟨hSt.1,hSt.2.1⟩,λb hb=>?_⟩
  . refine I.Eh (t':=tk) (ch:=[e,it]) (λb o hb q=>hk2 b o hb (hk b o hb q)) hf hT ?_
    refine⟨by simp only[List.length_cons,List.length_nil];rw[sizeLine_eq];decide,[.int (i:Int) t,x'],.cons ⟨_,rfl⟩ (.cons ru .nil),?_⟩;obtain⟨o,ho,c,n,d⟩:=hTup;exact⟨o,hk2 T o hTw ho,c,n,d⟩
  . rw[va (λz=>by subst z;exact hTw hb)]
    exact(hf b hb).1
 done:=by
  intro X hP hw hK hc i pins s σ H E I hf st hg;subst hP hw hK;obtain⟨xs,hq,hx⟩:=hg;obtain⟨its,rv,p,hz⟩:=I.tuple (SqT.of hq);obtain⟨⟨old,he⟩,hit⟩:=st;have hl:=rv.length;unfold pyNext;have hT:s.TypeIs (.ref e) "enumerate":=⟨_,he,rfl⟩
  refine wpAny_bind (wpAny_attempt (wpAny_callSpecial?_slot (name:=Str.ofString "__next__") hT PySem.F.slot_enumerate_next
   (wpAny_call_entry PySem.F.slot_enumerate_next hT PySem.F.entry_enumerate_next ?_ (PySem.F.args_enumerate_next_1 _))))
  show wpAny _ _ (field (.ref e) 2 >>= _) _ _ _;refine wpAny_bind (wpAny_field he rfl (x:=.ref it) rfl ?_);refine wpAny_bind (je (by simp[I.ok.hd hc]) hit (show s.heap.IsTuple a its.toArray from p) (by rw[List.getElem?_toArray];exact List.getElem?_eq_none (by omega)) λh' x he' hx'=>?_);obtain⟨o,ho,hc'⟩:=hx';refine wpAny_bind (wpAny_isInstance (T:="StopIteration") (b:=true) ⟨o,ho,hc'⟩ isSubtype_stop ?_);exact wpAny_pure ⟨rfl,I.Kj (t':=s.toks) (ch:=[e,it]) (λb o hb q=>he' b o (λz=>hb (by simp[z])) q) hf⟩
 self:=λA i s Q E st h=>by
  obtain⟨⟨old,he⟩,_⟩:=st;exact wpAny_pyIter_enum he h
def IteB(b:Bool)(a:Addr):It:=match b with
 | true=>Ite a
 | false=>IteT a
def Es(tA:TA):TI:=λσ H R=>tA σ H λvs H1=>∃b a xs,vs=[.ref a]/\H1 a=some (obB b xs)/\R (IteB b a) H1
section
variable {X : Cx}
theorem xk{elts:List Expr}{k:Nat}{tp:Pos}{a:Expr}{ta:TA}{p pos:Pos}(hg:Gl X "enumerate")(hm:X.mg "enumerate"=none)(ha:PA X [a] ta)(hs:starEach [a] X.env=[(false,eval a X.env)]:=by first|rfl|with_unfolding_all rfl) :
 PI X (.Tuple elts k tp) (.Call (.Name "enumerate" p) [a] [] pos) (Es ta):=by
 intro pins s σ H R I h;refine Call_ (yf I hg hm Vg (PyProof.Rows.callWith_type1 (thn (ha pos pins s σ H _ I h) λus s1 ⟨vs,H1,I1,r1,q1⟩=>?_) hs rfl));obtain⟨b,l,xs,e,hl,q⟩:=q1;subst e;have fp:∀b∈[s1.heap.objs.size+1,s1.heap.objs.size],FpOk X pins H1 b:=λb hb=>by
  have hle:s1.heap.objs.size<=b:=by
   simp only[List.mem_cons,List.not_mem_nil,or_false]at hb;rcases hb with hb|hb
   . rw[hb];exact Nat.le_succ _
   . rw[hb];exact Nat.le_refl _
  exact I1.fpOk hle (I1.hok.fresh hle)
 cases r1 with
 | cons r rr =>
  cases rr;cases r;cases b with
  | true =>
   obtain⟨_,its,n,_,_,hget⟩:=I1.lstM (show H1 l=some (.lst xs) from hl);have hll:l<s1.heap.objs.size:=Heap.lt_size hget;refine call_enumerate_1 hget λh' he hi hsz hk=>wpAny_pyIter_enum he ?_;exact⟨s1.heap.objs.size+1,[s1.heap.objs.size+1,s1.heap.objs.size],_,_,H1,rfl,I1.kept (t':=s1.toks) hk,El l _ _ (Nat.ne_of_gt (Nat.lt_succ_self _)) (Nat.ne_of_lt (Nat.lt_succ_of_lt hll)) (Nat.ne_of_lt hll),⟨⟨_,he⟩,hi⟩,fp,q⟩
  | false =>
   obtain⟨its,_,⟨o,hget,hc,n,hd⟩,_⟩:=I1.tuple (SqT.of (show H1 l=some (.tup xs) from hl));have hll:l<s1.heap.objs.size:=Heap.lt_size hget;refine Ei hget hc hd λh' he hi hsz hk=>wpAny_pyIter_enum he ?_;exact⟨s1.heap.objs.size+1,[s1.heap.objs.size+1,s1.heap.objs.size],_,_,H1,rfl,I1.kept (t':=s1.toks) hk,Wo l _ _ (Nat.ne_of_gt (Nat.lt_succ_self _)) (Nat.ne_of_lt (Nat.lt_succ_of_lt hll)) (Nat.ne_of_lt hll),⟨⟨_,he⟩,hi⟩,fp,q⟩
end
end L2
namespace L2
open PySem PySem.Spec PyProof.Rows
def ForEB(vs:List V)(g:TG)(tb:TS)(D:Ends)(σ:St)(H:Hp):Prop:=∃b a xs,vs=[.ref a]/\H a=some (obB b xs)/\ForJ (IteB b a) g tb D σ H
def Qw(vs:List V)(js:List Nat)(nt:Nat)(g:TG)(tt:TT)(te:TE)(σ:St)(H:Hp)(Q:VK):Prop:=∃b a xs,vs=[.ref a]/\H a=some (obB b xs)/\Ii (IteB b a) js nt g tt te σ H Q
theorem ly{tA:TA}{g:TG}{tb:TS}{D:Ends}{σ:St}{H:Hp}(h:tA σ H λvs H1=>ForEB vs g tb D σ H1):tFor (Es tA) g tb D σ H:=h
theorem Du{tA:TA}{js:List Nat}{nt:Nat}{g:TG}{tt:TT}{te:TE}{σ:St}{H:Hp}{Q:VK}(h:tA σ H λvs H1=>Qw vs js nt g tt te σ H1 Q):Yg js nt (Es tA) g tt te σ H Q:=h
theorem forEB{k:Bool}{a:Addr}{xs:List V}{g:TG}{tb:TS}{σ:St}{H:Hp}{n b c:St->Hp->Prop}{r:VK}(Pv:Nat->St->Hp->Prop)(h0:Pv 0 σ H)(hl:∀i σ H,i<=xs.length->Pv i σ H->H a=some (obB k xs))
 (hs:∀(i:Nat) x σ H T,xs[i]?=some x->Pv i σ H->H T=none->g (.ref T) σ (upd H T (.tup [.int (i:Int),x])) λσ2 H2=>tb ⟨Pv (i+1),r,n,Pv (i+1)⟩ σ2 H2)(hd:∀σ H,Pv xs.length σ H->n σ H):ForEB [.ref a] g tb ⟨n,r,b,c⟩ σ H:=by
 refine⟨k,a,xs,rfl,hl 0 σ H (Nat.zero_le _) h0,λi m σ' H'=>m=xs.length-i/\i<=xs.length/\Pv i σ' H',⟨xs.length,by simp,Nat.zero_le _,h0⟩,?_⟩;rintro i m σ' H' ⟨rfl,hi,p⟩
 have q:=hl i σ' H' hi p;by_cases hlt:i<xs.length
 . refine .inr ⟨?_,Pv (i+1),λσ' H' p'=>⟨xs.length-(i+1),by omega,rfl,hlt,p'⟩,λv H2 y=>?_⟩
   . cases k<;>exact⟨xs,xs[i],q,by simp[hlt]⟩
   . cases k <;>
     . obtain⟨T,xs',x,rfl,hT,hq,hx,rfl⟩:=y
       rw[q]at hq;cases hq;exact hs i x σ' H' T hx p hT
 . have e:i=xs.length:=by omega
   subst e;refine .inl ⟨?_,hd σ' H' p⟩;cases k<;>exact⟨xs,q,Nat.le_refl _⟩
theorem Mw{k:Bool}{a:Addr}{xs:List V}{js:List Nat}{g:TG}{tt:TT}{te:TE}{σ:St}{H:Hp}{Q:VK}(caps:St)(Pv:Nat->List V->Hp->Prop)(hcaps:cap σ js 2=caps++[none,none])(hsz:xs.length<sizeLine)(h0:Pv 0 [] H)
 (hl:∀i ys H,i<=xs.length->Pv i ys H->H a=some (obB k xs))(hlen:∀i ys H,Pv i ys H->ys.length<=i)
 (hs:∀(i:Nat) x ys z1 z2 H T,xs[i]?=some x->Pv i ys H->H T=none->g (.ref T) (caps++[z1,z2]) (upd H T (.tup [.int (i:Int),x])) λσ3 H3=>tt σ3 H3 λok H4=>if ok=true then te σ3 H4 λy H5=>Pv (i+1) (ys++[y]) H5/\∃z1 z2,σ3=caps++[z1,z2] else Pv (i+1) ys H4/\∃z1 z2,σ3=caps++[z1,z2])
 (hd:∀ys H,Pv xs.length ys H->∀D,H D=none->Q (.ref D) (upd H D (.lst ys))):Qw [.ref a] js 2 g tt te σ H Q:=by
 refine⟨k,a,xs,rfl,hl 0 [] H (Nat.zero_le _) h0,λi m ys σ' H'=>m=xs.length-i/\i<=xs.length/\Pv i ys H'/\∃z1 z2,σ'=caps++[z1,z2],⟨xs.length,by simp,Nat.zero_le _,h0,none,none,hcaps⟩,?_⟩;rintro i m ys σ' H' ⟨rfl,hi,p,z1,z2,rfl⟩
 refine⟨by have:=hlen i ys H' p;omega,?_⟩;have q:=hl i ys H' hi p;by_cases hlt:i<xs.length
 . refine .inr ⟨?_,λys σ' H'=>Pv (i+1) ys H'/\∃z1 z2,σ'=caps++[z1,z2],λys σ' H' ⟨p',q'⟩=>⟨xs.length-(i+1),by omega,rfl,hlt,p',q'⟩,λv H2 y=>?_⟩
   . cases k<;>exact⟨xs,xs[i],q,by simp[hlt]⟩
   . cases k <;>
     . obtain⟨T,xs',x,rfl,hT,hq,hx,rfl⟩:=y
       rw[q]at hq;cases hq;exact hs i x ys z1 z2 H' T hx p hT
 . have e:i=xs.length:=by omega
   subst e;refine .inl ⟨?_,hd ys H' p⟩;cases k<;>exact⟨xs,q,Nat.le_refl _⟩
theorem Po{K:PySem.W.Frag}{a:Addr}{xs:List V}{js:List Nat}{g:TG}{tt:TT}{te:TE}{σ:St}{H:Hp}{Q:VK}(caps:St)(Pv:Nat->List V->Hp->Prop)(hcaps:cap σ js 2=caps++[none,none])(hsz:xs.length<sizeLine)(h0:Pv 0 [] H)
 (hl:∀i ys H,i<=xs.length->Pv i ys H->SqT K H a xs)(hlen:∀i ys H,Pv i ys H->ys.length<=i)
 (hs:∀(i:Nat) x ys z1 z2 H,xs[i]?=some x->Pv i ys H->g x (caps++[z1,z2]) H λσ3 H3=>tt σ3 H3 λok H4=>if ok=true then te σ3 H4 λy H5=>Pv (i+1) (ys++[y]) H5/\∃z1 z2,σ3=caps++[z1,z2] else Pv (i+1) ys H4/\∃z1 z2,σ3=caps++[z1,z2])
 (hd:∀ys H,Pv xs.length ys H->∀D,H D=none->Q (.ref D) (upd H D (.lst ys))):∃a',V.ref a= .ref a'/\(∃xs,SqT K H a' xs)/\Ii (Itt K a') js 2 g tt te σ H Q:=by
 refine⟨a,rfl,⟨xs,hl 0 [] H (Nat.zero_le _) h0⟩,λi m ys σ' H'=>m=xs.length-i/\i<=xs.length/\Pv i ys H'/\∃z1 z2,σ'=caps++[z1,z2],⟨xs.length,by simp,Nat.zero_le _,h0,none,none,hcaps⟩,?_⟩;rintro i m ys σ' H' ⟨rfl,hi,p,z1,z2,rfl⟩
 refine⟨by have:=hlen i ys H' p;omega,?_⟩;have q:=hl i ys H' hi p;by_cases hlt:i<xs.length
 . refine .inr ⟨⟨xs,xs[i],q,by simp[hlt]⟩,λys σ' H'=>Pv (i+1) ys H'/\∃z1 z2,σ'=caps++[z1,z2],λys σ' H' ⟨p',q'⟩=>⟨xs.length-(i+1),by omega,rfl,hlt,p',q'⟩,λx H2 y=>?_⟩
   obtain⟨e,y⟩:=y;subst e;exact hs i x ys z1 z2 _ (y xs q) p
 . have e:i=xs.length:=by omega
   subst e;exact .inl ⟨⟨xs,q,Nat.le_refl _⟩,hd ys H' p⟩
end L2
namespace MB
def ch:Nat->Nat->Nat
 | _,0=>1
 | 0,_+1=>0
 | n+1,k+1=>ch n k+ch n (k+1)
theorem Sd(n:Nat):ch n 0=1:=by cases n<;>rfl
theorem wz(k:Nat):ch 0 (k+1)=0:=rfl
theorem rh(n k:Nat):ch (n+1) (k+1)=ch n k+ch n (k+1):=rfl
theorem Vk:∀{n k:Nat},n<k->ch n k=0
 | 0,k+1,_=>rfl
 | n+1,k+1,h=>by rw[rh,Vk (by omega),Vk (by omega)]
theorem Vn:∀n:Nat,ch n n=1
 | 0=>rfl
 | n+1=>by rw[rh,Vn n,Vk (by omega)]
theorem Qo:∀{n k:Nat},k<=n->0<ch n k
 | n,0,_=>by rw[Sd];decide
 | n+1,k+1,h=>by rw[rh];have:=Qo (n:=n) (k:=k) (by omega);omega
theorem Oe:∀n k:Nat,(k+1)*ch (n+1) (k+1)=(n+1)*ch n k
 | 0,0=>rfl
 | 0,k+1=>by rw[rh,wz,wz];omega
 | n+1,0=>by
  have h:=Oe n 0;rw[Sd]at h;rw[rh (n+1) 0,Sd];omega
 | n + 1, k + 1 => by
  have h1:=Oe n k;have h2:=Oe n (k+1);have e1:ch (n+1) (k+1)=ch n k+ch n (k+1):=rh n k;rw[rh (n+1) (k+1)];have e2:(k+1+1)*(ch (n+1) (k+1)+ch (n+1) (k+1+1))=(k+1)*ch (n+1) (k+1)+ch (n+1) (k+1)+(k+1+1)*ch (n+1) (k+1+1):=by
   rw[Nat.mul_add,Nat.add_mul (k+1) 1,Nat.one_mul]
  rw[e2,h1,h2,e1];have e3:(n+1+1)*(ch n k+ch n (k+1))=(n+1)*ch n k+(n+1)*ch n (k+1)+(ch n k+ch n (k+1)):=by
   rw[Nat.add_mul (n+1) 1,Nat.one_mul,Nat.mul_add]
  rw[e3];omega
theorem yz(n k:Nat):(k+1)*ch n (k+1)=(n-k)*ch n k:=by
 by_cases h:k<=n
 . have h1:=Oe n k
   rw[rh,Nat.mul_add]at h1;have e:(n+1)*ch n k=(n-k)*ch n k+(k+1)*ch n k:=by
    rw[<-Nat.add_mul];congr 1;omega
   omega
 . rw[Vk (by omega),Vk (by omega),Nat.mul_zero,Nat.mul_zero]
theorem Tn:∀{n k:Nat},k<=n->ch n (n-k)=ch n k
 | 0,0,_=>rfl
 | n+1,0,_=>by rw[Sd,Nat.sub_zero,Vn]
 | n+1,k+1,h=>by
  by_cases e:k=n
  . subst e;rw[Nat.sub_self,Sd,Vn]
  . have h1:=Tn (n:=n) (k:=k) (by omega)
    have h2:=Tn (n:=n) (k:=k+1) (by omega);have e1:n+1-(k+1)=(n-(k+1))+1:=by omega
    rw[e1,rh,rh,h2];have e2:n-(k+1)+1=n-k:=by omega
    rw[e2,h1];omega
theorem Zb:∀n k:Nat,ch n k<=2^n
 | 0,0=>by decide
 | 0,k+1=>by rw[wz];decide
 | n+1,0=>by rw[Sd];exact Nat.one_le_two_pow
 | n+1,k+1=>by
  have h1:=Zb n k;have h2:=Zb n (k+1);rw[rh,Nat.pow_succ];omega
theorem ch_div(n i:Nat)(h:i<=n):((ch n i:Int)*((n:Int)-(i:Int)))/((i:Int)+1)=(ch n (i+1):Int):=by
 have e:=yz n i;have e1:((ch n i:Int)*((n:Int)-(i:Int)))=(ch n (i+1):Int)*((i:Int)+1):=by
  have e2:((n:Int)-(i:Int))=((n-i:Nat):Int):=by omega
  have e3:((i:Int)+1)=((i+1:Nat):Int):=by omega
  rw[e2,e3,<-Int.natCast_mul,<-Int.natCast_mul,Nat.mul_comm,<-e,Nat.mul_comm]
 rw[e1,Int.mul_ediv_cancel _ (by omega)]
def W(many few:Int):Int:=if few<0\/few>many then 0 else (ch many.toNat few.toNat:Int)
theorem Ct{many few:Int}(h:few<0\/few>many):W many few=0:=by unfold W;rw[if_pos h]
theorem W_in{many few:Int}(h:¬(few<0\/few>many)):W many few=(ch many.toNat few.toNat:Int):=by unfold W;rw[if_neg h]
theorem Tv(n k:Nat):W (n:Int) (k:Int)=(ch n k:Int):=by
 by_cases h:k<=n
 . rw[W_in (by omega)];rfl
 . rw[Ct (by omega),Vk (by omega)];rfl
theorem W_symm{m k:Int}(h:0<=m):W m (m-k)=W m k:=by
 by_cases hk:k<0\/k>m
 . rw[Ct hk,Ct (by omega)]
 . rw[W_in hk,W_in (by omega)]
   have e:(m-k).toNat=m.toNat-k.toNat:=by omega
   rw[e,Tn (by omega)]
theorem ch_min{m k j:Int}(h0:0<=k)(h1:k<=m)(hj:j=k\/j=m-k):(ch m.toNat j.toNat:Int)=W m k:=by
 rcases hj with rfl|rfl
 . rw[W_in (by omega)]
 . rw[<-W_symm (by omega),W_in (by omega)]
end MB
namespace BL
open PySem PySem.Spec PyProof.Rows L2
def DrL(H:Hp)(d l:Addr):Prop:=∃(ns:List Int) (i c r:Int),H d=some (.lst [.ref l,.int i,.int c,.int r])/\H l=some (.lst (ns.map V.int))/\l≠d/\0<=i
def Dr(H:Hp)(d:Addr):Prop:=∃l,DrL H d l
theorem DrL.some{H:Hp}{d l:Addr}(D:DrL H d l):(∃xs,H d=some (.lst xs))/\∃xs,H l=some (.lst xs):=by
 obtain⟨ns,i,c,r,h,h2,_⟩:=D;exact⟨⟨_,h⟩,⟨_,h2⟩⟩
theorem DrL.new{H:Hp}{d l p:Addr}{o:HO}(D:DrL H d l)(e:H p=none):DrL (upd H p o) d l:=by
 obtain⟨ns,i,c,r,h,h2,n,z⟩:=D;exact⟨ns,i,c,r,by rw[va (ba h e)];exact h,by rw[va (ba h2 e)];exact h2,n,z⟩
theorem DrL.upd{H:Hp}{d l p:Addr}{o:HO}(D:DrL H d l)(e1:p≠d)(e2:p≠l):DrL (L2.upd H p o) d l:=by
 obtain⟨ns,i,c,r,h,h2,n,z⟩:=D;exact⟨ns,i,c,r,by rw[va e1.symm];exact h,by rw[va e2.symm];exact h2,n,z⟩
theorem DrL.same{H H':Hp}{d l:Addr}(D:DrL H d l)(e:Same H H'):DrL H' d l:=by
 obtain⟨ns,i,c,r,h,h2,n,z⟩:=D;exact⟨ns,i,c,r,e _ _ h,e _ _ h2,n,z⟩
theorem DrL.ne{H:Hp}{d l p:Addr}(D:DrL H d l)(e:H p=none):p≠d/\p≠l:=by
 obtain⟨⟨_,h1⟩,_,h2⟩:=D.some;exact⟨(ba h1 e).symm,(ba h2 e).symm⟩
theorem Dr.ne{H:Hp}{d p:Addr}(D:Dr H d)(e:H p=none):p≠d:=let ⟨_,D⟩:=D;(D.ne e).1
def Dq(K:PySem.W.Frag):Sp:=λvs H Q _=>∃(a:Addr) (ns:List Int),vs=[.ref a]/\SqL K H a (ns.map V.int)/\∀(d l:Addr) (H':Hp),H d=none->H l=none->DrL H' d l->Same H H'->Q (.ref d) H'
theorem Cq{K:PySem.W.Frag}{a:Addr}{ns:List Int}{H:Hp}{Q:VK}{E:XK}(hS:SqL K H a (ns.map V.int))(k:∀(d l:Addr) (H':Hp),H d=none->H l=none->DrL H' d l->Same H H'->Q (.ref d) H'):Dq K [.ref a] H Q E:=⟨a,ns,rfl,hS,k⟩
def vq:Sp:=λvs H Q _=>∃(d l:Addr) (m:Int),vs=[.ref d,.int m]/\DrL H d l/\0<m/\(∃n:Nat,m.natAbs<2^n/\n<=9000)/\∀(g:Int) (H':Hp),0<=g->g<m->DrL H' d l->Fr1 d H H'->Q (.int g) H'
def spWays:Sp:=λvs H Q _=>∃m k:Int,vs=[.int m,.int k]/\m<512/\Q (.int (MB.W m k)) H
theorem Rt{d l:Addr}{m:Int}{H:Hp}{Q:VK}{E:XK}(D:DrL H d l)(h1:0<m)(n:Nat)(h2:m.natAbs<2^n)(h3:n<=9000)(k:∀(g:Int) (H':Hp),0<=g->g<m->DrL H' d l->Fr1 d H H'->Q (.int g) H'):vq [.ref d,.int m] H Q E :=
 ⟨d,l,m,rfl,D,h1,⟨n,h2,h3⟩,k⟩
theorem ub{d l:Addr}{m:Int}{H:Hp}{Q:VK}{E:XK}(D:DrL H d l)(h1:0<m)(h2:m<4294967296)(k:∀(g:Int) (H':Hp),0<=g->g<m->DrL H' d l->Fr1 d H H'->Q (.int g) H'):vq [.ref d,.int m] H Q E :=
 ⟨d,l,m,rfl,D,h1,⟨32,by omega,by decide⟩,k⟩
end BL
namespace MB
def hv:Nat->Nat->Nat
 | n+1,k+1=>ch n k
 | _,_=>0
theorem Pk(n:Nat):hv n 0=0:=by cases n<;>rfl
theorem jz(n k:Nat):hv (n+1) (k+1)=ch n k:=rfl
theorem kz(n k:Nat):ch (n+1) k=hv (n+1) k+ch n k:=by
 cases k with
 | zero=>rw[Pk,Sd,Sd]
 | succ k=>rw[jz,rh]
theorem hv_div(n k:Nat)(h:k<=n+1):(ch (n+1) k:Int)*(k:Int)/((n:Int)+1)=(hv (n+1) k:Int):=by
 cases k with
 | zero=>rw[Pk];simp
 | succ k =>
  rw[jz];have e:=Oe n k;have e1:(ch (n+1) (k+1):Int)*((k+1:Nat):Int)=(ch n k:Int)*((n:Int)+1):=by
   rw[show ((n:Int)+1)=((n+1:Nat):Int) by omega,<-Int.natCast_mul,<-Int.natCast_mul,Nat.mul_comm,e,Nat.mul_comm]
  rw[e1,Int.mul_ediv_cancel _ (by omega)]
def pk:Nat->Nat->Nat->Nat->List Nat
 | 0,_,_,_=>[]
 | n+1,p,k,r=>if r<hv (n+1) k then p::pk n (p+1) (k-1) r else pk n (p+1) k (r-hv (n+1) k)
def nm:Nat->Nat->List Nat->Nat
 | 0,_,_=>0
 | n+1,p,l=>match l with
  | []=>0
  | x::r=>if x=p then nm n (p+1) r else hv (n+1) (r.length+1)+nm n (p+1) (x::r)
theorem pk_in{n p k r:Nat}(h:r<hv (n+1) k):pk (n+1) p k r=p::pk n (p+1) (k-1) r:=by
 rw[show pk (n+1) p k r=if r<hv (n+1) k then p::pk n (p+1) (k-1) r else pk n (p+1) k (r-hv (n+1) k) from rfl,if_pos h]
theorem pk_out{n p k r:Nat}(h:¬r<hv (n+1) k):pk (n+1) p k r=pk n (p+1) k (r-hv (n+1) k):=by
 rw[show pk (n+1) p k r=if r<hv (n+1) k then p::pk n (p+1) (k-1) r else pk n (p+1) k (r-hv (n+1) k) from rfl,if_neg h]
def Ris:Nat->Nat->List Nat->Prop
 | _,_,[]=>True
 | p,e,x::r=>p<=x/\x<e/\Ris (x+1) e r
theorem Ris.len:∀{l:List Nat} {p e:Nat},Ris p e l->l.length<=e-p
 | [],_,_,_=>Nat.zero_le _
 | x::r,p,e,⟨h1,h2,h3⟩=>by
  have:=Ris.len h3;simp only[List.length_cons];omega
def run(x:Nat):Nat->List Nat
 | 0=>[]
 | k+1=>x::run (x+1) k
end MB
namespace BL
open PySem PySem.Spec PyProof.Rows L2
def zs(l:List Nat):List Int:=l.map (λx:Nat=>(x:Int))
def tupN(l:List Nat):HO:=.tup ((zs l).map V.int)
def lstN(l:List Nat):HO:=.lst ((zs l).map V.int)
theorem Vv(l:List Nat):(zs l).length=l.length:=List.length_map _
theorem lst_snoc(l:List Nat)(x:Nat):((zs l).map V.int++[V.int (x:Int)])=(zs (l++[x])).map V.int:=by
 unfold zs;simp
def xx:Sp:=λvs H Q _=>∃t n k:Int,vs=[.int t,.int n,.int k]/\0<n/\n<4294967296/\ -4294967296<k/\k<4294967296/\Q (.int (t*k/n)) H
def spPick:Sp:=λvs H Q _=>∃m k r:Nat,vs=[.int m,.int k,.int r]/\m<512/\r<MB.ch m k/\∀(t:Addr) (H':Hp),H t=none->Same H H'->H' t=some (tupN (MB.pk m 0 k r))->Q (.ref t) H'
theorem Ha(l:List Nat):((zs l).map V.int).length=l.length:=by rw[List.length_map,Vv]
theorem Ov{l:List Nat}{i:Nat}{x:Nat}(h:l[i]?=some x):atI ((zs l).map V.int) (i:Int)=some (.int (x:Int)):=by
 refine kc ?_;unfold zs;rw[List.getElem?_map,List.getElem?_map,h];rfl
theorem Km{m i k:Nat}(h:i<m)(hk:k<=m-i):(MB.ch (m-i) k:Int)*(k:Int)/((m:Int)-(i:Int))=(MB.hv (m-i) k:Int):=by
 obtain⟨n,hn⟩:∃n,m-i=n+1:=⟨m-i-1,by omega⟩
 have:=MB.hv_div n k (by omega);rw[hn];rw[show ((m:Int)-(i:Int))=(n:Int)+1 by omega];exact this
theorem ch_hv{m i k:Nat}(h:i<m):MB.ch (m-i) k=MB.hv (m-i) k+MB.ch (m-(i+1)) k:=by
 obtain⟨n,hn⟩:∃n,m-i=n+1:=⟨m-i-1,by omega⟩
 rw[hn,show m-(i+1)=n by omega];exact MB.kz n k
theorem hv_ch{m i k:Nat}(h:i<m):MB.hv (m-i) (k+1)=MB.ch (m-(i+1)) k:=by
 obtain⟨n,hn⟩:∃n,m-i=n+1:=⟨m-i-1,by omega⟩
 rw[hn,show m-(i+1)=n by omega];rfl
theorem hv_pos{m i k r:Nat}(h:r<MB.hv (m-i) k):∃j,k=j+1:=by
 cases k with
 | zero=>rw[MB.Pk]at h;omega
 | succ j=>exact⟨j,rfl⟩
theorem pk_in'{m i k r:Nat}(h:i<m)(hr:r<MB.hv (m-i) k):MB.pk (m-i) i k r=i::MB.pk (m-(i+1)) (i+1) (k-1) r:=by
 obtain⟨n,hn⟩:∃n,m-i=n+1:=⟨m-i-1,by omega⟩
 rw[hn]at hr ⊢;rw[show m-(i+1)=n by omega];exact MB.pk_in hr
theorem Ey{m i k r:Nat}(h:i<m)(hr:¬r<MB.hv (m-i) k):MB.pk (m-i) i k r=MB.pk (m-(i+1)) (i+1) k (r-MB.hv (m-i) k):=by
 obtain⟨n,hn⟩:∃n,m-i=n+1:=⟨m-i-1,by omega⟩
 rw[hn]at hr ⊢;rw[show m-(i+1)=n by omega];exact MB.pk_out hr
theorem Ro{n k r:Nat}(h:r<MB.ch n k):k<=n:=by
 rcases Nat.lt_or_ge n k with z|z
 . rw[MB.Vk z]at h;omega
 . exact z
end BL
namespace BL
end BL
namespace BL
open PySem PySem.Spec PyProof.Rows L2
def tupF(q:Int×Int):HO:=.tup [.int q.1,.int q.2]
structure FrAt(H:Hp)(f:Addr)(ps:List Addr)(qs:List (Int×Int)):Prop where
 ls:H f=some (.lst (ps.map V.ref))
 it:∀i:Nat,∀p,ps[i]?=some p->∃q,qs[i]?=some q/\H p=some (tupF q)
 ln:ps.length=qs.length
theorem FrAt.same{H H':Hp}{f:Addr}{ps:List Addr}{qs:List (Int×Int)}(F:FrAt H f ps qs)(s:Same H H'):FrAt H' f ps qs :=
 ⟨s _ _ F.ls,λi p h=>by obtain⟨q,a,b⟩:=F.it i p h;exact⟨q,a,s _ _ b⟩,F.ln⟩
theorem Ka{α:Type}{l:List α}{i:Nat}{x:α}(h:l[i]?=some x):l.take (i+1)=l.take i++[x]:=by
 rw[List.take_add_one,h];rfl
theorem FrAt.push{H:Hp}{f p:Addr}{ps:List Addr}{qs:List (Int×Int)}{q:Int×Int}(F:FrAt H f ps qs)(hp:H p=none):FrAt (upd (upd H p (tupF q)) f (.lst (ps.map V.ref++[.ref p]))) f (ps++[p]) (qs++[q]):=by
 have hfp:f≠p:=ba F.ls hp;refine⟨by rw[da];simp,λi p' h=>?_,by rw[List.length_append,List.length_append,F.ln];rfl⟩;by_cases hi:i<ps.length
 . rw[List.getElem?_append_left hi]at h
   obtain⟨q',a,b⟩:=F.it i p' h;refine⟨q',by rw[List.getElem?_append_left (by rw[<-F.ln];exact hi)];exact a,?_⟩;rw[va (Ik b F.ls Nj),va (ba b hp)];exact b
 . rw[List.getElem?_append_right (by omega)]at h
   have e:i-ps.length=0:=by
    cases z:i-ps.length with
    | zero=>rfl
    | succ k=>rw[z]at h;simp at h
   rw[e]at h;simp at h;subst h;refine⟨q,by rw[List.getElem?_append_right (by rw[<-F.ln];omega),<-F.ln,e];rfl,?_⟩;rw[va hfp.symm,da]
end BL
namespace MB
end MB
namespace BL
open PySem PySem.Spec PyProof.Rows L2
end BL
namespace BR
open MB
inductive Wd where
 | council|bench|stay
 deriving DecidableEq
inductive Rn where
 | lot (n:Nat)|vote (n q:Nat) (w:Wd)
def Rn.n:Rn->Nat
 | .lot n=>n
 | .vote n _ _=>n
def Fit(c s:Nat):Rn->Prop
 | .lot n=>1<=n/\n<=60/\n<=s
 | .vote n q w=>1<=n/\n<=60/\n<=c/\s<2*q/\q<=s/\(w= .bench->n<=s)/\(w= .stay->n=s)
def FitR(c:Nat):Nat->List Rn->Prop
 | _,[]=>True
 | s,r::rs=>Fit c s r/\FitR c r.n rs
def Ya:Nat->List Rn->Nat
 | s,[]=>s
 | _,r::rs=>Ya r.n rs
theorem Fit.pos{c s:Nat}:∀{r:Rn},Fit c s r->1<=r.n/\r.n<=60
 | .lot _,h=>⟨h.1,h.2.1⟩
 | .vote _ _ _,h=>⟨h.1,h.2.1⟩
theorem Fit.le{c s:Nat}(hs:s<=c):∀{r:Rn},Fit c s r->r.n<=c
 | .lot _,h=>Nat.le_trans h.2.2 hs
 | .vote _ _ _,h=>h.2.2.1
theorem Ke:∀(a:List Rn) (s:Nat) (b:List Rn),Ya s (a++b)=Ya (Ya s a) b
 | [],_,_=>rfl
 | r::a,_,b=>Ke a r.n b
theorem Ig(a:List Rn)(s:Nat)(r:Rn):Ya s (a++[r])=r.n:=Ke a s [r]
theorem FitR.app{c:Nat}:∀{a:List Rn} {s:Nat} {b:List Rn},FitR c s (a++b)↔FitR c s a/\FitR c (Ya s a) b
 | [],s,b=>⟨λh=>⟨trivial,h⟩,λh=>h.2⟩
 | r::a,s,b=>by
  show (Fit c s r/\FitR c r.n (a++b))↔(Fit c s r/\FitR c r.n a)/\FitR c (Ya r.n a) b;rw[FitR.app (a:=a)];exact⟨λ⟨x,y,z⟩=>⟨⟨x,y⟩,z⟩,λ⟨⟨x,y⟩,z⟩=>⟨x,y,z⟩⟩
theorem FitR.snoc{c s:Nat}{a:List Rn}{r:Rn}(h:FitR c s a)(h2:Fit c (Ya s a) r):FitR c s (a++[r]):=FitR.app.mpr ⟨h,h2,trivial⟩
theorem FitR.take{c s:Nat}{a:List Rn}(h:FitR c s a)(k:Nat):FitR c s (a.take k):=by
 rw[<-List.take_append_drop k a]at h;exact(FitR.app.mp h).1
theorem FitR.at{c s:Nat}{a:List Rn}{i:Nat}{r:Rn}(h:FitR c s a)(e:a[i]?=some r):Fit c (Ya s (a.take i)) r:=by
 have hlt:=(List.getElem?_eq_some_iff.mp e).1;have e2:a=a.take i++(r::a.drop (i+1)):=by
  have:=(List.getElem?_eq_some_iff.mp e).2;rw[<-this,<-List.drop_eq_getElem_cons hlt,List.take_append_drop]
 rw[e2]at h;have:=(FitR.app.mp h).2.1;exact this
theorem Yb{c:Nat}:∀{a:List Rn} {s:Nat},FitR c s a->1<=s->s<=c->1<=Ya s a/\Ya s a<=c
 | [],s,_,h1,h2=>⟨h1,h2⟩
 | r::a,s,h,h1,h2=>Yb (a:=a) h.2 h.1.pos.1 (h.1.le h2)
theorem Ka{α:Type}{l:List α}{i:Nat}{x:α}(h:l[i]?=some x):l.take (i+1)=l.take i++[x]:=by
 rw[List.take_add_one,h];rfl
def szs(rs:List Rn):List Nat:=rs.map Rn.n
theorem Hi:∀{rs:List Rn} {s i:Nat},i<=rs.length->(s::szs rs)[i]?=some (Ya s (rs.take i))
 | _,s,0,_=>rfl
 | [],s,i+1,h=>by simp at h
 | r::rs,s,i+1,h=>by
  show (r.n::szs rs)[i]?=some (Ya r.n (rs.take i));exact Hi (by simpa using h)
def dr(c s:Nat):Rn->Nat
 | .lot n=>ch s n
 | .vote n _ .bench=>ch s n
 | .vote n _ .council=>ch c n
 | .vote _ _ .stay=>1
def drs(c:Nat):Nat->List Rn->List Nat
 | _,[]=>[]
 | s,r::rs=>dr c s r::drs c r.n rs
theorem Oo(c:Nat):∀(a:List Rn) (s:Nat) (r:Rn),drs c s (a++[r])=drs c s a++[dr c (Ya s a) r]
 | [],_,_=>rfl
 | x::a,s,r=>by
  show dr c s x::drs c x.n (a++[r])=(dr c s x::drs c x.n a)++[dr c (Ya x.n a) r];rw[Oo c a x.n r];rfl
theorem Mg(c:Nat):∀(a:List Rn) (s:Nat),(drs c s a).length=a.length
 | [],_=>rfl
 | x::a,s=>by
  show (drs c x.n a).length+1=a.length+1;rw[Mg c a]
def ab:List Nat->Nat
 | []=>1
 | x::l=>x*ab l
theorem xj:∀(l:List Nat) (x:Nat),ab (l++[x])=ab l*x
 | [],x=>by simp[ab]
 | y::l,x=>by
  show y*ab (l++[x])=y*ab l*x;rw[xj l x,Nat.mul_assoc]
theorem Dj{c s:Nat}(hc:s<=c):∀{r:Rn},Fit c s r->0<dr c s r
 | .lot n,h=>Qo h.2.2
 | .vote n q .bench,h=>Qo (h.2.2.2.2.2.1 rfl)
 | .vote n q .council,h=>Qo h.2.2.1
 | .vote n q .stay,h=>by show 0<1;decide
theorem dr_lt{c s:Nat}(h1:c<512)(h2:s<512):∀(r:Rn),dr c s r<2^512
 | .lot n=>Nat.lt_of_le_of_lt (Zb s n) (Nat.pow_lt_pow_right (by decide) h2)
 | .vote n q .bench=>Nat.lt_of_le_of_lt (Zb s n) (Nat.pow_lt_pow_right (by decide) h2)
 | .vote n q .council=>Nat.lt_of_le_of_lt (Zb c n) (Nat.pow_lt_pow_right (by decide) h1)
 | .vote n q .stay=>Nat.one_lt_two_pow (by decide)
theorem sk{b:Nat}:∀(l:List Nat),(∀x∈l,x<2^b)->ab l<2^(b*l.length+1)
 | [],_=>by show 1<2^1;decide
 | x::l,h=>by
  have h1:=sk l λy hy=>h y (List.mem_cons_of_mem _ hy);have h2:=h x List.mem_cons_self;show x*ab l<_;rw[List.length_cons,Nat.mul_add,Nat.mul_one,show b*l.length+b+1=b+(b*l.length+1) by omega,Nat.pow_add];exact Nat.mul_lt_mul'' h2 h1
theorem Wl:∀(l:List Nat),(∀x∈l,0<x)->0<ab l
 | [],_=>by decide
 | x::l,h=>Nat.mul_pos (h x List.mem_cons_self) (Wl l λy hy=>h y (List.mem_cons_of_mem _ hy))
theorem Pn{c:Nat}(P:Nat->Prop):∀{a:List Rn} {s:Nat},FitR c s a->s<=c->(∀s r,s<=c->Fit c s r->P (dr c s r))->∀x∈drs c s a,P x
 | [],_,_,_,_,x,hx=>by cases hx
 | r::a,s,h,hs,f,x,hx=>by
  rcases List.mem_cons.mp hx with rfl|hx
  . exact f s r hs h.1
  . exact Pn P (a:=a) h.2 (h.1.le hs) f x hx
theorem Qs{c s:Nat}{a:List Rn}(h:FitR c s a)(hs:s<=c):∀x∈drs c s a,0<x:=Pn (λx=>0<x) h hs λ_ _ h1 h2=>Dj h1 h2
theorem Ss{c s:Nat}{a:List Rn}(h:FitR c s a)(hs:s<=c)(hc:c<512):∀x∈drs c s a,x<2^512:=Pn (λx=>x<2^512) h hs λs r h1 _=>dr_lt hc (by omega) r
def allD(c:Nat)(rs:List Rn):Nat:=ab (drs c c rs)
theorem Rv{c:Nat}{rs:List Rn}(h:FitR c c rs):0<allD c rs:=Wl _ (Qs h (Nat.le_refl _))
end BR
namespace L2
open PySem
theorem Fr1.free{d p:Addr}{H H':Hp}(a:Fr1 d H H')(e:H' p=none)(h:p≠d):H p=none:=by
 cases q:H p with
 | none=>rfl
 | some o=>rw[a p o q h]at e;cases e
theorem Fr1.same{d:Addr}{H H1 H2:Hp}(a:Fr1 d H H1)(b:Same H1 H2):Fr1 d H H2:=λc o h n=>b c o (a c o h n)
theorem Same.tr{H H1 H2:Hp}(a:Same H H1)(b:Same H1 H2):Same H H2:=λc o h=>b c o (a c o h)
end L2
namespace BL
open PySem PySem.Spec PyProof.Rows L2 BR
structure TsAt{α:Type}(ob:α->HO)(H:Hp)(f:Addr)(ps:List Addr)(qs:List α):Prop where
 ls:H f=some (.lst (ps.map V.ref))
 it:∀i:Nat,∀p,ps[i]?=some p->∃q,qs[i]?=some q/\H p=some (ob q)
 ln:ps.length=qs.length
section
variable {α : Type} {ob : α -> HO} {H H' : Hp} {f g p : Addr} {ps : List Addr} {qs : List α}
theorem TsAt.get(F:TsAt ob H f ps qs){i:Nat}{v:V}(h:(ps.map V.ref)[i]?=some v):∃p q,v= .ref p/\ps[i]?=some p/\qs[i]?=some q/\H p=some (ob q):=by
 rw[List.getElem?_map]at h;cases e:ps[i]? with
 | none=>rw[e]at h;cases h
 | some p =>
  rw[e]at h;obtain⟨q,hq,hp⟩:=F.it i p e;exact⟨p,q,(Option.some.inj h).symm,rfl,hq,hp⟩
theorem TsAt.same(F:TsAt ob H f ps qs)(s:Same H H'):TsAt ob H' f ps qs:=⟨s _ _ F.ls,λi p h=>by obtain⟨q,a,b⟩:=F.it i p h;exact⟨q,a,s _ _ b⟩,F.ln⟩
theorem TsAt.fr1(F:TsAt ob H f ps qs){d l:Addr}(hob:∀q,∃xs,ob q= .tup xs)(D:DrL H d l)(hf:f≠d)(s:Fr1 d H H'):TsAt ob H' f ps qs :=
 ⟨s.get F.ls hf,λi p h=>by
  obtain⟨q,a,b⟩:=F.it i p h;obtain⟨⟨xs,hd⟩,_⟩:=D.some;obtain⟨ys,e⟩:=hob q;exact⟨q,a,s.get b (by rw[e]at b;exact Ik b hd Nj)⟩,F.ln⟩
theorem TsAt.push(F:TsAt ob H f ps qs){q:α}(hob:∀q,∃xs,ob q= .tup xs)(hp:H p=some (ob q)):TsAt ob (upd H f (.lst (ps.map V.ref++[.ref p]))) f (ps++[p]) (qs++[q]):=by
 have nf:∀(r:Addr) (x:α),H r=some (ob x)->r≠f:=λr x e=>by
  obtain⟨ys,z⟩:=hob x;rw[z]at e;exact Ik e F.ls Nj
 refine⟨by rw[da];simp,λi p' h=>?_,by rw[List.length_append,List.length_append,F.ln];rfl⟩;by_cases hi:i<ps.length
 . rw[List.getElem?_append_left hi]at h
   obtain⟨q',a,b⟩:=F.it i p' h;exact⟨q',by rw[List.getElem?_append_left (by rw[<-F.ln];exact hi)];exact a,by rw[va (nf _ _ b)];exact b⟩
 . rw[List.getElem?_append_right (by omega)]at h
   have e:i-ps.length=0:=by
    cases z:i-ps.length with
    | zero=>rfl
    | succ k=>rw[z]at h;simp at h
   rw[e]at h;simp at h;subst h;exact⟨q,by rw[List.getElem?_append_right (by rw[<-F.ln];omega),<-F.ln,e];rfl,by rw[va (nf _ _ hp)];exact hp⟩
theorem TsAt.cat{ps':List Addr}{qs':List α}(F:TsAt ob H f ps qs)(G:TsAt ob H g ps' qs')(h:H p=none):TsAt ob (upd H p (.lst (ps.map V.ref++ps'.map V.ref))) p (ps++ps') (qs++qs'):=by
 refine⟨by rw[da,List.map_append],λi p' h'=>?_,by rw[List.length_append,List.length_append,F.ln,G.ln]⟩;by_cases hi:i<ps.length
 . rw[List.getElem?_append_left hi]at h'
   obtain⟨q,a,b⟩:=F.it i p' h';exact⟨q,by rw[List.getElem?_append_left (by rw[<-F.ln];exact hi)];exact a,by rw[va (ba b h)];exact b⟩
 . rw[List.getElem?_append_right (by omega)]at h'
   obtain⟨q,a,b⟩:=G.it _ p' h';exact⟨q,by rw[List.getElem?_append_right (by rw[<-F.ln];omega),<-F.ln];exact a,by rw[va (ba b h)];exact b⟩
end
def wdS:Wd->Str
 | .council=>"council"
 | .bench=>"bench"
 | .stay=>"stay"
def rnO:Rn->HO
 | .lot n=>.tup [.str "lot",.int n]
 | .vote n q w=>.tup [.str "vote",.int n,.int q,.str (wdS w)]
theorem Fe:∀q:Rn,∃xs,rnO q= .tup xs
 | .lot _=>⟨_,rfl⟩
 | .vote _ _ _=>⟨_,rfl⟩
theorem rn_n:∀r:Rn,∃xs,rnO r= .tup xs/\atI xs 1=some (.int (r.n:Nat))
 | .lot _=>⟨_,rfl,rfl⟩
 | .vote _ _ _=>⟨_,rfl,rfl⟩
theorem isD_v{K:PySem.W.Frag}{H:Hp}{x:V}(h:Ac x=true):IsD K H (.v x) x:=by unfold IsD;exact⟨h,rfl⟩
theorem tm{K:PySem.W.Frag}{H:Hp}{d:D}{ds:List D}{x:V}{xs:List V}(h:IsD K H d x)(h2:IsDs K H ds xs):IsDs K H (d::ds) (x::xs):=by unfold IsDs;exact⟨_,_,rfl,h,h2⟩
theorem Io{K:PySem.W.Frag}{H:Hp}:IsDs K H [] []:=by unfold IsDs;rfl
abbrev RwAt(H:Hp)(a:Addr)(ps:List Addr)(rs:List Rn):Prop:=TsAt rnO H a ps rs
def gp:Sp:=λvs H Q _=>∃(c s n q:Nat) (w:Wd),vs=[.int c,.int s,.int n,.int q,.str (wdS w)]/\Fit c s (.vote n q w)/\Q (.bl true) H
def spFits:Sp:=λvs H Q _=>∃(c s:Nat) (p:Addr) (r:Rn),vs=[.int c,.int s,.ref p]/\H p=some (rnO r)/\Fit c s r/\Q (.bl true) H
structure CR(H:Hp)(a:Addr)(ps:List Addr)(c:Nat)(rs:List Rn):Prop where
 rw:RwAt H a ps rs
 c1:1<=c
 c2:c<=500
 ft:FitR c c rs
 ln:rs.length<=100
theorem CR.same{H H':Hp}{a:Addr}{ps:List Addr}{c:Nat}{rs:List Rn}(R:CR H a ps c rs)(s:Same H H'):CR H' a ps c rs:=⟨R.rw.same s,R.c1,R.c2,R.ft,R.ln⟩
def Rg:Sp:=λvs H Q _=>∃(c s:Nat) (p:Addr) (r:Rn),vs=[.int c,.int s,.ref p]/\H p=some (rnO r)/\c<512/\s<512/\Q (.int (dr c s r:Nat)) H
theorem Ni{c s:Nat}{p:Addr}{r:Rn}{H:Hp}{Q:VK}{E:XK}(h1:H p=some (rnO r))(h2:c<512)(h3:s<512)(q:Q (.int (dr c s r:Nat)) H):Rg [.int c,.int s,.ref p] H Q E:=⟨c,s,p,r,rfl,h1,h2,h3,q⟩
def ip:Sp:=λvs H Q _=>∃(c:Nat) (a:Addr) (ps:List Addr) (rs:List Rn),vs=[.int c,.ref a]/\CR H a ps c rs/\∀(p:Addr) (H':Hp),H p=none->Same H H'->H' p=some (lstN (drs c c rs))->Q (.ref p) H'
def zx:Sp:=λvs H Q _=>∃(c:Nat) (a:Addr) (ps:List Addr) (rs:List Rn),vs=[.int c,.ref a]/\CR H a ps c rs/\∀(H':Hp),Same H H'->Q (.int (allD c rs:Nat)) H'
def spStep:Sp:=λvs H Q _=>∃(d l:Addr) (c s m:Nat),vs=[.ref d,.int c,.int s,.int m]/\DrL H d l/\1<=s/\s<=c/\c<=500/\1<=m/\m<=60/\∀(p:Addr) (H':Hp) (r:Rn),Fit c s r->DrL H' d l->Fr1 d H H'->H' p=some (rnO r)->Q (.ref p) H'
def spLast:Sp:=λvs H Q _=>∃(d l:Addr) (c s:Nat),vs=[.ref d,.int s]/\DrL H d l/\1<=s/\s<=c/\c<=500/\∀(p:Addr) (H':Hp) (ps:List Addr) (rs:List Rn),FitR c s rs->Ya s rs=1->rs.length<=1->DrL H' d l->Fr1 d H H'->H p=none->RwAt H' p ps rs->Q (.ref p) H'
def qj:Sp:=λvs H Q _=>∃(d l:Addr) (c k m:Nat),vs=[.ref d,.int c,.int k,.int m]/\DrL H d l/\1<=c/\c<=500/\k<=50/\1<=m/\m<=60/\∀(a:Addr) (H':Hp) (ps:List Addr) (rs:List Rn),CR H' a ps c rs->rs.length<=k+1->Ya c rs=1->DrL H' d l->Fr1 d H H'->H a=none->Q (.ref a) H'
theorem Hl{d l:Addr}{c k m:Nat}{H:Hp}{Q:VK}{E:XK}(D:DrL H d l)(h1:1<=c)(h3:c<=500)(h4:k<=50)(h5:1<=m)(h6:m<=60)(q:∀(a:Addr) (H':Hp) (ps:List Addr) (rs:List Rn),CR H' a ps c rs->rs.length<=k+1->Ya c rs=1->DrL H' d l->Fr1 d H H'->H a=none->Q (.ref a) H'):qj [.ref d,.int c,.int k,.int m] H Q E:=⟨d,l,c,k,m,rfl,D,h1,h3,h4,h5,h6,q⟩
end BL
namespace BR
open MB
def mr(n:Nat)(f:Nat->Nat):List Nat:=(List.range (n+1)).map f
def one(n k v:Nat):List Nat:=mr n λj=>if j=k then v else 0
def lotN(b on n:Nat):List Nat:=mr n λk=>ch on k*ch (b-on) (n-k)
def left(c f b on n q:Nat):Nat:=if q<=on then min f n else if q<=b-on then n-min (c-f) n else on
def bh(c f b on:Nat):Rn->List Nat
 | .lot n=>lotN b on n
 | .vote n q w=>if q<=on then one n (min f n) (dr c b (.vote n q w)) else if q<=b-on then one n (n-min (c-f) n) (dr c b (.vote n q w)) else
  match w with
  | .council=>lotN c f n
  | .bench=>lotN b on n
  | .stay=>one n on 1
end BR
namespace BL
open PySem PySem.Spec PyProof.Rows L2 BR
theorem cf{l:List Nat}{i:Nat}{v:V}(h:((zs l).map V.int)[i]?=some v):∃x:Nat,l[i]?=some x/\v= .int (x:Int):=by
 unfold zs at h;rw[List.getElem?_map,List.getElem?_map]at h;cases w:l[i]? with
 | none=>rw[w]at h;cases h
 | some x=>rw[w]at h;exact⟨x,rfl,(Option.some.inj h).symm⟩
def NewL(H:Hp)(Q:VK)(l:List Nat):Prop:=∀(p:Addr) (H':Hp),H p=none->Same H H'->H' p=some (lstN l)->Q (.ref p) H'
def Oi(b on q:Nat):Str:=if q<=on then "friends" else if q<=b-on then "foes" else "hung"
def spSide:Sp:=λvs H Q _=>∃b on q:Nat,vs=[.int b,.int on,.int q]/\on<=b/\Q (.str (Oi b on q)) H
end BL
namespace BR
open MB
def sm:Nat->(Nat->Nat)->Nat
 | 0,_=>0
 | k+1,g=>sm k g+g k
theorem getD_some{l:List Nat}{i x:Nat}(h:l[i]?=some x):l.getD i 0=x:=by rw[List.getD_eq_getElem?_getD,h];rfl
def rT(c f b:Nat)(h:List Nat)(r:Rn)(i t:Nat):Nat:=sm i λon=>h.getD on 0*(bh c f b on r).getD t 0
def ron(c f b:Nat)(h:List Nat)(r:Rn):List Nat:=mr r.n λt=>rT c f b h r (b+1) t
def rds(c f:Nat):Nat->List Nat->List Rn->List (List Nat)
 | _,_,[]=>[]
 | b,h,r::rs=>ron c f b h r::rds c f r.n (ron c f b h r) rs
def road(c f:Nat)(rs:List Rn):List (List Nat):=rds c f c (one c f 1) rs
end BR
namespace L2
open PySem
end L2
namespace BR
end BR
namespace BL
open PySem PySem.Spec PyProof.Rows L2 BR
theorem Fq{α:Type}:∀{l:List α},l≠[]->∃l' y,l=l'++[y]
 | [],h=>absurd rfl h
 | [x],_=>⟨[],x,rfl⟩
 | x::y::l,_=>by
  obtain⟨l',z,e⟩:=Fq (l:=y::l) (λh=>by cases h);exact⟨x::l',z,by rw[e];rfl⟩
theorem Bt{l:List Nat}{k x:Nat}(h:l[k]?=some x)(hl:l.length=k+1):atI ((zs l).map V.int) (-1)=some (.int (x:Int)):=by
 have:l≠[]:=by rintro rfl;simp at hl
 obtain⟨l',y,rfl⟩:∃l' y,l=l'++[y]:=Fq this;have e:l'.length=k:=by rw[List.length_append]at hl;simpa using hl
 subst e;rw[List.getElem?_append_right (Nat.le_refl _),Nat.sub_self]at h;have:y=x:=by simpa using h
 subst this;rw[<-lst_snoc];exact Ah _ _
end BL
namespace BR
open MB
end BR
namespace BL
open PySem PySem.Spec PyProof.Rows L2 BR
end BL
namespace BR
open MB
end BR
namespace BL
open PySem PySem.Spec PyProof.Rows L2 BR
end BL
namespace BR
open MB
end BR
namespace L2
open PySem
end L2
namespace BL
open PySem PySem.Spec PyProof.Rows L2 BR
end BL
namespace L2
open PySem PySem.Spec PyProof.Rows
end L2
namespace BL
open PySem PySem.Spec PyProof.Rows L2 BR
end BL
namespace BR
open MB
def bt(x i:Nat):Nat:=x/2^i%2
def chosen(b x:Nat):List Nat:=(List.range b).filter λi=>decide (bt x i=1)
end BR
namespace BL
open PySem PySem.Spec PyProof.Rows L2 BR
end BL
namespace BR
open MB
def pkL:List Nat->Nat->Nat->List Nat
 | [],_,_=>[]
 | _::_,0,_=>[]
 | a::l,n+1,x=>if x<ch l.length n then a::pkL l n x else pkL l (n+1) (x-ch l.length n)
theorem Ku(a:Nat)(l:List Nat)(n x:Nat):pkL (a::l) (n+1) x=if x<ch l.length n then a::pkL l n x else pkL l (n+1) (x-ch l.length n):=rfl
theorem Xm(g:Nat->Nat):∀(l:List Nat) (n x:Nat),pkL (l.map g) n x=(pkL l n x).map g
 | [],_,_=>rfl
 | _::_,0,_=>rfl
 | a::l,n+1,x=>by
  show (if x<ch (l.map g).length n then g a::pkL (l.map g) n x else pkL (l.map g) (n+1) (x-ch (l.map g).length n))=(if x<ch l.length n then a::pkL l n x else pkL l (n+1) (x-ch l.length n)).map g;rw[List.length_map,Xm g l n x,Xm g l (n+1) (x-ch l.length n)];split<;>rfl
theorem Dg:∀(l:List Nat) (n x:Nat),n<=l.length->x<ch l.length n->(pkL l n x).length=n
 | [],n,_,h,_=>by
  have:n=0:=by simpa using h
  subst this;rfl
 | _::_,0,_,_,_=>rfl
 | a :: l, n + 1, x, h, hx => by
  have hx':x<ch l.length n+ch l.length (n+1):=hx;have h':n<=l.length:=by simpa using h
  unfold pkL;split
  . next z=>rw[List.length_cons,Dg l n x h' z]
  . next z =>
    have hn:n+1<=l.length:=by
     rcases Nat.lt_or_ge n l.length with y|y
     . exact y
     . exfalso
       have:ch l.length (n+1)=0:=Vk (by omega);omega
    exact Dg l (n+1) _ hn (by omega)
theorem He:∀(l:List Nat) (n x:Nat),(pkL l n x).Sublist l
 | [],_,_=>List.Sublist.refl _
 | _::_,0,_=>List.nil_sublist _
 | a::l,n+1,x=>by
  unfold pkL;split
  . exact(He l n x).cons₂ a
  . exact(He l (n+1) _).cons a
def fr(F:Nat->Bool)(l:List Nat):Nat:=l.countP F
theorem fr_le(F:Nat->Bool)(l:List Nat):fr F l<=l.length:=List.countP_le_length
def seat(c:Nat)(F:Nat->Bool)(n:Nat)(t:Bool):List Nat :=
 (List.range c).filter λa=>decide (a∈(((List.range c).filter λa=>F a==t)++((List.range c).filter λa=> !(F a==t))).take n)
theorem Ll(c:Nat)(F:Nat->Bool)(n:Nat)(t:Bool):(seat c F n t).Perm ((((List.range c).filter λa=>F a==t)++((List.range c).filter λa=> !(F a==t))).take n):=by
 have nd:(((List.range c).filter λa=>F a==t)++((List.range c).filter λa=> !(F a==t))).Nodup:=by
  rw[List.nodup_append];refine⟨List.nodup_range.sublist List.filter_sublist,List.nodup_range.sublist List.filter_sublist,λa ha b hb e=>?_⟩;subst e;have h1:=(List.mem_filter.mp ha).2;have h2:=(List.mem_filter.mp hb).2;rw[h1]at h2;cases h2
 refine(List.perm_ext_iff_of_nodup (List.nodup_range.sublist List.filter_sublist) (nd.sublist (List.take_sublist _ _))).2 λa=>?_;show a∈List.filter _ _↔_;rw[List.mem_filter];constructor
 . intro h;exact of_decide_eq_true h.2
 . intro h
   refine⟨?_,decide_eq_true h⟩;have:=(List.take_sublist _ _).subset h;rcases List.mem_append.mp this with y|y
   . exact(List.mem_filter.mp y).1
   . exact(List.mem_filter.mp y).1
theorem Cj(p:Nat->Bool):∀l:List Nat,(l.filter p).length+(l.filter λa=> !p a).length=l.length
 | []=>rfl
 | a::l=>by
  have:=Cj p l;cases h:p a with
  | true=>rw[List.filter_cons_of_pos h,List.filter_cons_of_neg (by simp[h]),List.length_cons,List.length_cons];omega
  | false=>rw[List.filter_cons_of_neg (by simp[h]),List.filter_cons_of_pos (by simp[h]),List.length_cons,List.length_cons];omega
theorem wo{c n:Nat}(F:Nat->Bool)(t:Bool)(hn:n<=c):(seat c F n t).length=n:=by
 rw[(Ll c F n t).length_eq,List.length_take,List.length_append];have h2:=Cj (λa=>F a==t) (List.range c);rw[List.length_range]at h2;omega
def hang(c:Nat)(l:List Nat)(n x:Nat):Wd->List Nat
 | .council=>pkL (List.range c) n x
 | .bench=>pkL l n x
 | .stay=>l
def pl(c:Nat)(F:Nat->Bool)(l:List Nat):Rn->Nat->List Nat
 | .lot n,x=>pkL l n x
 | .vote n q w,x=>if q<=fr F l then seat c F n true else if q<=l.length-fr F l then seat c F n false else hang c l n x w
theorem Xl{c:Nat}{F:Nat->Bool}{l:List Nat}{x:Nat}:∀{r:Rn},Fit c l.length r->x<dr c l.length r->(pl c F l r x).length=r.n
 | .lot n,h,hx=>Dg l n x h.2.2 hx
 | .vote n q w,h,hx=>by
  obtain⟨h1,h2,h3,h4,h5,h6,h7⟩:=h;show (if q<=fr F l then seat c F n true else if q<=l.length-fr F l then seat c F n false else hang c l n x w).length=n;split
  . exact wo F true h3
  . split
    . exact wo F false h3
    . cases w with
      | council =>
       have:=Dg (List.range c) n x (by rw[List.length_range];exact h3) (by rw[List.length_range];exact hx);exact this
      | bench=>exact Dg l n x (h6 rfl) hx
      | stay=>exact(h7 rfl).symm
def plA(c:Nat)(F:Nat->Bool):List Nat->List Rn->Nat->List (List Nat)
 | _,[],_=>[]
 | l,r::rs,N=>pl c F l r (N/ab (drs c r.n rs)%dr c l.length r)::plA c F (pl c F l r (N/ab (drs c r.n rs)%dr c l.length r)) rs N
def sf(l:List Nat)(ls:List (List Nat)):List Nat:=ls.getLastD l
theorem zj(l m:List Nat)(ls:List (List Nat)):sf l (m::ls)=sf m ls:=by
 unfold sf;cases ls with
 | nil=>rfl
 | cons a b=>rfl
end BR
namespace BR
open MB
def lj:List Nat->Nat->List Nat
 | [],_=>[]
 | m::l,n=>n/ab l%m::lj l n
theorem zi:∀(l:List Nat) (n:Nat),(lj l n).length=l.length
 | [],_=>rfl
 | m::l,n=>by show (lj l n).length+1=_;rw[zi l n];rfl
theorem wm:∀{l:List Nat} {n k m:Nat},l[k]?=some m->(lj l n)[k]?=some (n/ab (l.drop (k+1))%m)
 | [],_,_,_,h=>by simp at h
 | x::l,n,0,m,h=>by
  have:x=m:=by simpa using h
  subst this;rfl
 | x::l,n,k+1,m,h=>by
  show (lj l n)[k]?=_;exact wm (by simpa using h)
theorem Ts{c:Nat}:∀{rs:List Rn} {s i m:Nat} {r:Rn},rs[i]?=some r->(drs c s rs)[i]?=some m->m=dr c (Ya s (rs.take i)) r
 | [],_,_,_,_,h,_=>by simp at h
 | r'::rs,s,0,m,r,h,h2=>by
  have e1:r'=r:=by simpa using h
  have e2:dr c s r'=m:=Option.some.inj h2;subst e1;exact e2.symm
 | r'::rs,s,i+1,m,r,h,h2=>Ts (s:=r'.n) (show rs[i]?=some r by simpa using h) (show (drs c r'.n rs)[i]?=some m from h2)
theorem Us{l:List Nat}{j m:Nat}(n:Nat)(h:l[j]?=some m):n/ab (l.drop j)=n/ab (l.drop (j+1))/m:=by
 have hi:j<l.length:=(List.getElem?_eq_some_iff.mp h).1;rw[List.drop_eq_getElem_cons hi];rw[List.getElem?_eq_getElem hi]at h;rw[Option.some.inj h];show n/(m*ab (l.drop (j+1)))=_;rw[Nat.mul_comm,Nat.div_div_eq_div_mul]
theorem Cg{c:Nat}{F:Nat->Bool}:∀(rs:List Rn) (l:List Nat) (N:Nat),(plA c F l rs N).length=rs.length
 | [],_,_=>rfl
 | r::rs,l,N=>by show (plA c F _ rs N).length+1=rs.length+1;rw[Cg rs]
def plB(c:Nat)(F:Nat->Bool)(l:List Nat)(rs:List Rn)(N i:Nat):List Nat:=sf l ((plA c F l rs N).take i)
theorem uk{c:Nat}{F:Nat->Bool}:∀{rs:List Rn} {l:List Nat} {N i b:Nat} {r:Rn},l.length=b->FitR c b rs->b<=c->rs[i]?=some r ->
 (plA c F l rs N)[i]?=some (pl c F (plB c F l rs N i) r (N/ab ((drs c b rs).drop (i+1))%dr c (Ya b (rs.take i)) r))/\(plB c F l rs N i).length=Ya b (rs.take i)
 | [],_,_,_,_,_,_,_,_,h=>by simp at h
 | r'::rs,l,N,0,b,r,hl,ft,hb,h=>by
  have:r'=r:=by simpa using h
  subst this;subst hl;exact⟨rfl,rfl⟩
 | r'::rs,l,N,i+1,b,r,hl,ft,hb,h=>by
  subst hl;have m0:=Dj hb ft.1;have ih:=uk (F:=F) (N:=N) (i:=i) (Xl (F:=F) ft.1 (Nat.mod_lt (N/ab (drs c r'.n rs)) m0)) ft.2 (ft.1.le hb) (show rs[i]?=some r by simpa using h);have e:plB c F l (r'::rs) N (i+1)=plB c F (pl c F l r' (N/ab (drs c r'.n rs)%dr c l.length r')) rs N i:=zj _ _ _;rw[e];exact ih
theorem Bo{c:Nat}{F:Nat->Bool}{l:List Nat}{rs:List Rn}{N i:Nat}{m:List Nat}(h:(plA c F l rs N)[i]?=some m):plB c F l rs N (i+1)=m:=by
 unfold plB sf;rw[Ka h];simp
section
variable {c n q x : Nat} {F : Nat -> Bool} {l : List Nat} {w : Wd}
theorem pl_c(h:¬q<=fr F l)(h2:¬q<=l.length-fr F l):pl c F l (.vote n q .council) x=pkL (List.range c) n x:=(if_neg h).trans (if_neg h2)
theorem pl_b(h:¬q<=fr F l)(h2:¬q<=l.length-fr F l):pl c F l (.vote n q .bench) x=pkL l n x:=(if_neg h).trans (if_neg h2)
end
theorem wk{c:Nat}{F:Nat->Bool}:∀(rs:List Rn) (l:List Nat) (N b:Nat),l.length=b->FitR c b rs->b<=c->(sf l (plA c F l rs N)).length=Ya b rs
 | [],l,_,b,hl,_,_=>hl
 | r::rs,l,N,b,hl,ft,hb=>by
  subst hl;have m0:=Dj hb ft.1;show (sf l (pl c F l r (N/ab (drs c r.n rs)%dr c l.length r)::plA c F (pl c F l r (N/ab (drs c r.n rs)%dr c l.length r)) rs N)).length=Ya r.n rs;rw[zj];exact wk rs _ N r.n (Xl ft.1 (Nat.mod_lt _ m0)) ft.2 (ft.1.le hb)
theorem Ju(l:List Nat)(n x:Nat):(pkL (List.range l.length) n x).map (λi=>l.getD i 0)=pkL l n x:=by
 rw[<-Xm];congr 1
 apply List.ext_getElem?;intro i;rw[List.getElem?_map];by_cases h:i<l.length
 . rw[List.getElem?_range h,List.getElem?_eq_getElem h]
   show some (l.getD i 0)=_;rw[List.getD_eq_getElem?_getD,List.getElem?_eq_getElem h];rfl
 . rw[List.getElem?_eq_none (by rw[List.length_range];omega),List.getElem?_eq_none (by omega)]
   rfl
end BR
namespace BL
open PySem PySem.Spec PyProof.Rows L2 BR
theorem inV_zs(fs:List Nat)(x:Nat):inV (.int (x:Int)) ((zs fs).map V.int)=decide (x∈fs):=by
 induction fs with
 | nil=>simp[inV,zs]
 | cons a l ih =>
  have e:inV (.int (x:Int)) ((zs (a::l)).map V.int)=(((a:Int)==(x:Int))||inV (.int (x:Int)) ((zs l).map V.int)):=rfl;rw[e,ih];by_cases h:x=a
  . subst h;simp
  . have:((a:Int)==(x:Int))=false:=by simpa using λy=>h (by omega)
    rw[this,Bool.false_or,decide_eq_decide];simp[h]
theorem TsAt.cons'{α:Type}{ob:α->HO}{H:Hp}{f g p:Addr}{ps:List Addr}{qs:List α}{q:α}(F:TsAt ob H f ps qs)(hg:H g=some (.lst ([.ref p]++ps.map V.ref)))(hp:H p=some (ob q)):TsAt ob H g (p::ps) (q::qs):=by
 refine⟨hg,λi r h=>?_,by simp[F.ln]⟩
 match i,h with
 | 0,h =>
  have e:p=r:=Option.some.inj h;subst e;exact⟨q,rfl,hp⟩
 | i+1,h=>exact F.it i r h
theorem CR.fr1{H H':Hp}{a d l:Addr}{ps:List Addr}{c:Nat}{rs:List Rn}(R:CR H a ps c rs)(D:DrL H d l)(ha:a≠d)(s:Fr1 d H H'):CR H' a ps c rs:=⟨R.rw.fr1 Fe D ha s,R.c1,R.c2,R.ft,R.ln⟩
theorem Sw(n:Nat):L2.upTo n=zs (List.range n):=rfl
end BL
namespace BL
open PySem PySem.Spec PyProof.Rows L2 BR
structure Nam(g:Nat->V)(c:Nat):Prop where
 flat:∀i,Ac (g i)=true
 eq:∀i j,i<c->j<c->eqV (g i) (g j)=decide (i=j)
def lstG(g:Nat->V)(l:List Nat):HO:=.lst (l.map g)
theorem Ko{g:Nat->V}{c:Nat}(N:Nam g c)(l:List Nat):(l.map g).all Ac=true:=by
 rw[List.all_map];exact List.all_eq_true.2 λa _=>N.flat a
theorem gz{g:Nat->V}{c:Nat}(N:Nam g c){x:Nat}(hx:x<c):∀{l:List Nat},(∀a∈l,a<c)->inV (g x) (l.map g)=decide (x∈l)
 | [],_=>by simp[inV]
 | a::l,h=>by
  have e:inV (g x) ((a::l).map g)=(eqV (g a) (g x)||inV (g x) (l.map g)):=rfl;rw[e,gz N hx λb hb=>h b (List.mem_cons_of_mem _ hb),N.eq a x (h a (List.mem_cons_self ..)) hx];by_cases z:x=a
  . subst z;simp
  . rw[decide_eq_false (λy=>z y.symm),Bool.false_or,decide_eq_decide]
    simp[z]
theorem r_inV{K:PySem.W.Frag}{H:Hp}{Q:VK}{p:Addr}{x:V}{fv:List V}(hx:Ac x=true)(hf:fv.all Ac=true)(h:H p=some (.lst fv))(q:Q (.bl (inV x fv)) H):rIn K false x (.ref p) H Q:=by
 refine⟨p,_,rfl,.inl (SqL.of h),hx,hf,?_⟩;rw[if_neg (by decide)];exact q
theorem getG{g:Nat->V}{l:List Nat}{i:Nat}{v:V}(h:(l.map g)[i]?=some v):∃a,l[i]?=some a/\v=g a:=by
 rw[List.getElem?_map]at h;cases w:l[i]? with
 | none=>rw[w]at h;cases h
 | some a=>rw[w]at h;exact⟨a,rfl,(Option.some.inj h).symm⟩
theorem snocG(g:Nat->V)(l:List Nat)(x:Nat):l.map g++[g x]=(l++[x]).map g:=by rw[List.map_append];rfl
theorem atG{g:Nat->V}{l:List Nat}{i x:Nat}(h:l[i]?=some x):atI (l.map g) (i:Int)=some (g x):=kc (by rw[List.getElem?_map,h];rfl)
theorem Dy{c:Nat}{F:Nat->Bool}{l:List Nat}{x:Nat}(hl:∀a∈l,a<c):∀{r:Rn},∀a∈pl c F l r x,a<c
 | .lot n,a,h=>hl a ((He l n x).subset h)
 | .vote n q w,a,h=>by
  have h':a∈(if q<=fr F l then seat c F n true else if q<=l.length-fr F l then seat c F n false else hang c l n x w):=h;have hs:∀t,a∈seat c F n t->a<c:=λt y=>List.mem_range.mp ((List.filter_sublist (p:=_) (l:=List.range c)).subset y);split at h'
  . exact hs _ h'
  . split at h'
    . exact hs _ h'
    . cases w with
      | council=>exact List.mem_range.mp ((He (List.range c) n x).subset h')
      | bench=>exact hl a ((He l n x).subset h')
      | stay=>exact hl a h'
theorem Co{c:Nat}{F:Nat->Bool}:∀(rs:List Rn) (l:List Nat) (N:Nat),(∀a∈l,a<c)->∀m∈plA c F l rs N,∀a∈m,a<c
 | [],_,_,_,m,hm,_,_=>by simp[plA]at hm
 | r::rs,l,N,hl,m,hm,a,ha=>by
  have hm':m=pl c F l r (N/ab (drs c r.n rs)%dr c l.length r)\/m∈plA c F (pl c F l r (N/ab (drs c r.n rs)%dr c l.length r)) rs N:=List.mem_cons.mp hm;rcases hm' with y|y
  . subst y;exact Dy hl a ha
  . exact Co rs _ N (λb hb=>Dy hl b hb) m y a ha
theorem plB_lt{c:Nat}{F:Nat->Bool}{rs:List Rn}{l:List Nat}{N i:Nat}(hl:∀a∈l,a<c):∀a∈plB c F l rs N i,a<c:=by
 intro a ha;unfold plB sf at ha;rcases List.eq_nil_or_concat ((plA c F l rs N).take i) with z|⟨ls,y,z⟩
 . rw[z]at ha;exact hl a ha
 . rw[z,List.concat_eq_append]at ha
   simp at ha;have:y∈plA c F l rs N:=(List.take_sublist i _).subset (by rw[z,List.concat_eq_append];simp);exact Co rs l N hl y this a ha
end BL
namespace BR
open MB
theorem Ar:∀(m p r:Nat),pk m p 0 r=[]
 | 0,_,_=>rfl
 | m+1,p,r=>by
  show (if r<hv (m+1) 0 then p::pk m (p+1) (0-1) r else pk m (p+1) 0 (r-hv (m+1) 0))=[];rw[Pk,if_neg (by omega)];exact Ar m (p+1) _
theorem xr:∀(m p n x:Nat),pk m p n x=pkL (List.range' p m) n x
 | 0,_,_,_=>rfl
 | m+1,p,0,x=>by rw[Ar];rfl
 | m+1,p,n+1,x=>by
  rw[List.range'_succ,Ku,List.length_range'];show (if x<hv (m+1) (n+1) then p::pk m (p+1) (n+1-1) x else pk m (p+1) (n+1) (x-hv (m+1) (n+1)))=_;rw[jz,Nat.add_sub_cancel,xr m (p+1) n x,xr m (p+1) (n+1) (x-ch m n)]
theorem Iu(m n x:Nat):pk m 0 n x=pkL (List.range m) n x:=by rw[xr,List.range_eq_range']
theorem Gh:∀{a b:List Int},a.Perm b->a.Pairwise (·<=·)->b.Pairwise (·<=·)->a=b
 | [],b,p,_,_=>p.nil_eq
 | x::a,[],p,_,_=>absurd p.length_eq (by simp)
 | x :: a, y :: b, p, h1, h2 => by
  have e:x=y:=by
   have m1:x∈y::b:=p.mem_iff.mp (List.mem_cons_self ..);have m2:y∈x::a:=p.mem_iff.mpr (List.mem_cons_self ..);have l1:y<=x:=by
    rcases List.mem_cons.mp m1 with z|z
    . omega
    . exact(List.pairwise_cons.mp h2).1 x z
   have l2:x<=y:=by
    rcases List.mem_cons.mp m2 with z|z
    . omega
    . exact(List.pairwise_cons.mp h1).1 y z
   omega
  subst e;rw[Gh (p.cons_inv) (List.pairwise_cons.mp h1).2 (List.pairwise_cons.mp h2).2]
theorem ou(n:Nat):((List.range n).map λx:Nat=>(x:Int)).Pairwise (·<=·):=by
 rw[List.pairwise_map];exact List.pairwise_lt_range.imp λh=>by omega
end BR
namespace BL
open PySem PySem.Spec PyProof.Rows L2 BR
theorem Nm{c n:Nat}{F:Nat->Bool}{t:Bool}{ms:List Int}(p:ms.Perm (zs ((((List.range c).filter λa=>F a==t)++((List.range c).filter λa=> !(F a==t))).take n)))(h:ms.Pairwise (·<=·)):ms=zs (seat c F n t):=by
 refine Gh (p.trans ?_) h ?_
 . exact((Ll c F n t).map _).symm
 . have:((seat c F n t).map λx:Nat=>(x:Int)).Sublist ((List.range c).map λx:Nat=>(x:Int)):=List.Sublist.map _ List.filter_sublist
   exact(ou c).sublist this
def mks(F:Nat->Bool)(c:Nat):HO:=.lst ((List.range c).map λa=>V.bl (F a))
def ox:Sp:=λvs H Q _=>∃(g:Nat->V) (fo fr':Addr) (c:Nat) (fv:List V),vs=[.ref fo,.ref fr']/\Nam g c/\c<512/\H fo=some (lstG g (List.range c))/\H fr'=some (.lst fv)/\fv.all Ac=true/\∀(m:Addr) (H':Hp),H m=none->Same H H'->H' m=some (mks (λa=>inV (g a) fv) c)->Q (.ref m) H'
def und(c:Nat)(F:Nat->Bool)(l:List Nat):Rn->Option (List Nat)
 | .lot _=>none
 | .vote n q w=>if q<=BR.fr F l then some (seat c F n true) else if q<=l.length-BR.fr F l then some (seat c F n false) else if w= .stay then some l else none
structure BM(H:Hp)(m b p:Addr)(c:Nat)(F:Nat->Bool)(l:List Nat)(r:Rn):Prop where
 ma:H m=some (mks F c)
 bn:H b=some (lstN l)
 st:H p=some (rnO r)
 lt:∀a∈l,a<c
 ll:l.length<=c
 cc:c<512
 ft:Fit c l.length r
theorem BM.same{H H':Hp}{m b p:Addr}{c:Nat}{F:Nat->Bool}{l:List Nat}{r:Rn}(h:BM H m b p c F l r)(s:Same H H'):BM H' m b p c F l r:=⟨s _ _ h.ma,s _ _ h.bn,s _ _ h.st,h.lt,h.ll,h.cc,h.ft⟩
def pool(c:Nat)(l:List Nat):Rn->List Nat
 | .vote _ _ .council=>List.range c
 | _=>l
def spBBeh:Sp:=λvs H Q _=>∃(m b p:Addr) (c:Nat) (F:Nat->Bool) (l:List Nat) (r:Rn) (x:Nat),vs=[.ref m,.ref b,.ref p,.int x]/\BM H m b p c F l r/\x<dr c l.length r/\NewL H Q (pl c F l r x)
theorem sr{c:Nat}{F:Nat->Bool}{l:List Nat}{x:Nat}:∀{r:Rn} {z:List Nat},und c F l r=some z->pl c F l r x=z
 | .lot _,_,h=>by cases h
 | .vote n q w,z,h=>by
  have h':(if q<=BR.fr F l then some (seat c F n true) else if q<=l.length-BR.fr F l then some (seat c F n false) else if w= .stay then some l else none)=some z:=h;show (if q<=BR.fr F l then seat c F n true else if q<=l.length-BR.fr F l then seat c F n false else hang c l n x w)=z;split at h'
  . next y=>rw[if_pos y];exact Option.some.inj h'
  . next y =>
    rw[if_neg y];split at h'
    . next y2=>rw[if_pos y2];exact Option.some.inj h'
    . next y2 =>
      rw[if_neg y2];split at h'
      . next y3=>subst y3;exact Option.some.inj h'
      . cases h'
theorem Wm{c : Nat}{F : Nat -> Bool}{l : List Nat}{x : Nat} : ∀ {r : Rn}, und c F l r = none -> pl c F l r x = pkL (pool c l r) r.n x /\ dr c l.length r = MB.ch (pool c l r).length r.n
 | .lot n,_=>⟨rfl,rfl⟩
 | .vote n q w,h=>by
  have h':(if q<=BR.fr F l then some (seat c F n true) else if q<=l.length-BR.fr F l then some (seat c F n false) else if w= .stay then some l else none)=none:=h;split at h'
  . cases h'
  . next y =>
    split at h'
    . cases h'
    . next y2 =>
      split at h'
      . cases h'
      . next y3 =>
        cases w with
        | council=>exact⟨pl_c y y2,by show MB.ch c n=MB.ch (List.range c).length n;rw[List.length_range]⟩
        | bench=>exact⟨pl_b y y2,rfl⟩
        | stay=>exact absurd rfl y3
theorem Hu{c:Nat}{l:List Nat}(hl:l.length<=c):∀r:Rn,(pool c l r).length<=c
 | .lot _=>hl
 | .vote _ _ .council=>by show (List.range c).length<=c;rw[List.length_range];exact Nat.le_refl _
 | .vote _ _ .bench=>hl
 | .vote _ _ .stay=>hl
def jx:Sp:=λvs H Q _=>∃(c:Nat) (a:Addr) (ps:List Addr) (rs:List Rn) (N:Nat),vs=[.int c,.ref a,.int N]/\CR H a ps c rs/\N<allD c rs/\NewL H Q (lj (drs c c rs) N)
def spBenN:Sp:=λvs H Q _=>∃(g:Nat->V) (fo fr' a:Addr) (c:Nat) (fv:List V) (ps:List Addr) (rs:List Rn) (N:Nat),vs=[.ref fo,.ref fr',.ref a,.int N]/\Nam g c/\H fo=some (lstG g (List.range c))/\H fr'=some (.lst fv)/\fv.all Ac=true/\CR H a ps c rs/\Ya c rs=1/\N<allD c rs /\
 ∀(p:Addr) (H':Hp) (qs:List Addr),H p=none->Same H H'->TsAt (lstG g) H' p qs (plA c (λa=>inV (g a) fv) (List.range c) rs N)->(∀z∈qs,H z=none/\z≠p)->qs.Nodup->Q (.ref p) H'
theorem TsAt.lastG{g : Nat -> V}{H : Hp}{f a : Addr}{x : List Nat}{qs : List Addr}{ls : List (List Nat)}(F : TsAt (lstG g) H f (a :: qs) (x :: ls)) : ∃ p, atI ((a :: qs).map V.ref) (-1) = some (.ref p) /\ H p = some (lstG g (sf x ls)) := by
 have ln:=F.ln;have ln':qs.length=ls.length:=by simpa using ln
 rcases List.eq_nil_or_concat ls with z|⟨ls',y,z⟩
 . subst z
   have:qs=[]:=List.eq_nil_of_length_eq_zero (by simpa using ln');subst this;obtain⟨q,h1,h2⟩:=F.it 0 a rfl;have e:x=q:=Option.some.inj h1;subst e;exact⟨a,rfl,h2⟩
 . rw [List.concat_eq_append] at z
   subst z;rcases List.eq_nil_or_concat qs with z|⟨qs',p,z⟩
   . subst z
     simp at ln'
   . rw [List.concat_eq_append] at z
     subst z;have l2:qs'.length=ls'.length:=by simpa using ln'
     refine⟨p,?_,?_⟩
     . show atI (V.ref a::(qs'++[p]).map V.ref) (-1)=_
       rw[List.map_append,<-List.cons_append];exact Ah _ _
     . obtain⟨q,h1,h2⟩:=F.it (qs'.length+1) p (by simp)
       have e:q=y:=by
        have:(x::(ls'++[y]))[qs'.length+1]?=some y:=by simp[l2]
        rw[this]at h1;exact(Option.some.inj h1).symm
       subst e;rw[h2];unfold sf;simp
def ux:Sp:=λvs H Q _=>∃(g:Nat->V) (fo fr' a:Addr) (c:Nat) (fv:List V) (ps:List Addr) (rs:List Rn) (N:Nat),vs=[.ref fo,.ref fr',.ref a,.int N]/\Nam g c/\H fo=some (lstG g (List.range c))/\H fr'=some (.lst fv)/\fv.all Ac=true/\CR H a ps c rs/\Ya c rs=1/\N<allD c rs /\
 ∀(h:Nat) (H':Hp),sf (List.range c) (plA c (λa=>inV (g a) fv) (List.range c) rs N)=[h]->Same H H'->Q (g h) H'
end BL
namespace BL
open PySem PySem.Spec PyProof.Rows L2 BR
def abc:Str:="abcdefghijklmnopqrstuvwxyz"
theorem Pw{i:Nat}(h:i<26):abc.cps.toList[i]?=some (97+i):=by
 have:∀j:Fin 26,abc.cps.toList[j.1]?=some (97+j.1):=by decide +kernel
 exact this ⟨i,h⟩
theorem Jo(a:Nat):∀(n:Nat) (acc:Array Nat),((List.replicate n #[a]).foldl (·++·) acc).toList=acc.toList++List.replicate n a
 | 0,acc=>by simp
 | n+1,acc=>by
  rw[List.replicate_succ,List.foldl_cons,Jo a n];simp[List.replicate_succ]
theorem Xu(a n:Nat)(hn:1<=n):(Txt.mul ⟨#[a]⟩ (n:Int)).cps.toList=List.replicate n a:=by
 unfold Txt.mul;rw[if_neg (by omega)];by_cases h:n=1
 . subst h
   rfl
 . rw[if_neg (by
    have h1:((n:Int)==1)=false:=by simpa using λy=>h (by omega)
    rw[h1];show ¬(false||((1:Nat)==0))=true;decide)]
   show ((List.replicate ((n:Int)).toNat #[a]).foldl (·++·) #[]).toList=_;rw[Jo,Int.toNat_natCast];rfl
def toS(l:List Nat):Str:=⟨l.toArray⟩
theorem Uw{l m:List Nat}(h:toS l=toS m):l=m:=by
 have:(toS l).cps.toList=(toS m).cps.toList:=by rw[h]
 simpa[toS] using this
theorem qq{a b:Str}(h:a.cps.toList=b.cps.toList):a=b:=by
 cases a;cases b;exact congrArg Str.mk (Array.toList_inj.mp h)
theorem vt(a b:Str):(a++b).cps.toList=a.cps.toList++b.cps.toList:=by
 show (a.cps++b.cps).toList=_;simp
theorem qo{st s i j:Nat}(hst:st=1\/st=3\/st=5\/st=7\/st=9\/st=11)(h1:(s+st*i)%26=(s+st*j)%26)(h2:i/26=j/26):i=j:=by
 rcases hst with rfl|rfl|rfl|rfl|rfl|rfl<;>omega
theorem En{nm:Nat->Str}{c:Nat}(h:∀i j,i<c->j<c->nm i=nm j->i=j):Nam (λi=>V.str (nm i)) c:=by
 refine⟨λi=>rfl,λi j hi hj=>?_⟩;show (nm i==nm j)=decide (i=j);by_cases z:i=j
 . subst z;simp
 . rw[decide_eq_false z]
   simpa using λy=>z (h i j hi hj y)
end BL
namespace BL
open PySem PySem.Spec PyProof.Rows L2 BR
def dS(fv:List Str):List D:=fv.map λs=>D.v (.str s)
theorem Dw{K:PySem.W.Frag}{H:Hp}:∀fv:List Str,IsDs K H (dS fv) (fv.map V.str)
 | []=>Io
 | s::fv=>tm (isD_v rfl) (Dw fv)
theorem Ks:∀fv:List Str,eqDs (dS fv) (dS fv)=true
 | []=>by simp[dS,eqDs]
 | s::fv=>by
  show eqDs (D.v (.str s)::dS fv) (D.v (.str s)::dS fv)=true;unfold eqDs;rw[Ks fv];simp[eqD,eqV]
theorem Ws:∀fv:List Str,deps (dS fv)=0
 | []=>by simp[dS,deps]
 | s::fv=>by
  show deps (D.v (.str s)::dS fv)=0;unfold deps;rw[Ws fv];simp[dep]
theorem fz{K:PySem.W.Frag}{H:Hp}{p:Addr}{fv:List Str}(h:H p=some (.lst (fv.map V.str))):IsD K H (.l (dS fv)) (.ref p):=by
 unfold IsD;exact⟨p,_,rfl,SqL.of h,Dw fv⟩
def dSS(nm:Nat->Str)(ls:List (List Nat)):List D:=ls.map λl=>D.l (dS (l.map nm))
theorem av{nm:Nat->Str}{l:List Nat}:lstG (λi=>V.str (nm i)) l= .lst ((l.map nm).map V.str):=by
 unfold lstG;rw[List.map_map];rfl
theorem Cs{K:PySem.W.Frag}{H:Hp}{nm:Nat->Str}:∀{ps:List Addr} {ls:List (List Nat)},ps.length=ls.length->(∀i:Nat,∀p,ps[i]?=some p->∃q,ls[i]?=some q/\H p=some (lstG (λi=>V.str (nm i)) q))->IsDs K H (dSS nm ls) (ps.map V.ref)
 | [],[],_,_=>Io
 | [],_::_,h,_=>by simp at h
 | _::_,[],h,_=>by simp at h
 | p::ps,q::qs,h,hi=>by
  refine tm ?_ (Cs (by simpa using h) λi p' h'=>?_)
  . obtain⟨q',e,hp⟩:=hi 0 p (by simp)
    simp at e;subst e;rw[av]at hp;exact fz hp
  . obtain⟨q',e,hp⟩:=hi (i+1) p' (by simpa using h')
    exact⟨q',by simpa using e,hp⟩
theorem Js{nm:Nat->Str}:∀ls:List (List Nat),eqDs (dSS nm ls) (dSS nm ls)=true
 | []=>by simp[dSS,eqDs]
 | l::ls=>by
  show eqDs (D.l (dS (l.map nm))::dSS nm ls) (D.l (dS (l.map nm))::dSS nm ls)=true;unfold eqDs;rw[Js ls];unfold eqD;rw[Ks];simp
theorem Vs{nm:Nat->Str}:∀ls:List (List Nat),deps (dSS nm ls)<=1
 | []=>by simp[dSS,deps]
 | l::ls=>by
  show deps (D.l (dS (l.map nm))::dSS nm ls)<=1;unfold deps;have:=Vs (nm:=nm) ls;have e:dep (D.l (dS (l.map nm)))=1:=by unfold dep;rw[Ws]
  rw[e];omega
section
variable {K : PySem.W.Frag} {H : Hp} {Q : VK} {f g : Addr} {ps ps' : List Addr} {ls : List (List Nat)} {nm : Nat -> Str} {rs : List Rn}
theorem Ew(F:TsAt (lstG λi=>V.str (nm i)) H f ps ls):IsD K H (.l (dSS nm ls)) (.ref f):=by unfold IsD;exact⟨f,_,rfl,SqL.of F.ls,Cs F.ln F.it⟩
theorem cw(F:TsAt (lstG λi=>V.str (nm i)) H f ps ls)(G:TsAt (lstG λi=>V.str (nm i)) H g ps' ls)(h:Q (.bl false) H):rNeA K (.ref f) (.ref g) H Q:=by
 refine dw (.l (dSS nm ls)) (.l (dSS nm ls)) rfl (by unfold dep;have:=Vs (nm:=nm) ls;omega) (Ew F) (Ew G) ?_;unfold eqD;rw[Js];exact h
end
theorem yi:∀fv:List Str,(fv.map V.str).all Ac=true
 | []=>rfl
 | s::fv=>by rw[List.map_cons,List.all_cons,yi fv];rfl
theorem ur{c:Nat}{F:Nat->Bool}:∀(rs:List Rn) (l:List Nat) (N b:Nat),l.length=b->FitR c b rs->b<=c->∀m∈plA c F l rs N,m.length<=c
 | [],l,_,b,hl,_,_,m,hm=>by cases hm
 | r::rs,l,N,b,hl,ft,hb,m,hm=>by
  subst hl;have m0:=Dj hb ft.1;have e:=Xl (F:=F) ft.1 (Nat.mod_lt (N/ab (drs c r.n rs)) m0);rcases List.mem_cons.mp hm with rfl|hm
  . rw[e];exact ft.1.le hb
  . exact ur rs _ N r.n e ft.2 (ft.1.le hb) m hm
end BL
namespace L2
open PySem PySem.Spec PyProof.Rows
section
variable {K : PySem.W.Frag} {H : Hp} {Q : VK} {p : Addr} {xs : List V} {v : V} {i : Int}
def terF(r m s:Addr)(v:V):List (Str×V):=[("roll",.ref r),("marks",.ref m),("steps",.ref s),("worthy",v)]
def sitF(t o b:Addr)(h:Bool):List (Str×V):=[("terms",.ref t),("over",.ref o),("balls",.ref b),("hangs",.bl h)]
def houF(d p f:Addr):List (Str×V):=[("kept",.ref d),("past",.ref p),("future",.ref f)]
theorem Jk{m:Str}:∀{fs:List (Str×V)},(fs.map (·.1)).contains m=false->fs.lookup m=none
 | [],_=>rfl
 | (x,v)::fs,h=>by
  rw[List.map_cons,List.contains_cons,Bool.or_eq_false_iff]at h;rw[List.lookup_cons,h.1];exact Jk h.2
section
variable {r m s t o b d f : Addr} {v : V} {h : Bool} {x : Str}
theorem Hx(e:(["terms","over","balls","hangs"]:List Str).contains x=false):(sitF t o b h).lookup x=none:=Jk e
theorem Ww(e:(["roll","marks","steps","worthy"]:List Str).contains x=false):(terF r m s v).lookup x=none:=Jk e
theorem nz(e:(["kept","past","future"]:List Str).contains x=false):(houF d p f).lookup x=none:=Jk e
theorem Pd{y:Str}{w:V}{fs:List (Str×V)}(e:(x==y)=true):((y,w)::fs).lookup x=some w:=by rw[List.lookup_cons,e]
theorem md{y:Str}{w z:V}{fs:List (Str×V)}(e:(x==y)=false)(h:fs.lookup x=some z):((y,w)::fs).lookup x=some z:=by rw[List.lookup_cons,e];exact h
theorem cv:(sitF t o b h).lookup ("terms":Str)=some (.ref t):=Pd (by decide +kernel)
theorem Zy:(sitF t o b h).lookup ("over":Str)=some (.ref o):=md (by decide +kernel) (Pd (by decide +kernel))
theorem mv:(sitF t o b h).lookup ("balls":Str)=some (.ref b):=md (by decide +kernel) (md (by decide +kernel) (Pd (by decide +kernel)))
theorem jv:(sitF t o b h).lookup ("hangs":Str)=some (.bl h):=md (by decide +kernel) (md (by decide +kernel) (md (by decide +kernel) (Pd (by decide +kernel))))
theorem Xy:(terF r m s v).lookup ("roll":Str)=some (.ref r):=Pd (by decide +kernel)
theorem gv:(terF r m s v).lookup ("marks":Str)=some (.ref m):=md (by decide +kernel) (Pd (by decide +kernel))
theorem dv:(terF r m s v).lookup ("steps":Str)=some (.ref s):=md (by decide +kernel) (md (by decide +kernel) (Pd (by decide +kernel)))
theorem bz:(houF d p f).lookup ("kept":Str)=some (.ref d):=Pd (by decide +kernel)
theorem Yy:(houF d p f).lookup ("past":Str)=some (.ref p):=md (by decide +kernel) (Pd (by decide +kernel))
theorem gg{y:Str}{w:V}:∀{fs:List (Str×V)},(fs.map (·.1)).contains y=false->putF y w fs=fs++[(y,w)]
 | [],_=>rfl
 | (x, v) :: fs, h => by
  rw[List.map_cons,List.contains_cons,Bool.or_eq_false_iff]at h;have:¬x=y:=λe=>by
   have:=h.1;rw[e]at this;simp at this
  show (if x=y then (x,w)::fs else (x,v)::putF y w fs)=_;rw[if_neg this,gg h.2];rfl
theorem Gx:putF "hangs" (.bl h) (putF "balls" (.ref b) (putF "over" (.ref o) (putF "terms" (.ref t) (([]:List (Str×V))))))=sitF t o b h:=by
 have e0:putF "terms" (.ref t) ([]:List (Str×V))=([("terms",.ref t)]:List (Str×V)):=rfl;have e1:putF "over" (.ref o) ([("terms",.ref t)]:List (Str×V))=([("terms",.ref t),("over",.ref o)]:List (Str×V)):=gg (fs:=([("terms",.ref t)]:List (Str×V))) (show (["terms"]:List Str).contains "over"=false from by decide +kernel);have e2:putF "balls" (.ref b) ([("terms",.ref t),("over",.ref o)]:List (Str×V))=([("terms",.ref t),("over",.ref o),("balls",.ref b)]:List (Str×V)):=gg (fs:=([("terms",.ref t),("over",.ref o)]:List (Str×V))) (show (["terms","over"]:List Str).contains "balls"=false from by decide +kernel);have e3:putF "hangs" (.bl h) ([("terms",.ref t),("over",.ref o),("balls",.ref b)]:List (Str×V))=([("terms",.ref t),("over",.ref o),("balls",.ref b),("hangs",.bl h)]:List (Str×V)):=gg (fs:=([("terms",.ref t),("over",.ref o),("balls",.ref b)]:List (Str×V))) (show (["terms","over","balls"]:List Str).contains "hangs"=false from by decide +kernel);rw[e0,e1,e2,e3];rfl
theorem Vw:putF "worthy" (v) (putF "steps" (.ref s) (putF "marks" (.ref m) (putF "roll" (.ref r) (([]:List (Str×V))))))=terF r m s v:=by
 have e0:putF "roll" (.ref r) ([]:List (Str×V))=([("roll",.ref r)]:List (Str×V)):=rfl;have e1:putF "marks" (.ref m) ([("roll",.ref r)]:List (Str×V))=([("roll",.ref r),("marks",.ref m)]:List (Str×V)):=gg (fs:=([("roll",.ref r)]:List (Str×V))) (show (["roll"]:List Str).contains "marks"=false from by decide +kernel);have e2:putF "steps" (.ref s) ([("roll",.ref r),("marks",.ref m)]:List (Str×V))=([("roll",.ref r),("marks",.ref m),("steps",.ref s)]:List (Str×V)):=gg (fs:=([("roll",.ref r),("marks",.ref m)]:List (Str×V))) (show (["roll","marks"]:List Str).contains "steps"=false from by decide +kernel);have e3:putF "worthy" (v) ([("roll",.ref r),("marks",.ref m),("steps",.ref s)]:List (Str×V))=([("roll",.ref r),("marks",.ref m),("steps",.ref s),("worthy",v)]:List (Str×V)):=gg (fs:=([("roll",.ref r),("marks",.ref m),("steps",.ref s)]:List (Str×V))) (show (["roll","marks","steps"]:List Str).contains "worthy"=false from by decide +kernel);rw[e0,e1,e2,e3];rfl
theorem mz:putF "future" (.ref f) (putF "past" (.ref p) (putF "kept" (.ref d) (([]:List (Str×V)))))=houF d p f:=by
 have e0:putF "kept" (.ref d) ([]:List (Str×V))=([("kept",.ref d)]:List (Str×V)):=rfl;have e1:putF "past" (.ref p) ([("kept",.ref d)]:List (Str×V))=([("kept",.ref d),("past",.ref p)]:List (Str×V)):=gg (fs:=([("kept",.ref d)]:List (Str×V))) (show (["kept"]:List Str).contains "past"=false from by decide +kernel);have e2:putF "future" (.ref f) ([("kept",.ref d),("past",.ref p)]:List (Str×V))=([("kept",.ref d),("past",.ref p),("future",.ref f)]:List (Str×V)):=gg (fs:=([("kept",.ref d),("past",.ref p)]:List (Str×V))) (show (["kept","past"]:List Str).contains "future"=false from by decide +kernel);rw[e0,e1,e2];rfl
end
theorem jw{k:Bool}(h1:H p=some (obB k xs))(h:Q (.int xs.length) H):rLen K [.ref p] H Q:=by
 cases k
 . exact gw h1 h
 . exact Wq h1 h
theorem qk{k:Bool}(h1:H p=some (obB k xs))(h:∀l,H l=none->Q (.ref l) (upd H l (.lst xs))):Wh K [.ref p] H Q:=by
 cases k
 . exact Zx (SqT.of h1) h
 . exact jk (SqL.of h1) h
theorem r_ix2B{k:Bool}(h1:H p=some (obB k xs))(h2:atI xs i=some v)(h:Q v H):rIx2 K (.ref p) (.int i) H Q:=by
 cases k
 . exact uf h1 h2 h
 . exact gc h1 h2 h
end
end L2
namespace BL
open PySem PySem.Spec PyProof.Rows L2 BR
def obN(k:Bool)(l:List Nat):HO:=obB k ((zs l).map V.int)
def obM(k:Bool)(F:Nat->Bool)(c:Nat):HO:=obB k ((List.range c).map λa=>V.bl (F a))
def bu:Sp:=λvs H Q _=>∃(m p:Addr) (c:Nat) (F:Nat->Bool) (l:List Nat) (k1 k2:Bool),vs=[.ref m,.ref p]/\H m=some (obM k1 F c)/\H p=some (obN k2 l)/\(∀a∈l,a<c)/\l.length<512/\∀H',Same H H'->Q (.int (BR.fr F l:Nat)) H'
def Il:Sp:=λvs H Q _=>∃(m:Addr) (c n:Nat) (F:Nat->Bool) (t k:Bool),vs=[.ref m,.int n,.str (if t then "friends" else "foes")]/\H m=some (obM k F c)/\c<512/\n<=60/\NewL H Q (seat c F n t)
theorem Fh{m:Addr}{c n:Nat}{F:Nat->Bool}{t k:Bool}{H:Hp}{Q:VK}{E:XK}(h1:H m=some (obM k F c))(h2:c<512)(h3:n<=60)(q:NewL H Q (seat c F n t)):Il [.ref m,.int n,.str (if t then "friends" else "foes")] H Q E:=⟨m,c,n,F,t,k,rfl,h1,h2,h3,q⟩
structure BMB(H:Hp)(m b p:Addr)(c:Nat)(F:Nat->Bool)(l:List Nat)(r:Rn)(k1 k2:Bool):Prop where
 ma:H m=some (obM k1 F c)
 bn:H b=some (obN k2 l)
 st:H p=some (rnO r)
 lt:∀a∈l,a<c
 ll:l.length<=c
 cc:c<512
 ft:Fit c l.length r
theorem BM.b{H:Hp}{m b p:Addr}{c:Nat}{F:Nat->Bool}{l:List Nat}{r:Rn}(h:BM H m b p c F l r):BMB H m b p c F l r true true:=⟨h.ma,h.bn,h.st,h.lt,h.ll,h.cc,h.ft⟩
def Xv:Sp:=λvs H Q _=>∃(m b p:Addr) (c:Nat) (F:Nat->Bool) (l:List Nat) (r:Rn) (k1 k2:Bool),vs=[.ref m,.ref b,.ref p]/\BMB H m b p c F l r k1 k2/\(und c F l r=none->∀H',Same H H'->Q .non H')/\∀z,und c F l r=some z->NewL H Q z
def xq:Sp:=λvs H Q _=>∃(m b p:Addr) (c:Nat) (F:Nat->Bool) (l:List Nat) (r:Rn) (k1 k2:Bool),vs=[.ref m,.ref b,.ref p]/\BMB H m b p c F l r k1 k2/\NewL H Q (pool c l r)
structure TsB{α:Type}(ob:α->HO)(k:Bool)(H:Hp)(f:Addr)(ps:List Addr)(qs:List α):Prop where
 ls:H f=some (obB k (ps.map V.ref))
 it:∀i:Nat,∀p,ps[i]?=some p->∃q,qs[i]?=some q/\H p=some (ob q)
 ln:ps.length=qs.length
theorem TsB.get{α:Type}{ob:α->HO}{k:Bool}{H:Hp}{f:Addr}{ps:List Addr}{qs:List α}(F:TsB ob k H f ps qs){i:Nat}{v:V}(h:(ps.map V.ref)[i]?=some v):∃p q,v= .ref p/\ps[i]?=some p/\qs[i]?=some q/\H p=some (ob q):=by
 rw[List.getElem?_map]at h;cases e:ps[i]? with
 | none=>rw[e]at h;cases h
 | some p =>
  rw[e]at h;obtain⟨q,hq,hp⟩:=F.it i p e;exact⟨p,q,(Option.some.inj h).symm,rfl,hq,hp⟩
theorem TsB.same{α:Type}{ob:α->HO}{k:Bool}{H H':Hp}{f:Addr}{ps:List Addr}{qs:List α}(F:TsB ob k H f ps qs)(s:Same H H'):TsB ob k H' f ps qs:=⟨s _ _ F.ls,λi p h=>by obtain⟨q,a,b⟩:=F.it i p h;exact⟨q,a,s _ _ b⟩,F.ln⟩
theorem TsAt.b{α:Type}{ob:α->HO}{H:Hp}{f:Addr}{ps:List Addr}{qs:List α}(F:TsAt ob H f ps qs):TsB ob true H f ps qs:=⟨F.ls,F.it,F.ln⟩
structure CRB(k:Bool)(H:Hp)(a:Addr)(ps:List Addr)(c:Nat)(rs:List Rn):Prop where
 rw:TsB rnO k H a ps rs
 c1:1<=c
 c2:c<=500
 ft:FitR c c rs
 ln:rs.length<=100
theorem CRB.same{k:Bool}{H H':Hp}{a:Addr}{ps:List Addr}{c:Nat}{rs:List Rn}(R:CRB k H a ps c rs)(s:Same H H'):CRB k H' a ps c rs:=⟨R.rw.same s,R.c1,R.c2,R.ft,R.ln⟩
theorem CR.b{H:Hp}{a:Addr}{ps:List Addr}{c:Nat}{rs:List Rn}(R:CR H a ps c rs):CRB true H a ps c rs:=⟨R.rw.b,R.c1,R.c2,R.ft,R.ln⟩
def uo:Sp:=λvs H Q _=>∃(k:Bool) (c:Nat) (a:Addr) (ps:List Addr) (rs:List Rn),vs=[.int c,.ref a]/\CRB k H a ps c rs/\∀(p:Addr) (H':Hp),H p=none->Same H H'->H' p=some (lstN (szs rs))->Q (.ref p) H'
def Qj:Sp:=λvs H Q _=>∃(k:Bool) (c:Nat) (a:Addr) (ps:List Addr) (rs:List Rn),vs=[.int c,.ref a]/\CRB k H a ps c rs/\∀(p:Addr) (H':Hp),H p=none->Same H H'->H' p=some (lstN (c::szs rs))->Q (.ref p) H'
def so:Sp:=λvs H Q _=>∃(k:Bool) (c:Nat) (a:Addr) (ps:List Addr) (rs:List Rn),vs=[.int c,.ref a]/\CRB k H a ps c rs/\∀H',Same H H'->Q (.bl (decide (Ya c rs=1))) H'
def Pj:Sp:=λvs H Q _=>∃(k:Bool) (c:Nat) (a:Addr) (ps:List Addr) (rs:List Rn),vs=[.int c,.ref a]/\CRB k H a ps c rs/\Ya c rs=1/\∀H',Same H H'->Q .non H'
section
variable {k : Bool} {c : Nat} {a : Addr} {ps : List Addr} {rs : List Rn} {H : Hp} {Q : VK} {E : XK}
theorem Yo(R:CRB k H a ps c rs)(q:∀(p:Addr) (H':Hp),H p=none->Same H H'->H' p=some (lstN (szs rs))->Q (.ref p) H'):uo [.int c,.ref a] H Q E:=⟨k,c,a,ps,rs,rfl,R,q⟩
theorem sj(R:CRB k H a ps c rs)(q:∀(p:Addr) (H':Hp),H p=none->Same H H'->H' p=some (lstN (c::szs rs))->Q (.ref p) H'):Qj [.int c,.ref a] H Q E:=⟨k,c,a,ps,rs,rfl,R,q⟩
theorem qp(R:CR H a ps c rs)(q:∀(p:Addr) (H':Hp),H p=none->Same H H'->H' p=some (lstN (c::szs rs))->Q (.ref p) H'):Qj [.int c,.ref a] H Q E:=sj R.b q
theorem Xo(R:CRB k H a ps c rs)(q:∀H',Same H H'->Q (.bl (decide (Ya c rs=1))) H'):so [.int c,.ref a] H Q E:=⟨k,c,a,ps,rs,rfl,R,q⟩
theorem rj(R:CRB k H a ps c rs)(h:Ya c rs=1)(q:∀H',Same H H'->Q .non H'):Pj [.int c,.ref a] H Q E:=⟨k,c,a,ps,rs,rfl,R,h,q⟩
theorem Zo(R:CR H a ps c rs)(h:Ya c rs=1)(q:∀H',Same H H'->Q .non H'):Pj [.int c,.ref a] H Q E:=rj R.b h q
end
theorem Qt{m b p:Addr}{c:Nat}{F:Nat->Bool}{l:List Nat}{r:Rn}{H:Hp}{Q:VK}{E:XK}(h:BM H m b p c F l r)(q1:und c F l r=none->∀H',Same H H'->Q .non H')(q2:∀z,und c F l r=some z->NewL H Q z):Xv [.ref m,.ref b,.ref p] H Q E:=⟨_,_,_,_,_,_,_,_,_,rfl,h.b,q1,q2⟩
theorem wq{m b p:Addr}{c:Nat}{F:Nat->Bool}{l:List Nat}{r:Rn}{H:Hp}{Q:VK}{E:XK}(h:BM H m b p c F l r)(q:NewL H Q (pool c l r)):xq [.ref m,.ref b,.ref p] H Q E:=⟨_,_,_,_,_,_,_,_,_,rfl,h.b,q⟩
end BL
namespace L2
open PySem PySem.Spec PyProof.Rows
def TupX(a:Addr)(xs:List V):HO:=.ext λh=>xs.length<=sizeLine/\∃(its:List Value) (n:Nat),Vals xs its/\h.get? a=some { cls:=.type "tuple",data:=.seq its.toArray n }
theorem TupX.ok{P:Program}{w:World}{H:Hp}{h:Heap}{a:Addr}{xs:List V}{its:List Value}{n:Nat}(hz:xs.length<=sizeLine)(r:Vals xs its)(e:h.get? a=some { cls:=.type "tuple",data:=.seq its.toArray n }):Bc P w H h a (TupX a xs) :=
 ⟨⟨hz,its,n,r,e⟩,⟨_,e⟩,λh1 h2 ⟨z,its,n,r,q⟩ k=>⟨z,its,n,r,k _ q⟩⟩
section
variable {X : Cx} {K : PySem.W.Frag} {pins : List (Addr × Obj)} {σ : St} {H : Hp} {s : Shared} {a : Addr} {xs : List V}
theorem yh(I:Inv X pins σ H s)(e:H a=some (TupX a xs)):∃(its:List Value) (n:Nat),Vals xs its/\s.heap.get? a=some { cls:=.type "tuple",data:=.seq its.toArray n }/\xs.length<=sizeLine:=by
 obtain⟨⟨z,its,n,r,q⟩,_⟩:=(show Bc X.prog X.w H s.heap a (TupX a xs) from I.hok a _ e)
 exact⟨its,n,r,q,z⟩
def rTupX(K:PySem.W.Frag):List V->Hp->VK->Prop:=λxs H Q=>∃p ys,xs=[.ref p]/\SqL K H p ys/\∀l,H l=none->Q (.ref l) (upd H l (TupX l ys))
theorem tupXK(hK:X.K=K):vc X (.type "tuple") (rTupX K):=by
 subst hK;intro pins s σ H xs us Q I r h;obtain⟨p,ys,rfl,hq,q⟩:=h;obtain⟨u,rfl,rx⟩:=vals1 r;cases rx;obtain⟨its,r',pl,hz⟩:=I.list hq;have hlen:=r'.length;refine call_tuple_list pl.isList (λh' kp=>?_) (by simp only[List.size_toArray]<;>omega);have I1:Inv X pins σ H { s with heap:=h' }:=I.kept (t':=s.toks) kp;have I2:Inv X pins σ (upd H h'.objs.size (TupX h'.objs.size ys)) { s with heap:=h'.push { cls:=.type "tuple",data:=.seq its.toArray } } :=
  I1.laid (t':=s.toks) (λb o e=>Heap.get?_push_of_some _ e) (Nat.le_refl _) (TupX.ok hz r' (Heap.get?_push_size _ rfl))
 exact⟨.ref h'.objs.size,_,I2,rfl,q _ (I1.hok.fresh (Nat.le_refl _))⟩
def rIxX:R2:=λx y H Q=>∃p xs i v,x= .ref p/\y= .int i/\H p=some (TupX p xs)/\atI xs i=some v/\Q v H
theorem ixX:IxR X rIxX:=by
 intro value slice pins s σ H x y v u Q I rx ry h hs;obtain⟨p,xs,i,z,rfl,rfl,hq,he,q⟩:=h;cases rx;obtain⟨t,rfl⟩:=ry;obtain⟨its,n,r,e,hz⟩:=yh I hq;have pl:IsTup s.heap p its.toArray:=⟨_,e,rfl,n,rfl⟩
 obtain⟨j,h1,h2,h3,h4,h5⟩:=Xk he;obtain⟨w,ew,rw'⟩:=r.get h2;have hl:=r.length;have hn:=kg;have fin:EP X pins σ Q w s:=⟨z,H,I,rw',q⟩
 exact subscriptTail_builtinR (x:=w) pl.typeIs slot_tuple_getitem.lookup
  (getItem_tuple (j:=j) (Q:=λr s'=>r=w/\EP X pins σ Q r s') pl (by omega) (by omega) (by rw[List.size_toArray,<-hl];exact h1) (by simpa using ew) ⟨rfl,fin⟩) hs
def rLenX:List V->Hp->VK->Prop:=λxs H Q=>∃p ys,xs=[.ref p]/\H p=some (TupX p ys)/\Q (.int ys.length) H
theorem lenX:vc X (.builtin "len") rLenX:=by
 intro pins s σ H xs us Q I r h;obtain⟨p,ys,rfl,hq,q⟩:=h;obtain⟨u,rfl,rx⟩:=vals1 r;cases rx;have hn:=kg;obtain⟨its,n,r',e,hz⟩:=yh I hq;have hlen:=r'.length;exact len_tuple (show IsTup s.heap p its.toArray from⟨_,e,rfl,n,rfl⟩) (by simp only[List.size_toArray]<;>omega) ⟨.int ys.length,H,I.tok _,⟨s.toks+1,by rw[List.size_toArray,hlen]⟩,q⟩
def tIxX(to:TE)(t:TA):TE:=λσ H Q=>to σ H λx H1=>∃(p:Addr) (ns:List Str),x= .ref p/\H1 p=some (TupX p (ns.map V.str))/\t σ H1 λvs H2=>∃(y:Str) (j:Nat),vs=[.str y]/\H2 p=some (TupX p (ns.map V.str))/\ns[j]?=some y/\(∀m,m<j->ns[m]?≠some y)/\Q (.int (j:Int)) H2
theorem Er{o e:Expr}{to:TE}{t:TA}{apos cpos:Pos}(ho:PE X o to)(ha:PA X [e] t)
 (hbase:attributeBase o "index" X.env (eval o X.env)=eval o X.env:=by first|rfl|with_unfolding_all rfl)
 (hfew:((backTo cpos (starEach [e] X.env)).all (λx=> !x.1)&&(backToKw cpos (keywordEach [] X.env)).all (λx=>x.1.isSome)
   && decide (([e]:List Expr).length+([]:List Keyword).length+(if ([]:List Keyword).isEmpty then 0 else 1)<30))=true:=by first|rfl|with_unfolding_all rfl)
 (hline:(apos.endLine==cpos.line)=true:=by first|rfl|with_unfolding_all rfl)(hs:starEach [e] X.env=(false,eval e X.env)::starEach [] X.env:=by first|rfl|with_unfolding_all rfl) :
 PE X (.Call (.Attribute o "index" apos) [e] [] cpos) (tIxX to t):=by
 intro pins s σ H Q I h;refine wpAny_Call_method_late hbase hfew hline rfl (thn (ho pins s σ H _ I h) λv s1 hq=>?_);obtain⟨x,H1,I1,r1,p,ns,ex,e1,q1⟩:=hq;subst ex;obtain rfl:v=Value.ref p:=r1;obtain⟨its,n,r,g,hz⟩:=yh I1 e1;refine⟨"tuple","tuple.index",PySem.F.plainAttrs_tuple,PySem.F.slot_tuple_index,PySem.F.type_tuple_index,⟨_,g,rfl⟩,λa z=>by cases z;exact⟨_,g,rfl⟩,?_⟩;have hA:=ha cpos pins s1 σ H1 _ I1 q1;rw[hs]at hA ⊢;refine Calls.callWith_builtin (by rfl) (Calls.evalArgs_plain ?_);refine thn hA λus s2 hq2=>?_;obtain⟨vs,H2,I2,r2,y,j,ev,e2,hj,hno,q2⟩:=hq2;subst ev;obtain⟨u1,rfl,t',rfl⟩:=vals1 r2;obtain⟨its2,n2,rr,g2,_⟩:=yh I2 e2;have hl:=rr.length;rw[List.length_map]at hl;have hjl:j<ns.length:=(List.getElem?_eq_some_iff.mp hj).1;refine call_meets PySem.F.slot_tuple_index ⟨_,g2,rfl⟩ PySem.F.entry_tuple_index (PySem.F.args_tuple_index_2 _ _) (Xg p _ its2.toArray n2 rfl rfl y t' j (by simpa using by omega) ?_ ?_) ⟨g2,?_⟩
 . obtain⟨u,hu⟩:=Bh rr j y hj
   exact⟨u,by simpa using hu⟩
 . intro m hm
   have hml:m<ns.length:=by omega
   obtain⟨u,hu⟩:=Bh rr m ns[m] (by simp[hml]);exact⟨_,u,by simpa using hu,λz=>hno m hm (by rw[List.getElem?_eq_getElem hml,z])⟩
 . exact⟨.int _,H2,I2.tok _,⟨_,rfl⟩,q2⟩
end
section
variable {K : PySem.W.Frag} {σ : St} {H : Hp} {Q : VK} {p : Addr} {xs : List V} {v : V} {i : Int} {to : TE} {t : TA}
theorem r_tupX(h1:H p=some (.lst xs))(h:∀l,H l=none->Q (.ref l) (upd H l (TupX l xs))):rTupX K [.ref p] H Q:=⟨p,xs,rfl,SqL.of h1,h⟩
theorem r_ixX(h1:H p=some (TupX p xs))(h2:atI xs i=some v)(h:Q v H):rIxX (.ref p) (.int i) H Q:=⟨p,xs,i,v,rfl,rfl,h1,h2,h⟩
theorem r_lenX(h1:H p=some (TupX p xs))(h:Q (.int xs.length) H):rLenX [.ref p] H Q:=⟨p,xs,rfl,h1,h⟩
theorem Bu(h:to σ H λx H1=>∃(p:Addr) (ns:List Str),x= .ref p/\H1 p=some (TupX p (ns.map V.str))/\t σ H1 λvs H2=>∃(y:Str) (j:Nat),vs=[.str y]/\H2 p=some (TupX p (ns.map V.str))/\ns[j]?=some y/\(∀m,m<j->ns[m]?≠some y)/\Q (.int (j:Int)) H2):tIxX to t σ H Q:=h
end
end L2
namespace L2
open PySem PySem.Spec PyProof.Rows
section
variable {X : Cx} {K : PySem.W.Frag}
theorem r_TR{σ:St}{H:Hp}{Q:VK}{tA:TA}(h:tA σ H λvs H1=>∃j:Nat,vs=[.int (j:Int)]/\j<100000/\∀p,H1 p=none->Q (.ref p) (upd H1 p (.tup ((upTo j).map V.int)))):tTR tA σ H Q:=h
theorem Dd{H H3 H4:Hp}{y dy:Addr}{a b:HO}(S:Same H H3)(hy:H3 y=none)(hd:H3 dy=none)(f:Fr1 y (upd (upd H3 dy a) y b) H4):Same H H4:=λc o z=>f c o (by rw[va (ba (S c o z) hy),va (ba (S c o z) hd)];exact S c o z) (ba (S c o z) hy)
theorem Kg{y:Str}{v:V}{fs:List (Str×V)}{n:Nat}(h:fs.length<n):(putF y v fs).length<n+1:=by
 have:=Qf y v fs;omega
theorem few1{a:Str}{v:V}:(putF a v []).length<1000:=Nat.lt_of_lt_of_le (Kg (n:=1) (by decide)) (by decide)
theorem few2{a b:Str}{v w:V}:(putF b w (putF a v [])).length<1000:=Nat.lt_of_lt_of_le (Kg (Kg (n:=1) (by decide))) (by decide)
theorem few3{a b c:Str}{v w u:V}:(putF c u (putF b w (putF a v []))).length<1000:=Nat.lt_of_lt_of_le (Kg (Kg (Kg (n:=1) (by decide)))) (by decide)
def rTupB(K:PySem.W.Frag):List V->Hp->VK->Prop:=λxs H Q=>∃p ys,xs=[.ref p]/\((SqL K H p ys/\∀l,H l=none->Q (.ref l) (upd H l (.tup ys)))\/(SqT K H p ys/\Q (.ref p) H))
theorem tupBK(h:X.K=K):vc X (.type "tuple") (rTupB K):=by subst h;exact rg
theorem Tq{H:Hp}{Q:VK}{p:Addr}{xs:List V}(h1:H p=some (.tup xs))(h:Q (.ref p) H):rTupB K [.ref p] H Q:=⟨p,xs,rfl,.inr ⟨SqT.of h1,h⟩⟩
end
end L2
namespace BL
open PySem PySem.Spec PyProof.Rows L2 BR
abbrev ngS(nm:Nat->Str):Nat->V:=λi=>V.str (nm i)
structure TD where
 c:Nat
 nm:Nat->Str
 F:Nat->Bool
 ps:List Addr
 rs:List Rn
structure Ter(CT:Addr)(H:Hp)(t:Addr)(D:TD):Prop where
 ex:∃dx r m s,H t=some (.ins CT dx (terF r m s .non))/\H r=some (TupX r ((List.range D.c).map (ngS D.nm)))/\H m=some (obM false D.F D.c)/\TsB rnO false H s D.ps D.rs
theorem Ter.same{CT:Addr}{H H':Hp}{t:Addr}{D:TD}(T:Ter CT H t D)(s:Same H H'):Ter CT H' t D:=by
 obtain⟨dx,r,m,st,h1,h2,h3,h4⟩:=T.ex;exact⟨dx,r,m,st,s _ _ h1,s _ _ h2,s _ _ h3,h4.same s⟩
structure Sit(CS CT:Addr)(H:Hp)(x:Addr)(D:TD)(os:List Addr)(ls:List (List Nat))(bs:List Nat)(hg:Bool):Prop where
 ex:∃dx t o b,H x=some (.ins CS dx (sitF t o b hg))/\Ter CT H t D/\TsB tupN false H o os ls/\H b=some (tupN bs)
theorem Sit.same{CS CT:Addr}{H H':Hp}{x:Addr}{D:TD}{os:List Addr}{ls:List (List Nat)}{bs:List Nat}{hg:Bool}(S:Sit CS CT H x D os ls bs hg)(s:Same H H'):Sit CS CT H' x D os ls bs hg:=by
 obtain⟨dx,t,o,b,h1,h2,h3,h4⟩:=S.ex;exact⟨dx,t,o,b,s _ _ h1,h2.same s,h3.same s,s _ _ h4⟩
def Ma(c:Nat)(ls:List (List Nat)):List Nat:=sf (List.range c) ls
structure Good(D:TD)(ls:List (List Nat))(bs:List Nat):Prop where
 c1:1<=D.c
 c2:D.c<=60
 ft:FitR D.c D.c D.rs
 ln:D.rs.length<=20
 ll:ls.length<=D.rs.length
 bl:(Ma D.c ls).length=Ya D.c (D.rs.take ls.length)
 bm:∀a∈Ma D.c ls,a<D.c
 be:∀l∈ls,(∀a∈l,a<D.c)/\l.length<=D.c
 sm:∀a∈bs,a<D.c
 sl:bs.length<=60
 ij:∀i j,i<D.c->j<D.c->D.nm i=D.nm j->i=j
def dueN(rs:List Rn)(k:Nat)(hg:Bool):Str:=match rs[k]? with
 | none=>"done"
 | some (.lot _)=>"draw"
 | some (.vote _ _ _)=>if hg=true then "draw" else "poll"
def rf(D:TD)(ls:List (List Nat))(bs:List Nat)(hg:Bool):List Nat:=match D.rs[ls.length]? with
 | none=>[]
 | some r=>if dueN D.rs ls.length hg="draw" then (pool D.c (Ma D.c ls) r).filter λa=> !decide (a∈bs) else []
def NewG(nm:Nat->Str)(H:Hp)(Q:VK)(l:List Nat):Prop:=∀(p:Addr) (H':Hp),H p=none->Same H H'->H' p=some (lstG (ngS nm) l)->Q (.ref p) H'
theorem Yb{c:Nat}:∀{b:Nat} {rs:List Rn},FitR c b rs->b<=c->∀k,Ya b (rs.take k)<=c
 | b,[],_,hb,k=>by simpa[Ya] using hb
 | b,r::rs,ft,hb,0=>by simpa[Ya] using hb
 | b,r::rs,ft,hb,k+1=>by
  show Ya r.n (rs.take k)<=c;exact Yb ft.2 (ft.1.le hb) k
theorem Good.Wk{D:TD}{ls:List (List Nat)}{bs:List Nat}(G:Good D ls bs):(Ma D.c ls).length<=60:=by
 rw[G.bl];exact Nat.le_trans (Yb G.ft (Nat.le_refl _) _) G.c2
theorem Good.xw{D:TD}{ls:List (List Nat)}{bs:List Nat}(G:Good D ls bs)(r:Rn):∀a∈pool D.c (Ma D.c ls) r,a<D.c:=by
 intro a ha;unfold pool at ha;split at ha
 . exact List.mem_range.mp ha
 . exact G.bm a ha
theorem Good.zw{D:TD}{ls:List (List Nat)}{bs:List Nat}(G:Good D ls bs)(r:Rn):(pool D.c (Ma D.c ls) r).length<=60:=by
 unfold pool;split
 . rw[List.length_range];exact G.c2
 . exact G.Wk
theorem Good.Ho{D:TD}{ls:List (List Nat)}{bs:List Nat}(G:Good D ls bs)(hg:Bool):∀a∈rf D ls bs hg,a<D.c:=by
 intro a ha;unfold rf at ha;split at ha
 . cases ha
 . split at ha
   . exact G.xw _ a ((List.mem_filter.mp ha).1)
   . cases ha
theorem Good.left_l{D:TD}{ls:List (List Nat)}{bs:List Nat}(G:Good D ls bs)(hg:Bool):(rf D ls bs hg).length<=60:=by
 unfold rf;split
 . exact Nat.zero_le _
 . split
   . exact Nat.le_trans (List.length_filter_le _ _) (G.zw _)
   . exact Nat.zero_le _
theorem r_niT{K:PySem.W.Frag}{H:Hp}{Q:VK}{p:Addr}{fs:List Nat}{x:Nat}(h:H p=some (tupN fs))(q:Q (.bl (!decide (x∈fs))) H):rIn K true (.int (x:Int)) (.ref p) H Q:=by
 refine⟨p,(zs fs).map V.int,rfl,.inr (SqT.of h),rfl,?_,?_⟩
 . rw[List.all_map];exact List.all_eq_true.2 λ_ _=>rfl
 . rw[inV_zs];exact q
theorem TsB.snoc{α:Type}{ob:α->HO}{k:Bool}{H H':Hp}{f g p:Addr}{ps:List Addr}{qs:List α}{q:α}(F:TsB ob k H f ps qs)(s:Same H H')(hg:H' g=some (obB k (ps.map V.ref++[.ref p])))(hp:H' p=some (ob q)):TsB ob k H' g (ps++[p]) (qs++[q]):=by
 refine⟨by rw[List.map_append];exact hg,λi p' h=>?_,by rw[List.length_append,List.length_append,F.ln];rfl⟩;by_cases hi:i<ps.length
 . rw[List.getElem?_append_left hi]at h
   obtain⟨q',a,b⟩:=F.it i p' h;exact⟨q',by rw[List.getElem?_append_left (by rw[<-F.ln];exact hi)];exact a,s _ _ b⟩
 . rw[List.getElem?_append_right (by omega)]at h
   have e:i-ps.length=0:=by
    cases z:i-ps.length with
    | zero=>rfl
    | succ k=>rw[z]at h;simp at h
   rw[e]at h;simp at h;subst h;exact⟨q,by rw[List.getElem?_append_right (by rw[<-F.ln];omega),<-F.ln,e];rfl,hp⟩
theorem Hy{ms:List Int}{l:List Nat}(h:ms.Perm (zs l)):∃zn:List Nat,ms=zs zn/\zn.Perm l:=by
 refine⟨ms.map Int.toNat,?_,?_⟩
 . unfold zs
   rw[List.map_map];refine(List.map_id ms).symm.trans (List.map_congr_left λx hx=>?_);have:=h.subset hx;unfold zs at this;obtain⟨n,_,rfl⟩:=List.mem_map.mp this;rfl
 . have:=h.map Int.toNat
   unfold zs at this;rw[List.map_map,show (Int.toNat∘λx:Nat=>(x:Int))=id from rfl,List.map_id]at this;exact this
theorem pw_zs{l:List Nat}(h:(zs l).Pairwise (·<=·)):l.Pairwise (·<=·):=by
 unfold zs at h;rw[List.pairwise_map]at h;exact h.imp λz=>by omega
section
variable (CS CT : Addr)
def spTerI:Sp:=λvs H Q _=>∃(x dx r m s:Addr) (D:TD),vs=[.ref x,.ref r,.ref m,.ref s]/\H x=some (.ins CT dx [])/\H r=some (.lst ((List.range D.c).map (ngS D.nm)))/\H m=some (obM true D.F D.c)/\TsB rnO false H s D.ps D.rs/\x≠r/\x≠m/\x≠s/\∀H',Fr1 x H H'->Ter CT H' x D->Q .non H'
def mx:Sp:=λvs H Q _=>∃(t p:Addr) (D:TD) (l:List Nat) (k:Bool),vs=[.ref t,.ref p]/\Ter CT H t D/\H p=some (obN k l)/\(∀a∈l,a<D.c)/\l.length<512/\NewG D.nm H Q l
def spSitI:Sp:=λvs H Q _=>∃(x dx t o b:Addr) (hg:Bool),vs=[.ref x,.ref t,.ref o,.ref b,.bl hg]/\H x=some (.ins CS dx [])/\∀H',Fr1 x H H'->H' x=some (.ins CS dx (sitF t o b hg))->Q .non H'
def ax:Sp:=λvs H Q _=>∃(x:Addr) (D:TD) (os:List Addr) (ls:List (List Nat)) (bs:List Nat) (hg:Bool),vs=[.ref x]/\Sit CS CT H x D os ls bs hg/\ls.length<=20/\∃p,D.ps[ls.length]?=some p/\Q (.ref p) H
def spSat:Sp:=λvs H Q _=>∃(x:Addr) (D:TD) (os:List Addr) (ls:List (List Nat)) (bs:List Nat) (hg:Bool),vs=[.ref x]/\Sit CS CT H x D os ls bs hg/\D.c<=60/\∀b H',Same H H'->H' b=some (tupN (Ma D.c ls))->Q (.ref b) H'
def spDueS:Sp:=λvs H Q _=>∃(x:Addr) (D:TD) (os:List Addr) (ls:List (List Nat)) (bs:List Nat) (hg:Bool),vs=[.ref x]/\Sit CS CT H x D os ls bs hg/\ls.length<=D.rs.length/\ls.length<=20/\Q (.str (dueN D.rs ls.length hg)) H
def px:Sp:=λvs H Q _=>∃(x:Addr) (D:TD) (os:List Addr) (ls:List (List Nat)) (bs:List Nat) (hg:Bool),vs=[.ref x]/\Sit CS CT H x D os ls bs hg/\Good D ls bs/\NewL H Q (rf D ls bs hg)
def Zt:Sp:=λvs H Q _=>∃(x:Addr) (D:TD) (os:List Addr) (ls:List (List Nat)) (bs:List Nat) (hg:Bool),vs=[.ref x]/\Sit CS CT H x D os ls bs hg/\Good D ls bs/\NewG D.nm H Q (Ma D.c ls)
def Zw:Sp:=λvs H Q _=>∃(x:Addr) (D:TD) (os:List Addr) (ls:List (List Nat)) (bs:List Nat) (hg:Bool),vs=[.ref x]/\Sit CS CT H x D os ls bs hg/\Good D ls bs/\NewG D.nm H Q (rf D ls bs hg)
def Yt:Sp:=λvs H Q _=>∃(x:Addr) (D:TD) (os:List Addr) (ls:List (List Nat)) (bs:List Nat) (hg:Bool),vs=[.ref x]/\Sit CS CT H x D os ls bs hg/\Good D ls bs/\NewG D.nm H Q bs
def Tt:Sp:=λvs H Q _=>∃(x:Addr) (D:TD) (os:List Addr) (ls:List (List Nat)) (bs:List Nat) (hg:Bool),vs=[.ref x]/\Sit CS CT H x D os ls bs hg/\Good D ls bs/\∀(p:Addr) (H':Hp) (qs:List Addr),H p=none->Same H H'->TsAt (lstG (ngS D.nm)) H' p qs ls->Q (.ref p) H'
def qx:Sp:=λvs H Q _=>∃(x:Addr) (D:TD) (os:List Addr) (ls:List (List Nat)) (bs:List Nat) (hg:Bool) (h:Nat),vs=[.ref x]/\Sit CS CT H x D os ls bs hg/\Good D ls bs/\ls.length=D.rs.length/\(Ma D.c ls)[0]?=some h/\∀H',Same H H'->Q (.str (D.nm h)) H'
def Jm(H:Hp)(Q:VK)(D:TD)(ls:List (List Nat))(bs:List Nat)(hg:Bool):Prop:=∀(y:Addr) (H':Hp) (os:List Addr),Same H H'->Sit CS CT H' y D os ls bs hg->Q (.ref y) H'
def Yw:Sp:=λvs H Q _=>∃(x p:Addr) (D:TD) (os:List Addr) (ls:List (List Nat)) (bs l:List Nat) (hg:Bool),vs=[.ref x,.ref p]/\Sit CS CT H x D os ls bs hg/\ls.length<=20/\H p=some (lstN l)/\Jm CS CT H Q D (ls++[l]) [] false
def cx:Sp:=λvs H Q _=>∃(x:Addr) (D:TD) (os:List Addr) (ls:List (List Nat)) (bs:List Nat) (hg:Bool) (r:Rn),vs=[.ref x]/\Sit CS CT H x D os ls bs hg/\Good D ls bs/\dueN D.rs ls.length hg="poll"/\D.rs[ls.length]?=some r /\
 (und D.c D.F (Ma D.c ls) r=none->Jm CS CT H Q D ls [] true)/\∀z,und D.c D.F (Ma D.c ls) r=some z->Jm CS CT H Q D (ls++[z]) [] false
def Dx:Sp:=λvs H Q _=>∃(x:Addr) (D:TD) (os:List Addr) (ls:List (List Nat)) (bs:List Nat) (hg:Bool) (r:Rn) (a:Nat),vs=[.ref x,.str (D.nm a)]/\Sit CS CT H x D os ls bs hg/\Good D ls bs/\dueN D.rs ls.length hg="draw"/\D.rs[ls.length]?=some r/\a∈rf D ls bs hg/\bs.length<60 /\
 (bs.length+1≠r.n->Jm CS CT H Q D ls (bs++[a]) hg)/\(bs.length+1=r.n->∀z:List Nat,z.Perm (bs++[a])->z.Pairwise (·<=·)->Jm CS CT H Q D (ls++[z]) [] false)
end
end BL
namespace L2
open PySem PySem.Spec PyProof.Rows
section
variable {X : Cx}
def rLenS:List V->Hp->VK->Prop:=λxs H Q=>∃y:Str,xs=[.str y]/\y.length<=sizeLine/\Q (.int y.length) H
theorem lenS:vc X (.builtin "len") rLenS:=by
 intro pins s σ H xs us Q I r h;obtain⟨y,rfl,hz,q⟩:=h;obtain⟨u,rfl,rx⟩:=vals1 r;obtain⟨t,rfl⟩:=rx;have hn:=kg;exact PySem.P.len_str (by omega) ⟨.int y.length,H,I.tok _,⟨_,rfl⟩,q⟩
def rGeS:R2:=λx y H Q=>∃i j:Str,x= .str i/\y= .str j/\Q (.bl (!decide (i.cps.toList<j.cps.toList))) H
def rLeS:R2:=λx y H Q=>∃i j:Str,x= .str i/\y= .str j/\Q (.bl (!decide (j.cps.toList<i.cps.toList))) H
theorem geS:OpR X (compareOp .GtE) rGeS:=op_geS
theorem leS:OpR X (compareOp .LtE) rLeS:=op_leS
end
section
variable {H : Hp} {Q : VK}
theorem iw{y:Str}(h1:y.length<=sizeLine)(h:Q (.int y.length) H):rLenS [.str y] H Q:=⟨y,rfl,h1,h⟩
theorem r_geS{i j:Str}(h:Q (.bl (!decide (i.cps.toList<j.cps.toList))) H):rGeS (.str i) (.str j) H Q:=⟨i,j,rfl,rfl,h⟩
theorem r_leS{i j:Str}(h:Q (.bl (!decide (j.cps.toList<i.cps.toList))) H):rLeS (.str i) (.str j) H Q:=⟨i,j,rfl,rfl,h⟩
end
end L2
namespace BL
open PySem PySem.Spec PyProof.Rows L2 BR
theorem zh(x:Str):∀cs:List Str,inV (.str x) (cs.map V.str)=decide (x∈cs)
 | []=>by simp[inV]
 | a::l=>by
  have e:inV (.str x) ((a::l).map V.str)=((a==x)||inV (.str x) (l.map V.str)):=rfl;rw[e,zh x l];by_cases z:x=a
  . subst z;simp
  . have:(a==x)=false:=by simpa using λy=>z y.symm
    rw[this,Bool.false_or];exact decide_eq_decide.mpr ⟨λh=>List.mem_cons_of_mem _ h,λh=>(List.mem_cons.mp h).resolve_left z⟩
theorem Hw(cs:List Str):(cs.map V.str).all Ac=true:=by
 rw[List.all_map];exact List.all_eq_true.2 λa _=>rfl
theorem qw{K:PySem.W.Frag}{H:Hp}{Q:VK}{p:Addr}{cs:List Str}{x:Str}(h:H p=some (.tup (cs.map V.str)))(q:Q (.bl (decide (x∈cs))) H):rIn K false (.str x) (.ref p) H Q :=
 ⟨p,_,rfl,.inr (SqT.of h),rfl,Hw cs,by rw[zh];exact q⟩
theorem r_inSL{K:PySem.W.Frag}{H:Hp}{Q:VK}{p:Addr}{cs:List Str}{x:Str}(h:H p=some (.lst (cs.map V.str)))(q:Q (.bl (decide (x∈cs))) H):rIn K false (.str x) (.ref p) H Q :=
 ⟨p,_,rfl,.inl (SqL.of h),rfl,Hw cs,by rw[zh];exact q⟩
structure NmOk(y:Str):Prop where
 lo:1<=y.length
 hi:y.length<=8
 az:∀c∈y.cps.toList,¬ [c]<(Str.ofString "a").cps.toList/\¬(Str.ofString "z").cps.toList<[c]
def spIsNm:Sp:=λvs H Q _=>∃y:Str,vs=[.str y]/\NmOk y/\∀H',Same H H'->Q (.bl true) H'
def Vt:Sp:=λvs H Q _=>∃(p:Addr) (ns:List Str),vs=[.ref p]/\H p=some (.lst (ns.map V.str))/\ns.length<512/\(∀y∈ns,NmOk y)/\∀H',Same H H'->Q .non H'
def MayR:Rn->Prop
 | .lot n=>1<=n/\n<=60
 | .vote n q _=>1<=n/\n<=60/\1<=q/\q<=500
def spMay:Sp:=λvs H Q _=>∃(p:Addr) (r:Rn),vs=[.ref p]/\H p=some (rnO r)/\MayR r/\Q (.bl true) H
def cn(p:Str×Str):HO:=.tup [.str p.1,.str p.2]
def yq:Sp:=λvs H Q _=>∃(a b:Addr) (ps:List Addr) (rl:List (Str×Str)) (cs:List Str),vs=[.ref a,.ref b]/\TsB cn false H a ps rl/\rl.length<512/\H b=some (.tup (cs.map V.str))/\∀(p:Addr) (H':Hp),H p=none->Same H H'->H' p=some (.lst (rl.map λq=>V.bl (decide (q.2∈cs))))->Q (.ref p) H'
end BL
namespace L2
open PySem PySem.Spec PyProof.Rows
end L2
namespace L2
open PySem PySem.Spec PyProof.Rows
theorem yd{A:Around}(h:A.units+64<cLine):A.units+1<cLine:=by omega
end L2
namespace L2
open PySem PySem.Spec PyProof.Rows
theorem Tw{P:Program}{w:World}{a:Addr}{ns:List Str}{kvs:KX}(hz:ns.length<=sizeLine):TupX a (ns.map V.str)≠DX P w a kvs:=by
 intro e;have e2:(λh:Heap=>(ns.map V.str).length<=sizeLine/\∃(its:List Value) (n:Nat),Vals (ns.map V.str) its/\h.get? a=some { cls:=.type "tuple",data:=.seq its.toArray n })=dxOk P w a kvs:=HO.ext.inj e;let o:Obj:={ cls:=.type "tuple",data:=.seq ((ns.map λs=>Value.str s 0).toArray) 0 }
 have hg:({ objs:=Array.replicate (a+1) o }:Heap).get? a=some o:=by
  unfold Heap.get?;have:(Array.replicate (a+1) o)[a]?=some o:=by
   rw[Array.getElem?_replicate];simp
  rw[show ({ objs:=Array.replicate (a+1) o }:Heap).objs=Array.replicate (a+1) o from rfl,this]
 have rv:∀ns:List Str,Vals (ns.map V.str) (ns.map λs=>Value.str s 0):=λns=>by
  induction ns with
  | nil=>exact .nil
  | cons a l ih=>exact .cons ⟨0,rfl⟩ ih
 have:dxOk P w a kvs { objs:=Array.replicate (a+1) o }:=by
  rw[<-e2];exact⟨by rw[List.length_map];exact hz,_,0,rv ns,hg⟩
 obtain⟨_,_,xs,_,o',es,ep,g,_,d,_⟩:=this;rw[hg]at g;obtain rfl:=Option.some.inj g;exact nomatch d
def Fr3(x k p:Addr)(H H':Hp):Prop:=∀a o,H a=some o->a≠x->a≠k->a≠p->H' a=some o
end L2
namespace BL
open PySem PySem.Spec PyProof.Rows L2 BR
section
variable {P : Program} {w : World} {K : PySem.W.Frag} {CH : Addr}
variable (P w K CH) in
structure Hou(H:Hp)(x k p:Addr)(kvs:KX)(n:Nat):Prop where
 ex:∃dx f past,H x=some (.ins CH dx (houF k p f))/\H k=some (DX P w k kvs)/\KeysIn K H kvs/\H p=some (.lst past)/\past.length=n
theorem ng{H H':Hp}{kvs:KX}(h:KeysIn K H kvs)(s:∀a xs,Rd H a (.tup xs)->Rd H' a (.tup xs)):KeysIn K H' kvs:=λq hq=>(h q hq).elim (λz=>.inl (s _ _ z)) .inr
theorem Rx{H H':Hp}(s:Same H H'){a:Addr}{u:HO}(h:Rd H a u):Rd H' a u:=h.elim (λz=>.inl (s _ _ z)) λ⟨o,z⟩=>.inr ⟨o,s _ _ z⟩
theorem Hou.same{H H':Hp}{x k p:Addr}{kvs:KX}{n:Nat}(h:Hou P w K CH H x k p kvs n)(s:Same H H'):Hou P w K CH H' x k p kvs n:=by
 obtain⟨dx,f,past,h1,h2,h3,h4,h5⟩:=h.ex;exact⟨dx,f,past,s _ _ h1,s _ _ h2,ng h3 λa xs z=>Rx s z,s _ _ h4,h5⟩
theorem Yu{kvs:KX}{k:List Key}{b:Addr}{v:V}{q:(List Key×Addr)×V}(h:q∈putX kvs k b v):q.1=(k,b)\/∃q0∈kvs,q0.1=q.1:=by
 unfold putX at h;split at h
 . obtain⟨q0,h0,e⟩:=List.mem_map.mp h
   refine .inr ⟨q0,h0,?_⟩;rw[<-e];split<;>rfl
 . rcases List.mem_append.mp h with h|h
   . exact .inr ⟨q,h,rfl⟩
   . obtain rfl:=List.mem_singleton.mp h
     exact .inl rfl
theorem sv{H:Hp}{kvs:KX}{k:List Key}{b:Addr}{v:V}(h:KeysIn K H kvs)(hb:SqT K H b (k.map kV)):KeysIn K H (putX kvs k b v):=by
 intro q hq;rcases Yu hq with e|⟨q0,h0,e⟩
 . rw[e];exact hb
 . rw[<-e];exact h q0 h0
theorem Yv{H:Hp}{a k:Addr}{xs:List V}{o o':HO}(hk:H k=some o)(n1:∀xs,o≠ .tup xs)(n2:∀c xs,o≠ .frz c xs)(h:Rd H a (.tup xs)):Rd (upd H k o') a (.tup xs):=by
 rcases h with h|⟨c,h⟩
 . exact .inl (by rw[va (λz=>by subst z;rw[hk]at h;exact n1 _ (Option.some.inj h))];exact h)
 . exact .inr ⟨c,by rw[va (λz=>by subst z;rw[hk]at h;exact n2 _ _ (Option.some.inj h))];exact h⟩
theorem Hou.put{H:Hp}{x k p b v:Addr}{kvs:KX}{n:Nat}{key:List Key}(h:Hou P w K CH H x k p kvs n)(hb:SqT K H b (key.map kV)):Hou P w K CH (upd H k (DX P w k (putX kvs key b (.ref v)))) x k p (putX kvs key b (.ref v)) n:=by
 obtain⟨dx,f,past,h1,h2,h3,h4,h5⟩:=h.ex;refine⟨dx,f,past,?_,da,sv (ng h3 λa xs z=>Yv h2 (λ_ z=>nomatch z) (λ_ _ z=>nomatch z) z) (hb.elim (λz=>.inl (Yv h2 (λ_ z=>nomatch z) (λ_ _ z=>nomatch z) z)) .inr),?_,h5⟩
 . rw[va (zc h1 h2 λz=>nomatch z)];exact h1
 . rw[va (zc h4 h2 λz=>nomatch z)];exact h4
theorem xv{k p f g:Addr}:putF "future" (.ref g) (houF k p f)=houF k p g:=rfl
theorem Hou.did{H H1:Hp}{x k p dx f g:Addr}{kvs:KX}{n:Nat}{past:List V}{c:V}(h:Hou P w K CH H1 x k p kvs n)(h1:H1 x=some (.ins CH dx (houF k p f)))(h4:H1 p=some (.lst past))(S:Same H H1)(hg:upd H1 p (.lst (past++[c])) g=none):Hou P w K CH (upd (upd (upd H1 p (.lst (past++[c]))) g (.lst [])) x (.ins CH dx (houF k p g))) x k p kvs (n+1)/\Fr3 x k p H (upd (upd (upd H1 p (.lst (past++[c]))) g (.lst [])) x (.ins CH dx (houF k p g))):=by
 obtain⟨dx',f',past',_,h2,h3,h4',h5⟩:=h.ex;have ep:past'=past:=by rw[h4]at h4';exact(HO.lst.inj (Option.some.inj h4')).symm
 have ngp:g≠p:=λz=>by subst z;rw[da]at hg;exact nomatch hg
 have hg1:H1 g=none:=by rw[va ngp]at hg;exact hg
 have ngx:g≠x:=(ba h1 hg1).symm;have ngk:g≠k:=(ba h2 hg1).symm;have npx:p≠x:=zc h4 h1 λz=>nomatch z;have nkx:k≠x:=zc h2 h1 λz=>nomatch z;have nkp:k≠p:=zc h2 h4 λz=>nomatch z;have st:∀a o,H1 a=some o->a≠x->a≠p->upd (upd (upd H1 p (.lst (past++[c]))) g (.lst [])) x (.ins CH dx (houF k p g)) a=some o:=λa o e n1 n3=>by
  rw[va n1,va (ba e hg1),va n3];exact e
 refine⟨⟨dx,g,past++[c],da,st _ _ h2 nkx nkp,ng h3 λa xs z=>?_,by rw[va npx,va ngp.symm,da],by rw[List.length_append,<-h5,ep];rfl⟩,λa o e n1 _ n3=>st a o (S a o e) n1 n3⟩;rcases z with z|⟨o,z⟩
 . exact .inl (st _ _ z (zc z h1 λz=>nomatch z) (zc z h4 λz=>nomatch z))
 . exact .inr ⟨o,st _ _ z (zc z h1 λz=>nomatch z) (zc z h4 λz=>nomatch z)⟩
inductive Thing:HO->Prop
 | tup (xs):Thing (.tup xs)
 | frz (o u):Thing (.frz o u)
 | sit (C dx t o b h):Thing (.ins C dx (sitF t o b h))
 | ter (C dx r m s v):Thing (.ins C dx (terF r m s v))
theorem Hou.keep{H H':Hp}{x k p:Addr}{kvs:KX}{n:Nat}(h:Hou P w K CH H x k p kvs n)(F:Fr3 x k p H H'){a:Addr}{o:HO}(ha:H a=some o)(t:Thing o):H' a=some o:=by
 obtain⟨dx,f,past,h1,h2,h3,h4,h5⟩:=h.ex;refine F a o ha (λz=>?_) (λz=>?_) (λz=>?_)
 . subst z
   rw[ha]at h1;obtain rfl:=Option.some.inj h1;generalize e:HO.ins CH dx (houF k p f)=o at t;cases t with
   | tup=>exact nomatch e
   | frz=>exact nomatch e
   | sit=>injection e with _ _ e;injection e with e;injection e with e;exact absurd e (by decide)
   | ter=>injection e with _ _ e;injection e with e;injection e with e;exact absurd e (by decide)
 . subst z
   rw[ha]at h2;obtain rfl:=Option.some.inj h2;generalize e:DX P w a kvs=o at t;cases t<;>exact nomatch e
 . subst z
   rw[ha]at h4;obtain rfl:=Option.some.inj h4;generalize e:HO.lst past=o at t;cases t<;>exact nomatch e
theorem Hou.keepX{H H':Hp}{x k p:Addr}{kvs:KX}{n:Nat}(h:Hou P w K CH H x k p kvs n)(F:Fr3 x k p H H'){a:Addr}{ns:List Str}(ha:H a=some (TupX a (ns.map V.str)))(hz:ns.length<=sizeLine):H' a=some (TupX a (ns.map V.str)):=by
 obtain⟨dx,f,past,h1,h2,h3,h4,h5⟩:=h.ex;refine F a _ ha (λz=>?_) (λz=>?_) (λz=>?_)
 . subst z;rw[ha]at h1;exact nomatch h1
 . subst z;rw[ha]at h2;exact Tw hz (Option.some.inj h2)
 . subst z;rw[ha]at h4;exact nomatch h4
theorem Hou.ts{α:Type}{ob:α->HO}{H H':Hp}{x k p f:Addr}{kvs:KX}{n:Nat}{ps:List Addr}{qs:List α}(h:Hou P w K CH H x k p kvs n)(F:Fr3 x k p H H')(hob:∀a,Thing (ob a))(T:TsB ob false H f ps qs):TsB ob false H' f ps qs :=
 ⟨h.keep F T.ls (.tup _),λi q hq=>by obtain⟨r,a,b⟩:=T.it i q hq;exact⟨r,a,h.keep F b (hob r)⟩,T.ln⟩
theorem dg:∀r,Thing (rnO r)
 | .lot n=>.tup _
 | .vote n q w=>.tup _
theorem Hou.sit{CS CT:Addr}{H H':Hp}{x k p y:Addr}{kvs:KX}{n:Nat}{D:TD}{os:List Addr}{ls:List (List Nat)}{bs:List Nat}{hg:Bool}(h:Hou P w K CH H x k p kvs n)(F:Fr3 x k p H H')(hc:D.c<=60)(S:Sit CS CT H y D os ls bs hg):Sit CS CT H' y D os ls bs hg:=by
 obtain⟨dy,t,o,b,h1,⟨dt,r,m,st,t1,t2,t3,t4⟩,h3,h4⟩:=S.ex;refine⟨dy,t,o,b,h.keep F h1 (.sit ..),⟨dt,r,m,st,h.keep F t1 (.ter ..),?_,h.keep F t3 (.tup _),h.ts F dg t4⟩,h.ts F (λ_=>.tup _) h3,h.keep F h4 (.tup _)⟩;have e:(List.range D.c).map (ngS D.nm)=((List.range D.c).map D.nm).map V.str:=by rw[List.map_map];rfl
 rw[e]at t2 ⊢;exact h.keepX F t2 (by rw[List.length_map,List.length_range,sizeLine_eq];omega)
def kd:List Key:=[.inr "roll",.inr ""]
variable (P w K CH)
def spHouI:Sp:=λvs H Q _=>∃x dx:Addr,vs=[.ref x]/\H x=some (.ins CH dx [])/\∀(H':Hp) (k p b r:Addr),H k=none->H p=none->Fr1 x H H'->Hou P w K CH H' x k p [((kd,b),.ref r)] 0->H' r=some (.tup [])->Q .non H'
def spPut:Sp:=λvs H Q _=>∃(x k p b v:Addr) (kvs:KX) (n:Nat) (key:List Key),vs=[.ref x,.ref b,.ref v]/\Hou P w K CH H x k p kvs n/\SqT K H b (key.map kV)/\kvs.length<100/\∀H',Fr1 k H H'->Hou P w K CH H' x k p (putX kvs key b (.ref v)) n->Q .non H'
def Done(H:Hp)(Q:VK)(x k p b v:Addr)(kvs:KX)(n:Nat)(key:List Key):Prop:=∀H',Fr3 x k p H H'->Hou P w K CH H' x k p (putX kvs key b (.ref v)) (n+1)->Q .non H'
def spDo:Sp:=λvs H Q _=>∃(x k p d b v:Addr) (kvs:KX) (n:Nat) (key:List Key),vs=[.ref x,.ref d,.ref b,.ref v]/\Hou P w K CH H x k p kvs n/\SqT K H b (key.map kV)/\kvs.length<100/\n<1000/\Done P w K CH H Q x k p b v kvs n key
def Xt:Sp:=λvs H Q _=>∃(x k p:Addr) (kvs:KX) (n:Nat) (y c:Str) (r:Addr) (ps:List Addr) (rl:List (Str×Str)),vs=[.ref x,.str y,.str c]/\Hou P w K CH H x k p kvs n/\kvs.length<100/\n<1000/\NmOk y/\NmOk c/\valX kvs kd=some (.ref r)/\TsB cn false H r ps rl/\rl.length<60/\y∉rl.map (·.1) /\
 ∀(b r2:Addr) (ps2:List Addr) (H':Hp),Fr3 x k p H H'->Hou P w K CH H' x k p (putX kvs kd b (.ref r2)) (n+1)->TsB cn false H' r2 ps2 (rl++[(y,c)])->Q .non H'
def Wt:Sp:=λvs H Q _=>∃(x k p a:Addr) (kvs:KX) (n:Nat) (y c:Str),vs=[.ref x,.str y,.ref a]/\Hou P w K CH H x k p kvs n/\kvs.length<100/\n<1000/\NmOk y/\NmOk c/\H a=some (.lst [.str c]) /\
 ∀(b v:Addr) (H':Hp),Fr3 x k p H H'->Hou P w K CH H' x k p (putX kvs [.inr "league",.inr y] b (.ref v)) (n+1)->H' v=some (.tup [.str c])->Q .non H'
def spLay:Sp:=λvs H Q _=>∃(x k p a:Addr) (kvs:KX) (n:Nat) (y:Str) (ps:List Addr) (rs:List Rn),vs=[.ref x,.str y,.ref a]/\Hou P w K CH H x k p kvs n/\kvs.length<100/\n<1000/\NmOk y/\TsB rnO true H a ps rs/\rs.length<=20/\(∀r∈rs,MayR r) /\
 ∀(b v:Addr) (ps2:List Addr) (H':Hp),Fr3 x k p H H'->Hou P w K CH H' x k p (putX kvs [.inr "row",.inr y] b (.ref v)) (n+1)->TsB rnO false H' v ps2 rs->Q .non H'
theorem vf{α β:Type}(l:List α)(d:α)(g:α->β):(List.range l.length).map (λi=>g (l[i]?.getD d))=l.map g:=by
 refine List.ext_getElem? λi=>?_;rw[List.getElem?_map,List.getElem?_map];by_cases h:i<l.length
 . rw[List.getElem?_range h]
   show some (g (l[i]?.getD d))=_;rw[List.getElem?_eq_getElem h];rfl
 . rw[List.getElem?_eq_none (by rw[List.length_range];omega),List.getElem?_eq_none (by omega)];rfl
def bgTD(rl:List (Str×Str))(cs:List Str)(ps:List Addr)(rs:List Rn):TD:=⟨rl.length,λi=>(rl[i]?.getD ("","")).1,λi=>decide ((rl[i]?.getD ("","")).2∈cs),ps,rs⟩
def au(CS CT:Addr):Sp:=λvs H Q _=>∃(x k p:Addr) (kvs:KX) (n:Nat) (y yr yl:Str) (r rw' lg:Addr) (ps qs:List Addr) (rl:List (Str×Str)) (rs:List Rn) (cs:List Str),vs=[.ref x,.str y,.str yr,.str yl]/\Hou P w K CH H x k p kvs n/\kvs.length<100/\n<1000/\NmOk y/\valX kvs [.inr "sitting",.inr y]=none /\
 valX kvs [.inr "row",.inr yr]=some (.ref rw')/\TsB rnO false H rw' qs rs/\valX kvs [.inr "league",.inr yl]=some (.ref lg)/\H lg=some (.tup (cs.map V.str))/\valX kvs kd=some (.ref r)/\TsB cn false H r ps rl/\1<=rl.length/\rl.length<=60/\FitR rl.length rl.length rs/\Ya rl.length rs=1/\rs.length<=20 /\
 ∀(b v:Addr) (H':Hp),Fr3 x k p H H'->Hou P w K CH H' x k p (putX kvs [.inr "sitting",.inr y] b (.ref v)) (n+1)->Sit CS CT H' v (bgTD rl cs qs rs) [] [] [] false->Q .non H'
section
variable (CS CT : Addr)
structure Qe(H:Hp)(x k p:Addr)(kvs:KX)(n:Nat)(y:Str)(sx:Addr)(D:TD)(os:List Addr)(ls:List (List Nat))(bs:List Nat)(hg:Bool):Prop where
 ho:Hou P w K CH H x k p kvs n
 v:valX kvs [.inr "sitting",.inr y]=some (.ref sx)
 st:Sit CS CT H sx D os ls bs hg
 gd:Good D ls bs
def spDueH:Sp:=λvs H Q _=>∃(x k p:Addr) (kvs:KX) (n:Nat) (y:Str) (sx:Addr) (D:TD) (os:List Addr) (ls:List (List Nat)) (bs:List Nat) (hg:Bool),vs=[.ref x,.str y]/\Qe P w K CH CS CT H x k p kvs n y sx D os ls bs hg/\∀H',Same H H'->Q (.str (dueN D.rs ls.length hg)) H'
def uq(f:TD->List (List Nat)->List Nat->Bool->List Nat):Sp:=λvs H Q _=>∃(x k p:Addr) (kvs:KX) (n:Nat) (y:Str) (sx:Addr) (D:TD) (os:List Addr) (ls:List (List Nat)) (bs:List Nat) (hg:Bool),vs=[.ref x,.str y]/\Qe P w K CH CS CT H x k p kvs n y sx D os ls bs hg/\NewG D.nm H Q (f D ls bs hg)
def Ut:Sp:=λvs H Q _=>∃(x k p:Addr) (kvs:KX) (n:Nat) (y:Str) (sx:Addr) (D:TD) (os:List Addr) (ls:List (List Nat)) (bs:List Nat) (hg:Bool),vs=[.ref x,.str y]/\Qe P w K CH CS CT H x k p kvs n y sx D os ls bs hg/\∀(p:Addr) (H':Hp) (qs:List Addr),H p=none->Same H H'->TsAt (lstG (ngS D.nm)) H' p qs ls->Q (.ref p) H'
def wx:Sp:=λvs H Q _=>∃(x k p:Addr) (kvs:KX) (n:Nat) (y:Str) (sx:Addr) (D:TD) (os:List Addr) (ls:List (List Nat)) (bs:List Nat) (hg:Bool) (h:Nat),vs=[.ref x,.str y]/\Qe P w K CH CS CT H x k p kvs n y sx D os ls bs hg/\ls.length=D.rs.length/\(Ma D.c ls)[0]?=some h/\∀H',Same H H'->Q (.str (D.nm h)) H'
def Uv(H:Hp)(Q:VK)(x k p:Addr)(kvs:KX)(n:Nat)(y:Str)(D:TD)(ls:List (List Nat))(bs:List Nat)(hg:Bool):Prop:=∀(b v:Addr) (H':Hp) (os:List Addr),Fr3 x k p H H'->Hou P w K CH H' x k p (putX kvs [.inr "sitting",.inr y] b (.ref v)) (n+1)->Sit CS CT H' v D os ls bs hg->Q .non H'
def Ax:Sp:=λvs H Q _=>∃(x k p:Addr) (kvs:KX) (n:Nat) (y:Str) (sx:Addr) (D:TD) (os:List Addr) (ls:List (List Nat)) (bs:List Nat) (hg:Bool) (r:Rn) (a:Nat),vs=[.ref x,.str y,.str (D.nm a)]/\Qe P w K CH CS CT H x k p kvs n y sx D os ls bs hg/\kvs.length<100/\n<1000/\dueN D.rs ls.length hg="draw"/\D.rs[ls.length]?=some r/\a∈rf D ls bs hg/\bs.length<60 /\
 (bs.length+1≠r.n->Uv P w K CH CS CT H Q x k p kvs n y D ls (bs++[a]) hg)/\(bs.length+1=r.n->∀z:List Nat,z.Perm (bs++[a])->z.Pairwise (·<=·)->Uv P w K CH CS CT H Q x k p kvs n y D (ls++[z]) [] false)
def gx:Sp:=λvs H Q _=>∃(x k p:Addr) (kvs:KX) (n:Nat) (y:Str) (sx:Addr) (D:TD) (os:List Addr) (ls:List (List Nat)) (bs:List Nat) (hg:Bool) (r:Rn),vs=[.ref x,.str y]/\Qe P w K CH CS CT H x k p kvs n y sx D os ls bs hg/\kvs.length<100/\n<1000/\dueN D.rs ls.length hg="poll"/\D.rs[ls.length]?=some r /\
 (und D.c D.F (Ma D.c ls) r=none->Uv P w K CH CS CT H Q x k p kvs n y D ls [] true)/\∀z,und D.c D.F (Ma D.c ls) r=some z->Uv P w K CH CS CT H Q x k p kvs n y D (ls++[z]) [] false
end
def cp:Sp:=λvs H Q _=>∃(x k p:Addr) (kvs:KX) (n:Nat) (y:Str) (r lg:Addr) (ps:List Addr) (rl:List (Str×Str)) (cs:List Str),vs=[.ref x,.str y]/\Hou P w K CH H x k p kvs n/\valX kvs [.inr "league",.inr y]=some (.ref lg)/\H lg=some (.tup (cs.map V.str))/\valX kvs kd=some (.ref r)/\TsB cn false H r ps rl/\rl.length<=60 /\
 ∀(q:Addr) (H':Hp),H q=none->Same H H'->H' q=some (.lst (((rl.filter λq=>decide (q.2∈cs)).map (·.1)).map V.str))->Q (.ref q) H'
def Bq(kind:Str):Sp:=λvs H Q _=>∃(x k p:Addr) (kvs:KX) (n:Nat) (y:Str) (v:V),vs=[.ref x,.str y]/\Hou P w K CH H x k p kvs n/\valX kvs [.inr kind,.inr y]=some v/\∀H',Same H H'->Q v H'
end
def nqA(st s t k:Nat):List Nat:=List.replicate t 113++[97+(s+st*k)%26]
def nqB(st s t k:Nat):List Nat:=(97+(s+st*k)%26)::List.replicate t 113
theorem Wy(n:Nat):(Txt.mul ⟨#[113]⟩ (n:Int)).cps.toList=List.replicate n 113:=by
 by_cases h:n=0
 . subst h;rfl
 . exact Xu 113 n (by omega)
theorem nqA_eq{a n:Nat}:Txt.mul ⟨#[113]⟩ (n:Int)++(⟨#[a]⟩:Str)=toS (List.replicate n 113++[a]):=qq (by rw[vt,Wy n];simp[toS])
theorem nqB_eq{a n:Nat}:(⟨#[a]⟩:Str)++Txt.mul ⟨#[113]⟩ (n:Int)=toS (a::List.replicate n 113):=qq (by rw[vt,Wy n];simp[toS])
theorem Aw{st s t i j:Nat}(hst:st=1\/st=3\/st=5\/st=7\/st=9\/st=11)(hi:i<26)(hj:j<26)(f:Nat->List Nat)(hf:f=nqA st s t\/f=nqB st s t)(e:toS (f i)=toS (f j)):i=j:=by
 have e:=Uw e;rcases hf with rfl|rfl
 . have e2:=List.append_inj_right' e rfl
   exact qo (s:=s) hst (by have:=(List.cons.inj e2).1;omega) (by omega)
 . exact qo (s:=s) hst (by have:=(List.cons.inj e).1;omega) (by omega)
theorem Ad{l:List Nat}(h1:1<=l.length)(h2:l.length<=8)(h:∀c∈l,97<=c/\c<=122):NmOk (toS l):=by
 refine⟨?_,?_,λc hc=>?_⟩
 . show 1<=l.toArray.size
   rw[List.size_toArray];exact h1
 . show l.toArray.size<=8
   rw[List.size_toArray];exact h2
 . have hc':c∈l:=by simpa[toS] using hc
   obtain⟨a,b⟩:=h c hc';rw[show (Str.ofString "a").cps.toList=[97] from by decide +kernel,show (Str.ofString "z").cps.toList=[122] from by decide +kernel];constructor
   . intro z
     cases z with
     | rel z=>omega
     | cons z=>cases z
   . intro z
     cases z with
     | rel z=>omega
     | cons z=>cases z
theorem pl_ok{st s t i:Nat}(ht:t<=7)(f:Nat->List Nat)(hf:f=nqA st s t\/f=nqB st s t):NmOk (toS (f i)):=by
 have m1:(s+st*i)%26<26:=Nat.mod_lt _ (by decide);rcases hf with rfl|rfl
 . refine Ad (by unfold nqA;rw[List.length_append,List.length_singleton];omega) (by unfold nqA;rw[List.length_append,List.length_singleton,List.length_replicate];omega) λc hc=>?_
   rcases List.mem_append.mp hc with z|z
   . have:=(List.mem_replicate.mp z).2;omega
   . have:=List.mem_singleton.mp z;omega
 . refine Ad (by unfold nqB;rw[List.length_cons];omega) (by unfold nqB;rw[List.length_cons,List.length_replicate];omega) λc hc=>?_
   rcases List.mem_cons.mp hc with z|z
   . omega
   . have:=(List.mem_replicate.mp z).2;omega
def bx:Sp:=λvs H Q _=>∃(d l:Addr) (c:Nat),vs=[.ref d,.int c]/\DrL H d l/\c<=26/\∀(p:Addr) (H':Hp) (nm:Nat->Str),(∀i j,i<c->j<c->nm i=nm j->i=j)->(∀i,NmOk (nm i))->DrL H' d l->Fr1 d H H'->H p=none->H' p=some (.lst ((List.range c).map λi=>V.str (nm i)))->Q (.ref p) H'
end BL
namespace L2
open PySem PySem.Spec PyProof.Rows
theorem Dh{a b:KX}{k:List Key}:valX (a++b) k=(valX a k).or (valX b k):=by
 unfold valX;rw[List.find?_append];cases List.find? (λp:(List Key×Addr)×V=>decide (p.1.1=k)) a<;>rfl
theorem Gj{v:V}{k k':List Key}:∀kvs:KX,valX (kvs.map λp=>if p.1.1=k then (p.1,v) else p) k'=if k=k' then (valX kvs k').map λ_=>v else valX kvs k'
 | []=>by simp[valX]
 | p::r=>by
  have ih:=Gj (v:=v) (k:=k) (k':=k') r;by_cases e:p.1.1=k'
  . have e1:(if p.1.1=k then (p.1,v) else p).1.1=k':=by split<;>exact e
    rw[List.map_cons,ag e1,ag e];by_cases f:k=k'
    . rw[if_pos f,if_pos (e.trans f.symm)];rfl
    . rw[if_neg f,if_neg (λz=>f (z.symm.trans e))]
  . have e1:¬(if p.1.1=k then (p.1,v) else p).1.1=k':=by split<;>exact e
    rw[List.map_cons,bg e1,bg e,ih]
theorem Wa{kvs:KX}{k:List Key}{b:Addr}{v:V}:valX (putX kvs k b v) k=some v:=by
 unfold putX;split
 . rename_i h
   rw[Gj,if_pos rfl];obtain⟨u,e⟩:=Option.isSome_iff_exists.mp h;rw[e];rfl
 . rename_i h
   rw[Dh,show valX kvs k=none by simpa using h];show valX [((k,b),v)] k=_;exact ag rfl
theorem Za{kvs:KX}{k k':List Key}{b:Addr}{v:V}(n:k≠k'):valX (putX kvs k b v) k'=valX kvs k':=by
 unfold putX;split
 . rw[Gj,if_neg n]
 . rw[Dh,show valX [((k,b),v)] k'=none from(bg (λz=>n z)).trans rfl]
   cases valX kvs k'<;>rfl
theorem qi{kvs:KX}{k:List Key}{b:Addr}{v u:V}(h:valX kvs k=some u):(putX kvs k b v).length=kvs.length:=by
 unfold putX;rw[h,if_pos (show (some u).isSome=true from rfl),List.length_map]
end L2
namespace BL
open PySem PySem.Spec PyProof.Rows L2 BR
theorem Lm{a b:List Nat}(p:a.Perm b)(ha:a.Pairwise (·<=·))(hb:b.Pairwise (·<·)):a=b :=
 p.eq_of_pairwise (λx y _ _ h1 h2=>Nat.le_antisymm h1 h2) ha (hb.imp Nat.le_of_lt)
section
variable (P : Program) (w : World) (K : PySem.W.Frag) (CH CS CT : Addr)
def Fr4(x k p d:Addr)(H H':Hp):Prop:=∀a o,H a=some o->a≠x->a≠k->a≠p->a≠d->H' a=some o
structure Apart(x k p d l:Addr):Prop where
 dx:d≠x
 dk:d≠k
 dp:d≠p
 lx:l≠x
 lk:l≠k
 lp:l≠p
def Bx:Sp:=λvs H Q _=>∃(x k p:Addr) (kvs:KX) (n:Nat) (y:Str) (sx:Addr) (D:TD) (os:List Addr) (ls:List (List Nat)) (hg:Bool) (r:Rn) (d l sp:Addr) (z:List Nat),vs=[.ref d,.ref x,.str y,.ref sp]/\DrL H d l/\Apart x k p d l/\Qe P w K CH CS CT H x k p kvs n y sx D os ls [] hg/\kvs.length<100/\n<900/\dueN D.rs ls.length hg="draw"/\D.rs[ls.length]?=some r /\
 z.Pairwise (·<·)/\(∀a∈z,a∈pool D.c (Ma D.c ls) r)/\z.length=r.n/\1<=r.n/\r.n<=60/\H sp=some (lstG (ngS D.nm) z)/\sp≠d /\
 ∀(H':Hp) (kvs':KX) (v:Addr) (os':List Addr),Fr4 x k p d H H'->DrL H' d l->Hou P w K CH H' x k p kvs' (n+r.n)->kvs'.length=kvs.length->valX kvs' [.inr "sitting",.inr y]=some (.ref v)->Sit CS CT H' v D os' (ls++[z]) [] false->Q (.bl true) H'
end
theorem Hou.fr1{P:Program}{w:World}{K:PySem.W.Frag}{CH:Addr}{H H':Hp}{x k p d:Addr}{kvs:KX}{n:Nat}(h:Hou P w K CH H x k p kvs n)(f:Fr1 d H H')(n1:d≠x)(n2:d≠k)(n3:d≠p)(hd:∃xs,H d=some (.lst xs)):Hou P w K CH H' x k p kvs n:=by
 obtain⟨dx,g,past,h1,h2,h3,h4,h5⟩:=h.ex;obtain⟨xs,hd⟩:=hd;refine⟨dx,g,past,f _ _ h1 n1.symm,f _ _ h2 n2.symm,ng h3 λa ys z=>?_,f _ _ h4 n3.symm,h5⟩;rcases z with z|⟨o,z⟩
 . exact .inl (f _ _ z (zc z hd λz=>nomatch z))
 . exact .inr ⟨o,f _ _ z (zc z hd λz=>nomatch z)⟩
theorem ko{α:Type}{ob:α->HO}{H H':Hp}{d f:Addr}{ps:List Addr}{qs:List α}{xs:List V}(F:Fr1 d H H')(hd:H d=some (.lst xs))(hob:∀a,∃ys,ob a= .tup ys)(T:TsB ob false H f ps qs):TsB ob false H' f ps qs :=
 ⟨F _ _ T.ls (zc T.ls hd λz=>nomatch z),λi q hq=>by
  obtain⟨r,a,b⟩:=T.it i q hq;obtain⟨ys,e⟩:=hob r;exact⟨r,a,F _ _ b (zc b hd λz=>by rw[e]at z;exact nomatch z)⟩,T.ln⟩
theorem Sit.fr1{CS CT:Addr}{H H':Hp}{d l y:Addr}{D:TD}{os:List Addr}{ls:List (List Nat)}{bs:List Nat}{hg:Bool}(S:Sit CS CT H y D os ls bs hg)(DR:DrL H d l)(F:Fr1 d H H'):Sit CS CT H' y D os ls bs hg:=by
 obtain⟨⟨xs,hd⟩,_⟩:=DR.some;obtain⟨dy,t,o,b,h1,⟨dt,r,m,st,t1,t2,t3,t4⟩,h3,h4⟩:=S.ex;exact⟨dy,t,o,b,F _ _ h1 (zc h1 hd λz=>nomatch z),⟨dt,r,m,st,F _ _ t1 (zc t1 hd λz=>nomatch z),F _ _ t2 (zc t2 hd λz=>nomatch z),F _ _ t3 (zc t3 hd λz=>nomatch z),ko F hd (λr=>Fe r) t4⟩,ko F hd (λa=>⟨_,rfl⟩) h3,F _ _ h4 (zc h4 hd λz=>nomatch z)⟩
theorem Tf{H H':Hp}{x k p d l:Addr}(D:DrL H d l)(F:Fr3 x k p H H')(A:Apart x k p d l):DrL H' d l:=by
 obtain⟨ns,i,c,r,h1,h2,n,z⟩:=D;exact⟨ns,i,c,r,F _ _ h1 A.dx A.dk A.dp,F _ _ h2 A.lx A.lk A.lp,n,z⟩
theorem Vu{l:List Nat}(h:l.Nodup){i a:Nat}(e:l[i]?=some a):a∉l.take i:=λm=>by
 rw[<-List.take_append_drop i l]at h;refine(List.nodup_append.mp h).2.2 a m a ?_ rfl;exact List.mem_of_getElem? (i:=0) (by rw[List.getElem?_drop];exact e)
theorem cq{xs:List V}{i:Nat}(h:i<=xs.length):cutV xs none (some (i:Int))=xs.take i:=by
 unfold cutV;rw[HT.Rq,HT.xo,List.drop_zero,Nat.min_eq_left h,Nat.sub_zero]
theorem Kn{α:Type}(l:List α)(a:α)(i:Nat):(l.take i++a::l.drop i).Perm (l++[a]):=by
 have h1:(l.take i++a::l.drop i).Perm (l.take i++(l.drop i++[a])):=List.Perm.append_left _ (List.perm_append_singleton a (l.drop i)).symm;rw[<-List.append_assoc,List.take_append_drop]at h1;exact h1
theorem Good.bs{D:TD}{ls:List (List Nat)}{bs bs':List Nat}(G:Good D ls bs)(h1:∀a∈bs',a<D.c)(h2:bs'.length<=60):Good D ls bs':=⟨G.c1,G.c2,G.ft,G.ln,G.ll,G.bl,G.bm,G.be,h1,h2,G.ij⟩
theorem nv{D:TD}{ls:List (List Nat)}{bs:List Nat}{hg:Bool}{r:Rn}{a:Nat}(hd:dueN D.rs ls.length hg="draw")(e:D.rs[ls.length]?=some r)(h1:a∈pool D.c (Ma D.c ls) r)(h2:a∉bs):a∈rf D ls bs hg:=by
 unfold rf;rw[e];show a∈(if dueN D.rs ls.length hg="draw" then _ else _);rw[if_pos hd];exact List.mem_filter.mpr ⟨h1,by simpa using h2⟩
theorem Uq{K:PySem.W.Frag}{H:Hp}{Q:VK}{f g:Addr}{nm:Nat->Str}{l:List Nat}(h1:H f=some (.lst (l.map (ngS nm))))(h2:H g=some (.lst (l.map (ngS nm))))(h:Q (.bl false) H):rNeA K (.ref f) (.ref g) H Q:=by
 have e:l.map (ngS nm)=(l.map nm).map V.str:=by rw[List.map_map];rfl
 rw[e]at h1 h2;refine dw (.l (dS (l.map nm))) (.l (dS (l.map nm))) rfl (by unfold dep;rw[Ws];decide) (fz h1) (fz h2) ?_;unfold eqD;rw[Ks];exact h
end BL
namespace BL
open PySem PySem.Spec PyProof.Rows L2 BR
theorem Fr4.tr{x k p d:Addr}{H H1 H2:Hp}(a:Fr4 x k p d H H1)(b:Fr4 x k p d H1 H2):Fr4 x k p d H H2:=λc o e n1 n2 n3 n4=>b c o (a c o e n1 n2 n3 n4) n1 n2 n3 n4
theorem Fr4.of3{x k p d:Addr}{H H1:Hp}(a:Fr3 x k p H H1):Fr4 x k p d H H1:=λc o e n1 n2 n3 _=>a c o e n1 n2 n3
theorem Fr4.of1{x k p d:Addr}{H H1:Hp}(a:Fr1 d H H1):Fr4 x k p d H H1:=λc o e _ _ _ n4=>a c o e n4
theorem Fr4.ofS{x k p d:Addr}{H H1:Hp}(a:Same H H1):Fr4 x k p d H H1:=λc o e _ _ _ _=>a c o e
def Ris(l:List Nat):Prop:=l.Pairwise (·<·)
theorem Th(c:Nat):Ris (List.range c):=List.pairwise_lt_range
theorem zo{c n:Nat}{F:Nat->Bool}{t:Bool}:Ris (seat c F n t):=(Th c).sublist List.filter_sublist
theorem ku{c:Nat}{l:List Nat}(h:Ris l):∀r,Ris (pool c l r)
 | .lot _=>h
 | .vote _ _ .council=>Th c
 | .vote _ _ .bench=>h
 | .vote _ _ .stay=>h
theorem Qx{c:Nat}{F:Nat->Bool}{l z:List Nat}(h:Ris l):∀{r:Rn},und c F l r=some z->Ris z
 | .lot _,e=>by cases e
 | .vote n q w,e=>by
  have e':(if q<=BR.fr F l then some (seat c F n true) else if q<=l.length-BR.fr F l then some (seat c F n false) else if w= .stay then some l else none)=some z:=e;split at e'
  . obtain rfl:=Option.some.inj e';exact zo
  . split at e'
    . obtain rfl:=Option.some.inj e';exact zo
    . split at e'
      . obtain rfl:=Option.some.inj e';exact h
      . cases e'
structure Road(c:Nat)(F:Nat->Bool)(rs:List Rn)(L:List (List Nat))(k:Nat):Prop where
 le:k<=rs.length
 ln:L.length=rs.length
 bl:(Ma c (L.take k)).length=Ya c (rs.take k)
 bm:∀a∈Ma c (L.take k),a<c
 rs':Ris (Ma c (L.take k))
 nx:∀r,rs[k]?=some r->∃z,L[k]?=some z/\Ris z/\z.length=r.n/\(∀y,und c F (Ma c (L.take k)) r=some y->y=z)/\(und c F (Ma c (L.take k)) r=none->∀a∈z,a∈pool c (Ma c (L.take k)) r)
theorem road{c:Nat}{F:Nat->Bool}{rs:List Rn}{N:Nat}(c1:1<=c)(ft:FitR c c rs):∀k,k<=rs.length->Road c F rs (plA c F (List.range c) rs N) k:=by
 have lr:(List.range c).length=c:=List.length_range;have step:∀k,k<=rs.length->(∀a∈plB c F (List.range c) rs N k,a<c)->Ris (plB c F (List.range c) rs N k)->(plB c F (List.range c) rs N k).length=Ya c (rs.take k)->Road c F rs (plA c F (List.range c) rs N) k:=λk hk hm hr hl=>by
  refine⟨hk,Cg _ _ _,hl,hm,hr,λr e=>?_⟩;obtain⟨e1,e2⟩:=uk (F:=F) (N:=N) lr ft (Nat.le_refl c) e;have fit:=ft.at e;have lt:N/ab ((drs c c rs).drop (k+1))%dr c (Ya c (rs.take k)) r<dr c (plB c F (List.range c) rs N k).length r:=by
   rw[hl];exact Nat.mod_lt _ (Dj (Yb ft (Nat.le_refl c) k) fit)
  generalize N/ab ((drs c c rs).drop (k+1))%dr c (Ya c (rs.take k)) r=x at e1 lt;refine⟨_,e1,?_,Xl (by rw[hl];exact fit) lt,λy hy=>(sr (x:=x) hy).symm,λhn a ha=>?_⟩
  . cases u:und c F (plB c F (List.range c) rs N k) r with
    | some y=>rw[sr u];exact Qx hr u
    | none=>rw[(Wm u).1];exact(ku hr r).sublist (He _ _ _)
  . have hn':und c F (plB c F (List.range c) rs N k) r=none:=hn
    rw[(Wm hn').1]at ha;exact(He _ _ _).subset ha
 intro k
 induction k with
 | zero=>exact λhk=>step 0 hk (λa ha=>List.mem_range.mp ha) (Th c) lr
 | succ k ih =>
  intro hk;have R:=ih (by omega);obtain⟨r,e⟩:∃r,rs[k]?=some r:=⟨_,List.getElem?_eq_getElem (by omega)⟩
  obtain⟨z,e1,e2,e3,_,_⟩:=R.nx r e;have eb:plB c F (List.range c) rs N (k+1)=z:=Bo e1;refine step (k+1) hk ?_ ?_ ?_
  . rw[eb];exact Co rs _ N (λa ha=>List.mem_range.mp ha) z (List.mem_of_getElem? e1)
  . rw[eb];exact e2
  . rw[eb,e3,BR.Ka e,Ig]
theorem Cv{F G:Nat->Bool}{l:List Nat}(h:∀a∈l,F a=G a):fr F l=fr G l:=List.countP_congr λa ha=>by rw[h a ha]
theorem uj{c n:Nat}{F G:Nat->Bool}{t:Bool}(h:∀a,a<c->F a=G a):seat c F n t=seat c G n t:=by
 unfold seat;have e1:((List.range c).filter λa=>F a==t)=(List.range c).filter λa=>G a==t:=List.filter_congr λa ha=>by rw[h a (List.mem_range.mp ha)]
 have e2:((List.range c).filter λa=> !(F a==t))=(List.range c).filter λa=> !(G a==t):=List.filter_congr λa ha=>by rw[h a (List.mem_range.mp ha)]
 rw[e1,e2]
theorem jq{c:Nat}{F G:Nat->Bool}{l:List Nat}(h:∀a,a<c->F a=G a)(hl:∀a∈l,a<c):∀r,und c F l r=und c G l r
 | .lot _=>rfl
 | .vote n q w=>by
  show (if q<=BR.fr F l then some (seat c F n true) else if q<=l.length-BR.fr F l then some (seat c F n false) else if w= .stay then some l else none)=(if q<=BR.fr G l then some (seat c G n true) else if q<=l.length-BR.fr G l then some (seat c G n false) else if w= .stay then some l else none);rw[Cv λa ha=>h a (hl a ha),uj h,uj h]
theorem Road.good{D:TD}{F:Nat->Bool}{L:List (List Nat)}{k:Nat}(R:Road D.c F D.rs L k)(c1:1<=D.c)(c2:D.c<=60)(ft:FitR D.c D.c D.rs)(ln:D.rs.length<=20)(be:∀l∈L,(∀a∈l,a<D.c)/\l.length<=D.c)(ij:∀i j,i<D.c->j<D.c->D.nm i=D.nm j->i=j):Good D (L.take k) []:=by
 have e:(L.take k).length=k:=by rw[List.length_take,R.ln];exact Nat.min_eq_left R.le
 exact⟨c1,c2,ft,ln,by rw[e];exact R.le,by rw[e];exact R.bl,R.bm,λl hl=>be l (List.mem_of_mem_take hl),λa ha=>(nomatch ha),Nat.zero_le _,ij⟩
local macro_rules | `(tactic| left) => `(tactic| walk_at "rd")
theorem ok_us:NmOk "us":=by
 have e:Str.ofString "us"=toS [117,115]:=by decide +kernel
 rw[e];exact Ad (by decide) (by decide) (by decide)
theorem ok_way:NmOk "way":=by
 have e:Str.ofString "way"=toS [119,97,121]:=by decide +kernel
 rw[e];exact Ad (by decide) (by decide) (by decide)
theorem ok_now:NmOk "now":=by
 have e:Str.ofString "now"=toS [110,111,119]:=by decide +kernel
 rw[e];exact Ad (by decide) (by decide) (by decide)
theorem Cw{c:Nat}(hc:c<=500):∀{rs:List Rn} {b:Nat},FitR c b rs->b<=c->∀r∈rs,MayR r
 | [],_,_,_,r,hr=>by cases hr
 | r0::rs,b,ft,hb,r,hr=>by
  rcases List.mem_cons.mp hr with rfl|hr
  . have f:=ft.1
    cases r with
    | lot n=>exact⟨f.1,f.2.1⟩
    | vote n q w =>
     obtain⟨h1,h2,h3,h4,h5,_⟩:=f;exact⟨h1,h2,by omega,by omega⟩
  . exact Cw hc ft.2 (ft.1.le hb) r hr
def kUs:List Key:=[.inr "league",.inr "us"]
def kWay:List Key:=[.inr "row",.inr "way"]
def kNow:List Key:=[.inr "sitting",.inr "now"]
theorem k_ru:kd≠kUs:=by decide +kernel
theorem k_rw:kd≠kWay:=by decide +kernel
theorem k_rn:kd≠kNow:=by decide +kernel
theorem k_uw:kUs≠kWay:=by decide +kernel
theorem k_un:kUs≠kNow:=by decide +kernel
theorem k_wn:kWay≠kNow:=by decide +kernel
theorem Lw{P:Program}{w:World}{K:PySem.W.Frag}{CH:Addr}{H H':Hp}{x k p a:Addr}{kvs:KX}{n c:Nat}{ps:List Addr}{rs:List Rn}(hh:Hou P w K CH H x k p kvs n)(F:Fr3 x k p H H')(C:CR H a ps c rs)(n1:a≠x)(n2:a≠k)(n3:a≠p):CR H' a ps c rs :=
 ⟨⟨F _ _ C.rw.ls n1 n2 n3,λi q hq=>by obtain⟨r,e1,e2⟩:=C.rw.it i q hq;exact⟨r,e1,hh.keep F e2 (dg r)⟩,C.rw.ln⟩,C.c1,C.c2,C.ft,C.ln⟩
theorem bq{rl:List (Str×Str)}{cs:List Str}{ps:List Addr}{rs:List Rn}(ij:∀i j,i<rl.length->j<rl.length->(bgTD rl cs ps rs).nm i=(bgTD rl cs ps rs).nm j->i=j):∀i,i<rl.length->inV (ngS (bgTD rl cs ps rs).nm i) (((rl.filter λq=>decide (q.2∈cs)).map (·.1)).map V.str)=(bgTD rl cs ps rs).F i:=by
 intro i hi;have e:∀j,(h:j<rl.length)->rl[j]?.getD ("","")=rl[j]:=λj h=>by rw[List.getElem?_eq_getElem h];rfl
 show inV (V.str (rl[i]?.getD ("","")).1) _=decide ((rl[i]?.getD ("","")).2∈cs);rw[zh,e i hi];refine decide_eq_decide.mpr ⟨λm=>?_,λm=>?_⟩
 . obtain⟨q,hq,eq⟩:=List.mem_map.mp m
   obtain⟨hq1,hq2⟩:=List.mem_filter.mp hq;obtain⟨j,hj,ej⟩:=List.mem_iff_getElem.mp hq1;have:=ij j i hj hi (by
    show (rl[j]?.getD ("","")).1=(rl[i]?.getD ("","")).1;rw[e j hj,e i hi,ej];exact eq)
   subst this;rw[ej];simpa using hq2
 . exact List.mem_map.mpr ⟨rl[i],List.mem_filter.mpr ⟨List.getElem_mem hi,by simpa using m⟩,rfl⟩
theorem Hou.apart{P:Program}{w:World}{K:PySem.W.Frag}{CH:Addr}{H:Hp}{x k p:Addr}{kvs:KX}{n:Nat}(h:Hou P w K CH H x k p kvs n){a:Addr}{o:HO}(ha:H a=some o)(t:Thing o):a≠x/\a≠k/\a≠p:=by
 have z:=h.keep (H':=λb=>if b=x\/b=k\/b=p then none else H b) (λb o e n1 n2 n3=>by
  show (if b=x\/b=k\/b=p then none else H b)=some o;rw[if_neg (λy=>y.elim n1 λy=>y.elim n2 n3)];exact e) ha t
 refine⟨λy=>?_,λy=>?_,λy=>?_⟩
 . subst y;exact nomatch (if_pos (.inl rfl)).symm.trans z
 . subst y;exact nomatch (if_pos (.inr (.inl rfl))).symm.trans z
 . subst y;exact nomatch (if_pos (.inr (.inr rfl))).symm.trans z
theorem cr_fr4{P:Program}{w:World}{K:PySem.W.Frag}{CH:Addr}{H H':Hp}{x k p d l a:Addr}{kvs:KX}{n c:Nat}{ps:List Addr}{rs:List Rn}(hh:Hou P w K CH H x k p kvs n)(D:DrL H d l)(F:Fr4 x k p d H H')(C:CR H a ps c rs)(n1:a≠x)(n2:a≠k)(n3:a≠p)(n4:a≠d):CR H' a ps c rs :=
 ⟨⟨F _ _ C.rw.ls n1 n2 n3 n4,λi q hq=>by
  obtain⟨r,e1,e2⟩:=C.rw.it i q hq;obtain⟨m1,m2,m3⟩:=hh.apart e2 (dg r);obtain⟨⟨xs,hd⟩,_⟩:=D.some;obtain⟨ys,ey⟩:=Fe r;exact⟨r,e1,F _ _ e2 m1 m2 m3 (zc e2 hd λz=>by rw[ey]at z;exact nomatch z)⟩,C.rw.ln⟩,C.c1,C.c2,C.ft,C.ln⟩
theorem oq{α:Type}{ob:α->HO}{H H':Hp}{x k p d f:Addr}{ps:List Addr}{qs:List α}(F:Fr4 x k p d H H')(T:TsAt ob H f ps qs)(n1:f≠x)(n2:f≠k)(n3:f≠p)(n4:f≠d)(h:∀z∈ps,z≠x/\z≠k/\z≠p/\z≠d):TsAt ob H' f ps qs :=
 ⟨F _ _ T.ls n1 n2 n3 n4,λi q hq=>by
  obtain⟨r,e1,e2⟩:=T.it i q hq;obtain⟨m1,m2,m3,m4⟩:=h q (List.mem_of_getElem? hq);exact⟨r,e1,F _ _ e2 m1 m2 m3 m4⟩,T.ln⟩
theorem kq{α:Type}{ob:α->HO}{H:Hp}{f g:Addr}{ps:List Addr}{qs:List α}{k:Nat}(T:TsAt ob H f ps qs)(hg:H g=some (.lst ((ps.take k).map V.ref))):TsAt ob H g (ps.take k) (qs.take k) :=
 ⟨hg,λi q hq=>by
  have hi:=(List.getElem?_eq_some_iff.mp hq).1;rw[List.length_take]at hi;rw[List.getElem?_take_of_lt (by omega)]at hq;obtain⟨r,e1,e2⟩:=T.it i q hq;exact⟨r,by rw[List.getElem?_take_of_lt (by omega)];exact e1,e2⟩,by rw[List.length_take,List.length_take,T.ln]⟩
theorem Jv{rs:List Rn}{hg:Bool}:dueN rs rs.length hg="done":=by unfold dueN;rw[List.getElem?_eq_none (Nat.le_refl _)]
theorem Fj{c:Nat}{ls:List (List Nat)}{z:List Nat}:Ma c (ls++[z])=z:=by unfold Ma sf;simp
end BL
local macro_rules | `(‹$x›) => `(by with_unfolding_all exact $x)
local macro_rules | `(tactic| walk_at "ne") => `(tactic| first
 | with_reducible assumption
 | exact Ne.symm (by with_reducible assumption)
 | ((with_reducible apply L2.ne_fresh);(with_reducible assumption);walk_at "hp")
 | ((with_reducible apply Ne.symm);(with_reducible apply L2.ne_fresh);(with_reducible assumption);walk_at "hp"))
local macro_rules | `(tactic| walk_at "hp") => `(tactic| first
 | with_reducible assumption
 | with_reducible exact L2.da
 | ((with_reducible apply L2.La);walk_at "ne";walk_at "hp")
 | ((with_reducible apply L2.Fr1.get);(with_reducible assumption);walk_at "hp";walk_at "ne"))
local macro_rules | `(tactic| walk_at "cond") => `(tactic| first
 | with_reducible assumption
 | exact L2.Yk.small (by omega) (by omega)
 | exact L2.xh.left (by omega) (by omega)
 | exact L2.xh.right (by omega) (by omega)
 | (show (0:Int)<_;omega))
local macro_rules | `(tactic| walk_at "size") => `(tactic| first
 | (simp only[List.length_cons,List.length_nil];decide)
 | (simp only[List.length_cons,List.length_nil,List.length_map,List.length_append,sizeLine_eq];omega))
local macro_rules | `(tactic| walk_at "ty") => `(tactic| first
 | with_reducible exact L2.TyOf.int _
 | with_reducible exact L2.TyOf.bl _
 | with_reducible exact L2.TyOf.str _
 | with_reducible exact L2.TyOf.non
 | ((with_reducible apply L2.TyOf.tup);walk_at "hp")
 | ((with_reducible apply L2.TyOf.lst);walk_at "hp"))
local macro_rules | `(tactic| walk_at "no") => `(tactic| first
 | with_reducible assumption
 | exact L2.Hx (by decide +kernel)
 | exact L2.Ww (by decide +kernel)
 | exact L2.nz (by decide +kernel))
local macro_rules | `(tactic| walk_at "lk") => `(tactic| first
 | with_reducible assumption
 | with_reducible exact L2.cv
 | with_reducible exact L2.Zy
 | with_reducible exact L2.mv
 | with_reducible exact L2.jv
 | with_reducible exact L2.Xy
 | with_reducible exact L2.gv
 | with_reducible exact L2.dv
 | with_reducible exact L2.lk_worthy
 | with_reducible exact L2.bz
 | with_reducible exact L2.Yy
 | with_reducible exact L2.lk_future)
local macro_rules | `(tactic| left) => `(tactic| repeat (first
 | with_reducible refine L2.r_seq ?_
 | with_reducible refine L2.r_asg ?_
 | with_reducible refine L2.jy ?_
 | with_reducible refine L2.r_op ?_
 | ((with_reducible apply L2.r_var);exact rfl)
 | with_reducible refine L2.r_c ?_
 | with_reducible refine L2.uu ?_
 | with_reducible refine L2.Yq ?_
 | with_reducible refine L2.Vx ?_
 | with_reducible refine L2.yu ?_
 | with_reducible refine L2.r_part ?_
 | with_reducible refine L2.Yx ?_
 | with_reducible refine L2.r_ltI ?_
 | with_reducible refine L2.r_leI ?_
 | with_reducible refine L2.r_eqI ?_
 | with_reducible refine L2.r_neI ?_
 | with_reducible refine L2.r_eqB ?_
 | with_reducible refine L2.r_neB ?_
 | with_reducible refine L2.r_eqS ?_
 | with_reducible refine L2.r_neS ?_
 | with_reducible refine L2.r_test ?_
 | with_reducible refine L2.r_bl ?_
 | with_reducible refine L2.r_ifs ?_
 | with_reducible refine L2.r_ret ?_
 | with_reducible refine L2.r_retN ?_
 | with_reducible refine L2.r_next ?_
 | with_reducible refine L2.r_cons ?_
 | with_reducible refine L2.r_nil ?_
 | with_reducible refine L2.r_cl ?_
 | with_reducible refine L2.r_cb ?_
 | with_reducible refine L2.r_clE ?_
 | with_reducible refine L2.r_try ?_
 | with_reducible refine L2.r_raise ?_
 | with_reducible refine L2.r_raiseD ?_
 | with_reducible refine L2.r_errAt ?_
 | with_reducible refine L2.r_and ?_
 | with_reducible refine L2.r_or ?_
 | with_reducible refine L2.r_not ?_
 | with_reducible refine L2.r_andV ?_
 | with_reducible refine L2.r_orV ?_
 | with_reducible refine L2.r_notV ?_
 | with_reducible refine L2.r_ifx ?_
 | with_reducible refine L2.r_tru ?_
 | with_reducible refine L2.r_truI ?_
 | with_reducible refine L2.r_truB ?_
 | with_reducible refine L2.r_tB ?_
 | with_reducible refine L2.Xx ?_
 | with_reducible refine L2.r_pow6 ?_
 | ((with_reducible apply L2.r_rI);walk_at "cond")
 | ((with_reducible apply L2.Vq);walk_at "cond")
 | with_reducible refine L2.r_abs ?_
 | with_reducible refine L2.r_min2 ?_
 | with_reducible refine L2.r_max2 ?_
 | with_reducible refine L2.r_int1 ?_
 | with_reducible refine L2.r_int1B ?_
 | ((with_reducible apply L2.r_isi);walk_at "ty";exact rfl)
 | ((with_reducible apply L2.Wq);walk_at "hp")
 | ((with_reducible apply L2.gw);walk_at "hp")
 | ((with_reducible apply L2.gc);walk_at "hp";exact rfl)
 | ((with_reducible apply L2.uf);walk_at "hp";exact rfl)
 | with_reducible refine L2.r_gsub ?_
 | with_reducible refine L2.iy ?_
 | with_reducible refine L2.gy ?_
 | with_reducible refine L2.r_isNoI ?_
 | with_reducible refine L2.r_isNoS ?_
 | with_reducible refine L2.xu ?_
 | with_reducible refine L2.wu ?_
 | with_reducible refine L2.r_notNoI ?_
 | with_reducible refine L2.r_notNoS ?_
 | with_reducible refine L2.r_un ?_
 | with_reducible refine L2.r_rU ?_
 | ((with_reducible apply L2.r_setL);walk_at "hp";exact rfl)
 | with_reducible refine L2.r_drop ?_
 | with_reducible refine L2.r_bmL ?_
 | ((with_reducible apply L2.su);walk_at "hp")
 | ((with_reducible apply L2.Md);walk_at "hp";walk_at "size")
 | with_reducible refine L2.r_tup ?_
 | with_reducible refine L2.r_lst ?_
 | ((with_reducible apply L2.Wx);walk_at "size")
 | with_reducible refine L2.r_par ?_
 | with_reducible refine L2.r_par2 ?_
 | ((with_reducible apply L2.r_aug);exact rfl)
 | with_reducible refine L2.r_ipI ?_
 | with_reducible refine L2.r_forR ?_
 | with_reducible refine L2.uy ?_
 | with_reducible refine L2.vy ?_
 | with_reducible refine L2.qy ?_
 | with_reducible refine L2.r_compE ?_
 | with_reducible refine L2.r_bm0 ?_
 | with_reducible refine L2.my ?_
 | with_reducible refine L2.r_forE ?_
 | with_reducible refine L2.r_forZ ?_
 | with_reducible refine L2.r_forZ3 ?_
 | with_reducible refine L2.r_forD ?_
 | with_reducible refine L2.r_forR2 ?_
 | with_reducible refine L2.r_chain ?_
 | with_reducible refine L2.r_augS ?_
 | with_reducible refine L2.r_yes ?_
 | with_reducible refine L2.r_forL ?_
 | with_reducible refine L2.r_forT ?_
 | with_reducible refine L2.ky ?_
 | with_reducible refine L2.r_gnil ?_
 | ((with_reducible apply L2.r_gtup);walk_at "hp";exact rfl)
 | with_reducible refine L2.wy ?_
 | with_reducible refine L2.Du ?_
 | with_reducible refine L2.ly ?_
 | with_reducible refine L2.sy ?_
 | with_reducible refine L2.r_me ?_
 | ((with_reducible apply L2.r_me2);walk_at "hp";walk_at "no")
 | with_reducible refine L2.r_new ?_
 | ((with_reducible apply L2.r_fl);walk_at "hp";walk_at "lk")
 | with_reducible refine L2.r_sfl ?_
 | with_reducible refine L2.iteT ?_
 | with_reducible refine L2.iteF ?_
 | with_reducible refine L2.ay ?_
 | with_reducible refine L2.cy ?_))
namespace K40
open PySem PySem.Spec PyProof.Rows L2
def top(i:Nat):Stmt:=PySem.Challenge.pw_ballotin_k40_whole_sittings_play_draws.main.body.getD i (.Pass ⟨0,0,0,0⟩)
abbrev Mq:Stmt:=top 18
abbrev ve:Stmt:=top 19
abbrev Oq:Stmt:=top 20
abbrev Df:Stmt:=top 24
abbrev Qq:Stmt:=top 25
abbrev Sm:Stmt:=top 26
abbrev Ed:Stmt:=top 27
abbrev Rm:Stmt:=top 28
abbrev we:Stmt:=top 29
abbrev Fd:Stmt:=top 30
abbrev Ef:Stmt:=top 31
abbrev Um:Stmt:=top 32
abbrev ak:Stmt:=top 33
abbrev Nq:Stmt:=top 35
abbrev xg:Stmt:=top 37
abbrev Dc:Stmt:=top 38
abbrev Cf:Stmt:=top 39
abbrev Ec:Stmt:=top 40
abbrev Uc:Stmt:=top 41
abbrev Vc:Stmt:=top 42
abbrev Sh:Stmt:=top 43
abbrev Pq:Stmt:=top 44
abbrev Ae:Stmt:=inClass (top 46) 0
abbrev wc:Stmt:=inClass (top 46) 1
abbrev Yc:Stmt:=inClass (top 47) 0
abbrev Wc:Stmt:=inClass (top 47) 1
abbrev Wb:Stmt:=inClass (top 47) 2
abbrev Xc:Stmt:=inClass (top 47) 3
abbrev ic:Stmt:=inClass (top 47) 4
abbrev Ob:Stmt:=inClass (top 47) 5
abbrev Eb:Stmt:=inClass (top 47) 6
abbrev Nb:Stmt:=inClass (top 47) 7
abbrev Ab:Stmt:=inClass (top 47) 8
abbrev Mb:Stmt:=inClass (top 47) 9
abbrev Kb:Stmt:=inClass (top 47) 10
abbrev Gb:Stmt:=inClass (top 47) 11
abbrev Fb:Stmt:=inClass (top 47) 12
abbrev Rh:Stmt:=top 54
abbrev ze:Stmt:=top 55
abbrev Oh:Stmt:=top 56
abbrev yg:Stmt:=top 57
abbrev Ce:Stmt:=inClass (top 58) 0
abbrev Ff:Stmt:=inClass (top 58) 1
abbrev zg:Stmt:=inClass (top 58) 2
abbrev Pb:Stmt:=inClass (top 58) 5
abbrev Xb:Stmt:=inClass (top 58) 6
abbrev Hc:Stmt:=inClass (top 58) 7
abbrev jd:Stmt:=inClass (top 58) 8
abbrev Zc:Stmt:=inClass (top 58) 11
abbrev Gf:Stmt:=inClass (top 58) 13
abbrev Ld:Stmt:=inClass (top 58) 15
abbrev Ee:Stmt:=inClass (top 58) 16
abbrev Be:Stmt:=inClass (top 58) 17
abbrev Ic:Stmt:=inClass (top 58) 28
abbrev Jf:Stmt:=inClass (top 58) 33
abbrev Kd:Stmt:=inClass (top 58) 34
abbrev Fc:Stmt:=inClass (top 58) 35
abbrev Jd:Stmt:=inClass (top 58) 36
abbrev De:Stmt:=inClass (top 58) 38
abbrev Hd:Stmt:=inClass (top 58) 39
abbrev Ph:Stmt:=top 60
abbrev ck:Stmt:=top 61
abbrev fk:Stmt:=top 63
abbrev ik:Stmt:=top 64
abbrev Gd:Stmt:=top 65
abbrev gk:Stmt:=top 66
abbrev Qh:Stmt:=top 67
abbrev ju:Stmt:=top 68
theorem Kx:wa ["many","few","found","at"] ["many","few"] (la Mq):=⟨rfl,rfl,rfl,by decide +kernel,rfl,by decide +kernel,by decide +kernel⟩
theorem Sj:wa ["total","many","few"] ["total","many","few"] (la ve):=⟨rfl,rfl,rfl,by decide +kernel,rfl,by decide +kernel,by decide +kernel⟩
theorem Mx:wa ["many","few","number","total","places","place","having"] ["many","few","number"] (la Oq):=⟨rfl,rfl,rfl,by decide +kernel,rfl,by decide +kernel,by decide +kernel⟩
theorem Nl:wa ["count","sit","seats","needed","word"] ["count","sit","seats","needed","word"] (la Df):=⟨rfl,rfl,rfl,by decide +kernel,rfl,by decide +kernel,by decide +kernel⟩
theorem Ox:wa ["count","sit","step"] ["count","sit","step"] (la Qq):=⟨rfl,rfl,rfl,by decide +kernel,rfl,by decide +kernel,by decide +kernel⟩
theorem gu:wa ["count","row","sit","found","at","step"] ["count","row"] (la Sm):=⟨rfl,rfl,rfl,by decide +kernel,rfl,by decide +kernel,by decide +kernel⟩
theorem Qi:wa ["count","row"] ["count","row"] (la Ed):=⟨rfl,rfl,rfl,by decide +kernel,rfl,by decide +kernel,by decide +kernel⟩
theorem fu:wa ["count","row"] ["count","row"] (la Rm):=⟨rfl,rfl,rfl,by decide +kernel,rfl,by decide +kernel,by decide +kernel⟩
theorem Tj:wa ["count","row"] ["count","row"] (la we):=⟨rfl,rfl,rfl,by decide +kernel,rfl,by decide +kernel,by decide +kernel⟩
theorem Ri:wa ["count","sit","step"] ["count","sit","step"] (la Fd):=⟨rfl,rfl,rfl,by decide +kernel,rfl,by decide +kernel,by decide +kernel⟩
theorem Ol:wa ["count","row"] ["count","row"] (la Ef):=⟨rfl,rfl,rfl,by decide +kernel,rfl,by decide +kernel,by decide +kernel⟩
theorem iu:wa ["count","row","found","many"] ["count","row"] (la Um):=⟨rfl,rfl,rfl,by decide +kernel,rfl,by decide +kernel,by decide +kernel⟩
theorem Hq:wa ["count","row","number","found","many","own"] ["count","row","number"] (la ak):=⟨rfl,rfl,rfl,by decide +kernel,rfl,by decide +kernel,by decide +kernel⟩
theorem Lx:wa ["bench","on","needed"] ["bench","on","needed"] (la Nq):=⟨rfl,rfl,rfl,by decide +kernel,rfl,by decide +kernel,by decide +kernel⟩
theorem Om:wa ["folk","friends"] ["folk","friends"] (la xg):=⟨rfl,rfl,rfl,by decide +kernel,rfl,by decide +kernel,by decide +kernel⟩
theorem Zg:wa ["marks","places"] ["marks","places"] (la Dc):=⟨rfl,rfl,rfl,by decide +kernel,rfl,by decide +kernel,by decide +kernel⟩
theorem Ml:wa ["marks","seats","who","ours","own","others"] ["marks","seats","who"] (la Cf):=⟨rfl,rfl,rfl,by decide +kernel,rfl,by decide +kernel,by decide +kernel⟩
theorem ah:wa ["marks","bench","step","who"] ["marks","bench","step"] (la Ec):=⟨rfl,rfl,rfl,by decide +kernel,rfl,by decide +kernel,by decide +kernel⟩
theorem Hh:wa ["marks","bench","step"] ["marks","bench","step"] (la Uc):=⟨rfl,rfl,rfl,by decide +kernel,rfl,by decide +kernel,by decide +kernel⟩
theorem Ih:wa ["marks","bench","step","own","found","pool"] ["marks","bench","step","own"] (la Vc):=⟨rfl,rfl,rfl,by decide +kernel,rfl,by decide +kernel,by decide +kernel⟩
theorem Cp:wa ["folk","friends","row","number","marks","bench","found","step","own"] ["folk","friends","row","number"] (la Sh):=⟨rfl,rfl,rfl,by decide +kernel,rfl,by decide +kernel,by decide +kernel⟩
theorem Nx:wa ["folk","friends","row","number","course"] ["folk","friends","row","number"] (la Pq):=⟨rfl,rfl,rfl,by decide +kernel,rfl,by decide +kernel,by decide +kernel⟩
theorem Vj:wa ["self","roll","marks","steps"] ["self","roll","marks","steps"] (la Ae):=⟨rfl,rfl,rfl,by decide +kernel,rfl,by decide +kernel,by decide +kernel⟩
theorem wg:wa ["self","places"] ["self","places"] (la wc):=⟨rfl,rfl,rfl,by decide +kernel,rfl,by decide +kernel,by decide +kernel⟩
theorem Lh:wa ["self","terms","over","balls","hangs"] ["self","terms","over","balls","hangs"] (la Yc):=⟨rfl,rfl,rfl,by decide +kernel,rfl,by decide +kernel,by decide +kernel⟩
theorem Jh:wa ["self"] ["self"] (la Wc):=⟨rfl,rfl,rfl,by decide +kernel,rfl,by decide +kernel,by decide +kernel⟩
theorem Af:wa ["self"] ["self"] (la Wb):=⟨rfl,rfl,rfl,by decide +kernel,rfl,by decide +kernel,by decide +kernel⟩
theorem Kh:wa ["self","pool"] ["self"] (la Xc):=⟨rfl,rfl,rfl,by decide +kernel,rfl,by decide +kernel,by decide +kernel⟩
theorem cg:wa ["self"] ["self"] (la ic):=⟨rfl,rfl,rfl,by decide +kernel,rfl,by decide +kernel,by decide +kernel⟩
theorem ff:wa ["self"] ["self"] (la Ob):=⟨rfl,rfl,rfl,by decide +kernel,rfl,by decide +kernel,by decide +kernel⟩
theorem ke:wa ["self"] ["self"] (la Eb):=⟨rfl,rfl,rfl,by decide +kernel,rfl,by decide +kernel,by decide +kernel⟩
theorem ef:wa ["self"] ["self"] (la Nb):=⟨rfl,rfl,rfl,by decide +kernel,rfl,by decide +kernel,by decide +kernel⟩
theorem Cd:wa ["self"] ["self"] (la Ab):=⟨rfl,rfl,rfl,by decide +kernel,rfl,by decide +kernel,by decide +kernel⟩
theorem df:wa ["self"] ["self"] (la Mb):=⟨rfl,rfl,rfl,by decide +kernel,rfl,by decide +kernel,by decide +kernel⟩
theorem ue:wa ["self","places"] ["self","places"] (la Kb):=⟨rfl,rfl,rfl,by decide +kernel,rfl,by decide +kernel,by decide +kernel⟩
theorem oe:wa ["self","person","balls"] ["self","person"] (la Gb):=⟨rfl,rfl,rfl,by decide +kernel,rfl,by decide +kernel,by decide +kernel⟩
theorem me:wa ["self","places"] ["self"] (la Fb):=⟨rfl,rfl,rfl,by decide +kernel,rfl,by decide +kernel,by decide +kernel⟩
theorem Bp:wa ["text"] ["text"] (la Rh):=⟨rfl,rfl,rfl,by decide +kernel,rfl,by decide +kernel,by decide +kernel⟩
theorem Uj:wa ["texts","text"] ["texts"] (la ze):=⟨rfl,rfl,rfl,by decide +kernel,rfl,by decide +kernel,by decide +kernel⟩
theorem xp:wa ["step"] ["step"] (la Oh):=⟨rfl,rfl,rfl,by decide +kernel,rfl,by decide +kernel,by decide +kernel⟩
theorem Pm:wa ["roll","clans"] ["roll","clans"] (la yg):=⟨rfl,rfl,rfl,by decide +kernel,rfl,by decide +kernel,by decide +kernel⟩
theorem Xj:wa ["self"] ["self"] (la Ce):=⟨rfl,rfl,rfl,by decide +kernel,rfl,by decide +kernel,by decide +kernel⟩
theorem Pl:wa ["self","key","thing"] ["self","key","thing"] (la Ff):=⟨rfl,rfl,rfl,by decide +kernel,rfl,by decide +kernel,by decide +kernel⟩
theorem Qm:wa ["self","deed","key","thing"] ["self","deed","key","thing"] (la zg):=⟨rfl,rfl,rfl,by decide +kernel,rfl,by decide +kernel,by decide +kernel⟩
theorem gf:wa ["self","name"] ["self","name"] (la Pb):=⟨rfl,rfl,rfl,by decide +kernel,rfl,by decide +kernel,by decide +kernel⟩
theorem Bf:wa ["self","name"] ["self","name"] (la Xb):=⟨rfl,rfl,rfl,by decide +kernel,rfl,by decide +kernel,by decide +kernel⟩
theorem fh:wa ["self","name"] ["self","name"] (la Hc):=⟨rfl,rfl,rfl,by decide +kernel,rfl,by decide +kernel,by decide +kernel⟩
theorem Nh:wa ["self","name","clan","roll"] ["self","name","clan"] (la jd):=⟨rfl,rfl,rfl,by decide +kernel,rfl,by decide +kernel,by decide +kernel⟩
theorem Mh:wa ["self","name","clans"] ["self","name","clans"] (la Zc):=⟨rfl,rfl,rfl,by decide +kernel,rfl,by decide +kernel,by decide +kernel⟩
theorem Ql:wa ["self","name","row","at","step","steps"] ["self","name","row"] (la Gf):=⟨rfl,rfl,rfl,by decide +kernel,rfl,by decide +kernel,by decide +kernel⟩
theorem Wi:wa ["self","name","row","league","steps","clans","roll","terms"] ["self","name","row","league"] (la Ld):=⟨rfl,rfl,rfl,by decide +kernel,rfl,by decide +kernel,by decide +kernel⟩
theorem Zj:wa ["self","name","person"] ["self","name","person"] (la Ee):=⟨rfl,rfl,rfl,by decide +kernel,rfl,by decide +kernel,by decide +kernel⟩
theorem Wj:wa ["self","name"] ["self","name"] (la Be):=⟨rfl,rfl,rfl,by decide +kernel,rfl,by decide +kernel,by decide +kernel⟩
theorem gh:wa ["self","name","clans"] ["self","name"] (la Ic):=⟨rfl,rfl,rfl,by decide +kernel,rfl,by decide +kernel,by decide +kernel⟩
theorem Rl:wa ["self","name"] ["self","name"] (la Jf):=⟨rfl,rfl,rfl,by decide +kernel,rfl,by decide +kernel,by decide +kernel⟩
theorem Vi:wa ["self","name"] ["self","name"] (la Kd):=⟨rfl,rfl,rfl,by decide +kernel,rfl,by decide +kernel,by decide +kernel⟩
theorem dh:wa ["self","name"] ["self","name"] (la Fc):=⟨rfl,rfl,rfl,by decide +kernel,rfl,by decide +kernel,by decide +kernel⟩
theorem Ui:wa ["self","name"] ["self","name"] (la Jd):=⟨rfl,rfl,rfl,by decide +kernel,rfl,by decide +kernel,by decide +kernel⟩
theorem Yj:wa ["self","name"] ["self","name"] (la De):=⟨rfl,rfl,rfl,by decide +kernel,rfl,by decide +kernel,by decide +kernel⟩
theorem Ti:wa ["self","name"] ["self","name"] (la Hd):=⟨rfl,rfl,rfl,by decide +kernel,rfl,by decide +kernel,by decide +kernel⟩
theorem yp:wa ["_law_script"] ["_law_script"] (la Ph):=⟨rfl,rfl,rfl,by decide +kernel,rfl,by decide +kernel,by decide +kernel⟩
theorem Iq:wa ["_law_draw","_law_many","_law_number","_law_got"] ["_law_draw","_law_many"] (la ck):=⟨rfl,rfl,rfl,by decide +kernel,rfl,by decide +kernel,by decide +kernel⟩
theorem Jq:wa ["_law_draw","_law_count","_law_bench","_law_most","_law_word","_law_lot","_law_needed","_law_n"] ["_law_draw","_law_count","_law_bench","_law_most"] (la fk):=⟨rfl,rfl,rfl,by decide +kernel,rfl,by decide +kernel,by decide +kernel⟩
theorem Lq:wa ["_law_draw","_law_bench","_law_needed"] ["_law_draw","_law_bench"] (la ik):=⟨rfl,rfl,rfl,by decide +kernel,rfl,by decide +kernel,by decide +kernel⟩
theorem Si:wa ["_law_draw","_law_count","_law_many","_law_most","_law_bench","_law_row","_law_k"] ["_law_draw","_law_count","_law_many","_law_most"] (la Gd):=⟨rfl,rfl,rfl,by decide +kernel,rfl,by decide +kernel,by decide +kernel⟩
theorem Kq:wa ["_law_draw","_law_many","_law_letters","_law_step_here","_law_start","_law_tail"] ["_law_draw","_law_many"] (la gk):=⟨rfl,rfl,rfl,by decide +kernel,rfl,by decide +kernel,by decide +kernel⟩
theorem Ap:wa ["_law_draw","_law_house","_law_name","_law_sat","_law_row","_law_person","_law_k"] ["_law_draw","_law_house","_law_name","_law_sat"] (la Qh):=⟨rfl,rfl,rfl,by decide +kernel,rfl,by decide +kernel,by decide +kernel⟩
theorem sc_law:wa ["_law_script","_law_draw","_law_names","_law_house","_law_many","_law_name","_law_row","_law_friends","_law_number","_law_due","_law_k"] ["_law_script"] (la ju):=⟨rfl,rfl,rfl,by decide +kernel,rfl,by decide +kernel,by decide +kernel⟩
open BL BR
structure Txt(K:PySem.W.Frag)(mg:Str->Option Value)(Cac Cab Caa:Addr):Prop where
 kA0:mg "abs"=none
 b_all:mg "all"=none
 kA2:mg "divmod"=none
 kAl:mg "enumerate"=none
 kAa:mg "len"=none
 kAd:mg "list"=none
 kAo:mg "min"=none
 kAb:mg "range"=none
 b_set:mg "set"=none
 kAz:mg "sorted"=none
 kAc:mg "tuple"=none
 kA1:mg "zip"=none
 kAk:∃t,mg "LONGEST_NAME"=some (.int 8 t)
 kAj:∃t,mg "MOST_ON_ROLL"=some (.int 60 t)
 kAg:∃t,mg "MOST_PEOPLE"=some (.int 500 t)
 kAi:∃t,mg "MOST_ROUNDS"=some (.int 20 t)
 kAf:∃t,mg "MOST_SEATS"=some (.int 60 t)
 kAe:∃a,mg "ROLL"=some (.ref a)/\GTup K a [.str "roll",.str ""]
 kAh:∃a,mg "WORDS"=some (.ref a)/\GTup K a [.str "council",.str "bench",.str "stay"]
 f_roll:Ng K Cac "roll"
 f_marks:Ng K Cac "marks"
 f_steps:Ng K Cac "steps"
 f_worthy:Ng K Cac "worthy"
 f_terms:Ng K Cab "terms"
 f_over:Ng K Cab "over"
 f_balls:Ng K Cab "balls"
 f_hangs:Ng K Cab "hangs"
 f_kept:Ng K Caa "kept"
 f_past:Ng K Caa "past"
 f_future:Ng K Caa "future"
section
variable (P : Program) (w : World) (K : PySem.W.Frag) (mg : Str -> Option Value) (base : Heap)
abbrev Uo:Prop:=Callee P w K mg base 1 "ways" ["many","few"] (spWays)
abbrev Se:Prop:=Callee P w K mg base 1 "with_first" ["total","many","few"] (xx)
abbrev Et:Prop:=Callee P w K mg base 2 "pick" ["many","few","number"] (spPick)
abbrev Wf:Prop:=Callee P w K mg base 1 "fits_vote" ["count","sit","seats","needed","word"] (gp)
abbrev Jt:Prop:=Callee P w K mg base 2 "fits" ["count","sit","step"] (spFits)
abbrev Yn:Prop:=Callee P w K mg base 3 "sizes" ["count","row"] (uo)
abbrev Cc:Prop:=Callee P w K mg base 4 "sizes_ahead" ["count","row"] (Qj)
abbrev Xn:Prop:=Callee P w K mg base 5 "whole" ["count","row"] (so)
abbrev Rc:Prop:=Callee P w K mg base 6 "need_whole" ["count","row"] (Pj)
abbrev Td:Prop:=Callee P w K mg base 2 "round_draws" ["count","sit","step"] (Rg)
abbrev Vd:Prop:=Callee P w K mg base 5 "draws_row" ["count","row"] (ip)
abbrev Zn:Prop:=Callee P w K mg base 6 "draws" ["count","row"] (zx)
abbrev Zk:Prop:=Callee P w K mg base 6 "parted" ["count","row","number"] (jx)
abbrev Dt:Prop:=Callee P w K mg base 1 "side" ["bench","on","needed"] (spSide)
abbrev Og:Prop:=Callee P w K mg base 1 "marks_of" ["folk","friends"] (ox)
abbrev Nc:Prop:=Callee P w K mg base 1 "friends_among" ["marks","places"] (bu)
abbrev Vf:Prop:=Callee P w K mg base 1 "seated_by" ["marks","seats","who"] (Il)
abbrev bc:Prop:=Callee P w K mg base 2 "bench_undrawn" ["marks","bench","step"] (Xv)
abbrev qc:Prop:=Callee P w K mg base 1 "drawn_out_of" ["marks","bench","step"] (xq)
abbrev sd:Prop:=Callee P w K mg base 3 "bench_behind" ["marks","bench","step","own"] (spBBeh)
abbrev sg:Prop:=Callee P w K mg base 7 "benches" ["folk","friends","row","number"] (spBenN)
abbrev Ht:Prop:=Callee P w K mg base 8 "head" ["folk","friends","row","number"] (ux)
abbrev Te(Cac:Addr):Prop:=pd P w K mg base 1 Cac "Terms" ["self","roll","marks","steps"] (spTerI Cac)
abbrev fb(Cac:Addr):Prop:=ya P w K mg base 1 Cac "names_at" ["self","places"] (mx Cac)
abbrev zb(Cab:Addr):Prop:=pd P w K mg base 1 Cab "Sitting" ["self","terms","over","balls","hangs"] (spSitI Cab)
abbrev yb(Cab Cac:Addr):Prop:=ya P w K mg base 1 Cab "step" ["self"] (ax Cab Cac)
abbrev jb(Cab Cac:Addr):Prop:=ya P w K mg base 1 Cab "sat_last" ["self"] (spSat Cab Cac)
abbrev ud(Cab Cac:Addr):Prop:=ya P w K mg base 3 Cab "left" ["self"] (px Cab Cac)
abbrev Ra(Cab Cac:Addr):Prop:=ya P w K mg base 2 Cab "due_now" ["self"] (spDueS Cab Cac)
abbrev wb(Cab Cac:Addr):Prop:=ya P w K mg base 2 Cab "bench_now" ["self"] (Zt Cab Cac)
abbrev ib(Cab Cac:Addr):Prop:=ya P w K mg base 4 Cab "waiting_now" ["self"] (Zw Cab Cac)
abbrev Sb(Cab Cac:Addr):Prop:=ya P w K mg base 2 Cab "drawn_now" ["self"] (Yt Cab Cac)
abbrev Cb(Cab Cac:Addr):Prop:=ya P w K mg base 2 Cab "story_so_far" ["self"] (Tt Cab Cac)
abbrev Rb(Cab Cac:Addr):Prop:=ya P w K mg base 3 Cab "head_made" ["self"] (qx Cab Cac)
abbrev qb(Cab Cac:Addr):Prop:=ya P w K mg base 3 Cab "with_bench" ["self","places"] (Yw Cab Cac)
abbrev Jb(Cab Cac:Addr):Prop:=ya P w K mg base 5 Cab "behind_ball" ["self","person"] (Dx Cab Cac)
abbrev Ib(Cab Cac:Addr):Prop:=ya P w K mg base 4 Cab "behind_poll" ["self"] (cx Cab Cac)
abbrev Mi:Prop:=Callee P w K mg base 1 "is_name" ["text"] (spIsNm)
abbrev Ub:Prop:=Callee P w K mg base 2 "need_names" ["texts"] (Vt)
abbrev Ji:Prop:=Callee P w K mg base 1 "may_fit" ["step"] (spMay)
abbrev Pg:Prop:=Callee P w K mg base 1 "marks_in" ["roll","clans"] (yq)
abbrev Ve(Caa:Addr):Prop:=pd P w K mg base 1 Caa "House" ["self"] (spHouI P w K Caa)
abbrev Xf(Caa:Addr):Prop:=ya P w K mg base 1 Caa "put" ["self","key","thing"] (spPut P w K Caa)
abbrev Vb(Caa:Addr):Prop:=ya P w K mg base 2 Caa "do" ["self","deed","key","thing"] (spDo P w K Caa)
abbrev xb(Caa:Addr):Prop:=ya P w K mg base 1 Caa "bound_clans" ["self","name"] (Bq P w K Caa "league")
abbrev fc(Caa:Addr):Prop:=ya P w K mg base 1 Caa "laid_steps" ["self","name"] (Bq P w K Caa "row")
abbrev Na(Caa:Addr):Prop:=ya P w K mg base 1 Caa "sitting" ["self","name"] (Bq P w K Caa "sitting")
abbrev wd(Caa:Addr):Prop:=ya P w K mg base 3 Caa "enroll" ["self","name","clan"] (Xt P w K Caa)
abbrev vd(Caa:Addr):Prop:=ya P w K mg base 3 Caa "league" ["self","name","clans"] (Wt P w K Caa)
abbrev Yf(Caa:Addr):Prop:=ya P w K mg base 3 Caa "lay" ["self","name","row"] (spLay P w K Caa)
abbrev de(Caa Cab Cac:Addr):Prop:=ya P w K mg base 7 Caa "begin" ["self","name","row","league"] (au P w K Caa Cab Cac)
abbrev Xe(Caa Cab Cac:Addr):Prop:=ya P w K mg base 6 Caa "draw" ["self","name","person"] (Ax P w K Caa Cab Cac)
abbrev Ue(Caa Cab Cac:Addr):Prop:=ya P w K mg base 5 Caa "poll" ["self","name"] (gx P w K Caa Cab Cac)
abbrev Pc(Caa:Addr):Prop:=ya P w K mg base 2 Caa "friends" ["self","name"] (cp P w K Caa)
abbrev Yd(Caa Cab Cac:Addr):Prop:=ya P w K mg base 3 Caa "due" ["self","name"] (spDueH P w K Caa Cab Cac)
abbrev ae(Caa Cab Cac:Addr):Prop:=ya P w K mg base 3 Caa "bench" ["self","name"] (uq P w K Caa Cab Cac (λD ls _ _=>Ma D.c ls))
abbrev Oc(Caa Cab Cac:Addr):Prop:=ya P w K mg base 5 Caa "waiting" ["self","name"] (uq P w K Caa Cab Cac rf)
abbrev Zd(Caa Cab Cac:Addr):Prop:=ya P w K mg base 3 Caa "drawn" ["self","name"] (uq P w K Caa Cab Cac (λ_ _ bs _=>bs))
abbrev We(Caa Cab Cac:Addr):Prop:=ya P w K mg base 4 Caa "head" ["self","name"] (wx P w K Caa Cab Cac)
abbrev Xd(Caa Cab Cac:Addr):Prop:=ya P w K mg base 3 Caa "story" ["self","name"] (Ut P w K Caa Cab Cac)
abbrev Ki:Prop:=Callee P w K mg base 1 "_law_begin" ["_law_script"] (Dq K)
abbrev Tc:Prop:=Callee P w K mg base 1 "_law_take" ["_law_draw","_law_many"] (vq)
abbrev il:Prop:=Callee P w K mg base 2 "_law_step" ["_law_draw","_law_count","_law_bench","_law_most"] (spStep)
abbrev xl:Prop:=Callee P w K mg base 2 "_law_last" ["_law_draw","_law_bench"] (spLast)
abbrev Ud:Prop:=Callee P w K mg base 3 "_law_whole_row" ["_law_draw","_law_count","_law_many","_law_most"] (qj)
abbrev jl:Prop:=Callee P w K mg base 2 "_law_pool" ["_law_draw","_law_many"] (bx)
abbrev Li(Caa Cab Cac:Addr):Prop:=Callee P w K mg base 7 "_law_balls" ["_law_draw","_law_house","_law_name","_law_sat"] (Bx P w K Caa Cab Cac)
end
variable {P : Program} {w : World} {K : PySem.W.Frag} {mg : Str -> Option Value} {base : Heap}
theorem Py{Cac Cab Caa : Addr}(T : Txt K mg Cac Cab Caa)(U : Up K mg "ways" Mq ["many", "few"]) : Uo P w K mg base := by
 have sc:=Kx;refine Callee.of (k:=0) U sc (λvs H Q E h=>?_) (λf cdv A outer s H vs Q E hr h=>?_)
 . obtain⟨m,k,rfl,_⟩:=h;rfl
 . obtain⟨m,k,rfl,hm,q⟩:=h
   have hu:=hr.units
   conv in (qa _)=>whnf
   with_reducible refine⟨_,(ja (Oa (PW.pt (fg (ua (ltK (K:=K) ‹rfl› ‹hu›) (pv 1) oa ‹Aa _›) (ie (ua yk (pv 1) (pv 0) ‹Aa _›)))) (ka (xa oa)) Ca) (ja (Ia (i:=2) ‹sc.nd› ‹rfl› ‹Or.inl rfl› oa) (ja (zd PassesOwn.never ‹rfl› (Jc ‹rfl› ‹T.kAb› (aa (Ea (Sn ‹rfl›) ‹rfl› ‹T.kAo› yt (aa (pv 1) (aa (Pa ai (pv 0) (pv 1)) ia))) ia)) (Ga (i:=3) ‹sc.nd› ‹rfl› ‹Or.inl rfl›) (ka (Ia (i:=2) ‹sc.nd› ‹rfl› ‹Or.inl rfl› (Pa Qc (Pa Mf (pv 2) (Pa ai (pv 0) (pv 3))) (Pa (addK (K:=K) ‹rfl›) (pv 3) oa))))) (ka (xa (pv 2)))))),?_⟩
   rw[show L2.start ["many","few","found","at"] [V.int m,V.int k]=[some (V.int m),some (V.int k),none,none] from rfl];left;refine Ba (λh1=>?_) (λh1=>?_)
   . left
     rw[MB.Ct (.inl h1)]at q;exact q
   . left
     refine Ba (λh2=>?_) (λh2=>?_)
     . left
       rw[MB.Ct (.inr h2)]at q;exact q
     . left
       obtain⟨j,hj,hj1,hj2,hj3⟩:∃j:Int,(if m-k<k then m-k else k)=j/\0<=j/\j<=m/\(j=k\/j=m-k):=by
        by_cases z:m-k<k
        . exact⟨m-k,if_pos z,by omega,by omega,.inr rfl⟩
        . exact⟨k,if_neg z,by omega,by omega,.inl rfl⟩
       rw[hj];refine forR (λi σ' H'=>H'=H/\∃x,σ'=[some (.int m),some (.int k),some (.int (MB.ch m.toNat i)),x]) (by omega) (by omega) ⟨rfl,none,by rw[MB.Sd];rfl⟩ ?_ ?_
       . rintro i σ' H' hi ⟨rfl,x,rfl⟩
         left;refine⟨rfl,some (.int i),?_⟩;have e:=MB.ch_div m.toNat i (by omega);have e2:((m.toNat:Nat):Int)=m:=by omega
         rw[e2]at e;rw[e];rfl
       . rintro σ' H' ⟨rfl,x,rfl⟩
         left;rw[<-MB.ch_min (j:=j) (by omega) (by omega) hj3]at q;exact q
theorem zk{Cac Cab Caa:Addr}(T:Txt K mg Cac Cab Caa)(U:Up K mg "with_first" ve ["total","many","few"]):Se P w K mg base:=by
 have sc:=Sj;refine Callee.of (k:=0) U sc (λvs H Q E h=>?_) (λf cdv A outer s H vs Q E hr h=>?_)
 . obtain⟨t,n,k,rfl,_⟩:=h;rfl
 . obtain⟨t,n,k,rfl,h1,h2,h3,h4,q⟩:=h
   have hu:=hr.units
   conv in (qa _)=>whnf
   with_reducible refine⟨_,(ka (xa (Pa Qc (Pa Mf (pv 0) (pv 2)) (pv 1)))),?_⟩
   rw[show L2.start ["total","many","few"] [V.int t,V.int n,V.int k]=[some (V.int t),some (V.int n),some (V.int k)] from rfl];left;exact q
theorem Ry{Cac Cab Caa:Addr}(T:Txt K mg Cac Cab Caa)(U:Up K mg "pick" Oq ["many","few","number"])(Can:Uo P w K mg base)(Cb0:Se P w K mg base):Et P w K mg base:=by
 have sc:=Mx;refine Callee.of (k:=1) U sc (λvs H Q E h=>?_) (λf cdv A outer s H vs Q E hr h=>?_)
 . obtain⟨m,k,r,rfl,_⟩:=h;rfl
 . obtain⟨m,k,r,rfl,hm,hrk,q⟩:=h
   have hu:=hr.units;have hk:=Ro hrk
   conv in (qa _)=>whnf
   with_reducible refine⟨_,(ja (Oa (PW.pt (fg (ua (ltK (K:=K) ‹rfl› ‹hu›) (pv 1) oa ‹Aa _›) (ie (ua yk (pv 1) (pv 0) ‹Aa _›)))) (ka Va) Ca) (ja (Ia (i:=3) ‹sc.nd› ‹rfl› ‹Or.inl rfl› (pe_c ‹Can› ‹hr.mono (by decide)› ‹rfl› (aa (pv 0) (aa (pv 1) ia)))) (ja (Oa (PW.pt (fg (ua (ltK (K:=K) ‹rfl› ‹hu›) (pv 2) oa ‹Aa _›) (ie (ua kn (pv 2) (pv 3) ‹Aa _›)))) (ka Va) Ca) (ja (Ia (i:=4) ‹sc.nd› ‹rfl› ‹Or.inl rfl› (Hb ia)) (ja (zd PassesOwn.never ‹rfl› (Jc ‹rfl› ‹T.kAb› (aa (pv 0) ia)) (Ga (i:=5) ‹sc.nd› ‹rfl› ‹Or.inl rfl›) (ja (Ia (i:=6) ‹sc.nd› ‹rfl› ‹Or.inl rfl› (pe_c ‹Cb0› ‹hr.mono (by decide)› ‹rfl› (aa (pv 3) (aa (Pa ai (pv 0) (pv 5)) (aa (Pa ai (pv 1) (Ea (lenK (K:=K) ‹rfl›) ‹rfl› ‹T.kAa› pb (aa (pv 4) ia))) ia))))) (ka (Oa (ua (ltK (K:=K) ‹rfl› ‹hu›) (pv 2) (pv 6) ‹Aa _›) (ja (Ta (Zm ‹PySem.F.plainAttrs_list› ‹PySem.F.slot_list_append› ‹PySem.F.type_list_append› ‹Bd› (pv 4) (aa (pv 5) ia))) (ka (Ia (i:=3) ‹sc.nd› ‹rfl› ‹Or.inl rfl› (pv 6)))) (ja (kr (i:=2) ‹sc.nd› ‹rfl› ‹Or.inl rfl› (pv 6) Fw) (ka (kr (i:=3) ‹sc.nd› ‹rfl› ‹Or.inl rfl› (pv 6) Fw))))))) (ka (xa (Ua (pj (K:=K) ‹rfl›) ‹rfl› ‹T.kAc› nc (aa (pv 4) ia))))))))),?_⟩
   rw[show L2.start ["many","few","number","total","places","place","having"] [V.int m,V.int k,V.int r]=[some (V.int m),some (V.int k),some (V.int r),none,none,none,none] from rfl];left;refine Ba (λh1=>by omega) (λh1=>?_);left;refine Ba (λh2=>by omega) (λh2=>?_);left;refine⟨_,_,rfl,(by omega),?_⟩;rw[MB.Tv];left;refine Ba (λh3=>by omega) (λh3=>?_);left;refine Ba (λh4=>by omega) (λh4=>?_);left;intro pl hpl;left;refine forR (λi σ' H'=>∃(acc:List Nat) (k' r':Nat) (x y:Option V),MB.pk m 0 k r=acc++MB.pk (m-i) i k' r'/\r' <MB.ch (m-i) k'/\acc.length+k'=k/\H' pl=some (lstN acc)/\Fr1 pl H H' /\
    σ'=[some (.int m),some (.int k),some (.int r'),some (.int (MB.ch (m-i) k')),some (.ref pl),x,y]) (by omega) (by omega) ⟨[],k,r,none,none,rfl,hrk,by simp,da,(Fr1.refl pl H).upd,rfl⟩ ?_ ?_
   . rintro i σ' H' hi ⟨acc,k',r',x,y,e,hr',hl,hp,fr,rfl⟩
     have hi':i<m:=by omega
     have hk':=Ro hr';left;refine Wq (xs:=(zs acc).map V.int) hp ?_;left;rw[Ha];have ek:(k:Int)-(acc.length:Int)=(k':Int):=by omega
     rw[ek];refine⟨_,_,_,rfl,(by omega),(by omega),(by omega),(by omega),?_⟩;rw[Km hi' (by omega)];left;refine Ba (λh5=>?_) (λh5=>?_)
     . have h5':r' <MB.hv (m-i) k':=by omega
       obtain⟨j,rfl⟩:=hv_pos h5';left;refine su (xs:=(zs acc).map V.int) hp ?_;left;refine Md (xs:=(zs acc).map V.int) hp (by rw[Ha,sizeLine_eq];omega) ?_;left;rw[lst_snoc];refine⟨acc++[i],j,r',some (.int i),some (.int (MB.hv (m-i) (j+1))),?_,?_,?_,da,fr.upd,?_⟩
       . rw[e,pk_in' hi' h5',List.append_assoc];rfl
       . rw[<-hv_ch hi'];exact h5'
       . rw[List.length_append,List.length_cons,List.length_nil];omega
       . rw[hv_ch hi'];rfl
     . left
       have h5':¬r' <MB.hv (m-i) k':=by omega
       have ec:=ch_hv (k:=k') hi';refine⟨acc,k',r' -MB.hv (m-i) k',some (.int i),some (.int (MB.hv (m-i) k')),?_,by omega,hl,hp,fr,?_⟩
       . rw[e,Ey hi' h5']
       . rw[show (r':Int)-(MB.hv (m-i) k':Int)=((r' -MB.hv (m-i) k':Nat):Int) by omega,show (MB.ch (m-i) k':Int)-(MB.hv (m-i) k':Int)=((MB.ch (m-(i+1)) k':Nat):Int) by omega]
         rfl
   . rintro σ' H' ⟨acc,k',r',x,y,e,hr',hl,hp,fr,rfl⟩
     left;refine Ye (xs:=(zs acc).map V.int) hp ?_;intro t ht;have e0:m-(m:Int).toNat=0:=by omega
     rw[e0]at e;have e1:MB.pk m 0 k r=acc:=by rw[e];simp[MB.pk]
     have sm:Same H H':=λb o z=>fr b o z (ba z hpl);refine q t _ (sm.free ht) (sm.new ht) ?_;rw[da,e1];rfl
theorem fm{Cac Cab Caa:Addr}(T:Txt K mg Cac Cab Caa)(U:Up K mg "fits_vote" Df ["count","sit","seats","needed","word"]):Wf P w K mg base:=by
 have sc:=Nl;refine Callee.of (k:=0) U sc (λvs H Q E h=>?_) (λf cdv A outer s H vs Q E hr h=>?_)
 . obtain⟨c,s,n,q,w,rfl,_⟩:=h;rfl
 . obtain⟨c,s,n,q,w,rfl,⟨f1,f2,f3,f4,f5,f6,f7⟩,k⟩:=h
   have hu:=hr.units
   conv in (qa _)=>whnf
   with_reducible refine⟨_,(ja (Oa (PW.pt (fg (ua yk (pv 2) (pv 0) ‹Aa _›) (fg (ua (leK (K:=K) ‹rfl› ‹hu›) (Pa Mf (pv 3) oa) (pv 1) ‹Aa _›) (ie (ua yk (pv 3) (pv 1) ‹Aa _›))))) (ka (xa kh)) Ca) (ja (Oa (ua (eqK (K:=K) ‹rfl› ‹hu›) (pv 4) za ‹Aa _›) (ka (xa (Bb (leK (K:=K) ‹rfl› ‹hu›) (pv 2) (pv 1) ‹Aa _›))) Ca) (ja (Oa (ua (eqK (K:=K) ‹rfl› ‹hu›) (pv 4) za ‹Aa _›) (ka (xa (Bb (eqK (K:=K) ‹rfl› ‹hu›) (pv 2) (pv 1) ‹Aa _›))) Ca) (ka (xa (Bb (eqK (K:=K) ‹rfl› ‹hu›) (pv 4) za ‹Aa _›)))))),?_⟩
   rw[show L2.start ["count","sit","seats","needed","word"] [V.int c,V.int s,V.int n,V.int q,V.str (wdS w)]=[some (V.int c),some (V.int s),some (V.int n),some (V.int q),some (V.str (wdS w))] from rfl];left;refine Ba (λh1=>by omega) (λ_=>?_);left;refine Ba (λh1=>by omega) (λ_=>?_);left;refine Ba (λh1=>by omega) (λ_=>?_);left;cases w with
   | council =>
    refine Ba (λh1=>absurd h1 (by decide)) (λ_=>?_);left;refine Ba (λh1=>absurd h1 (by decide)) (λ_=>?_);left;exact k
   | bench =>
    refine Ba (λh1=>?_) (λh1=>absurd rfl h1);left;rw[decide_eq_true (show (n:Int)<=(s:Int) by have:=f6 rfl;omega)];exact k
   | stay =>
    refine Ba (λh1=>absurd h1 (by decide)) (λ_=>?_);left;refine Ba (λh1=>?_) (λh1=>absurd rfl h1);left;rw[decide_eq_true (show (n:Int)=(s:Int) by have:=f7 rfl;omega)];exact k
theorem Uy{Cac Cab Caa:Addr}(T:Txt K mg Cac Cab Caa)(U:Up K mg "fits" Qq ["count","sit","step"])(Cbs:Wf P w K mg base):Jt P w K mg base:=by
 have sc:=Ox;refine Callee.of (k:=1) U sc (λvs H Q E h=>?_) (λf cdv A outer s H vs Q E hr h=>?_)
 . obtain⟨c,s,p,r,rfl,_⟩:=h;rfl
 . obtain⟨c,s,p,r,rfl,hp,ft,k⟩:=h
   have hu:=hr.units
   conv in (qa _)=>whnf
   with_reducible refine⟨_,(ja (Oa (PW.pt (fg (ua (ltK (K:=K) ‹rfl› ‹hu›) (Ja (ixK (K:=K) ‹rfl›) (pv 2) oa ‹λ_ _=>rfl›) oa ‹Aa _›) (ie (ua yk (Ja (ixK (K:=K) ‹rfl›) (pv 2) oa ‹λ_ _=>rfl›) (Nd ‹rfl› ‹T.kAf›) ‹Aa _›)))) (ka (xa kh)) Ca) (ja (Oa (PW.pt (Xh (ua (eqK (K:=K) ‹rfl› ‹hu›) (Ja (ixK (K:=K) ‹rfl›) (pv 2) oa ‹λ_ _=>rfl›) za ‹Aa _›) (Kf (ua (eqK (K:=K) ‹rfl› ‹hu›) (Ea (lenK (K:=K) ‹rfl›) ‹rfl› ‹T.kAa› pb (aa (pv 2) ia)) oa ‹Aa _›)))) (ka (xa (Bb (leK (K:=K) ‹rfl› ‹hu›) (Ja (ixK (K:=K) ‹rfl›) (pv 2) oa ‹λ_ _=>rfl›) (pv 1) ‹Aa _›))) Ca) (ja (Oa (PW.pt (Xh (ua (eqK (K:=K) ‹rfl› ‹hu›) (Ja (ixK (K:=K) ‹rfl›) (pv 2) oa ‹λ_ _=>rfl›) za ‹Aa _›) (Kf (ua (eqK (K:=K) ‹rfl› ‹hu›) (Ea (lenK (K:=K) ‹rfl›) ‹rfl› ‹T.kAa› pb (aa (pv 2) ia)) oa ‹Aa _›)))) (ka (xa (pe_c ‹Cbs› ‹hr.mono (by decide)› ‹rfl› (aa (pv 0) (aa (pv 1) (aa (Ja (ixK (K:=K) ‹rfl›) (pv 2) oa ‹λ_ _=>rfl›) (aa (Ja (ixK (K:=K) ‹rfl›) (pv 2) oa ‹λ_ _=>rfl›) (aa (Ja (ixK (K:=K) ‹rfl›) (pv 2) oa ‹λ_ _=>rfl›) ia)))))))) Ca) (ka (xa kh))))),?_⟩
   rw[show L2.start ["count","sit","step"] [V.int c,V.int s,V.ref p]=[some (V.int c),some (V.int s),some (V.ref p)] from rfl];cases r with
   | lot n =>
    have hp':H p=some (.tup [.str "lot",.int n]):=hp;obtain⟨f1,f2,f3⟩:=ft;left;refine Ba (λh1=>by omega) (λ_=>?_);left;refine Ba (λh1=>by omega) (λ_=>?_);left;refine Ba (λ_=>?_) (λh1=>absurd rfl h1);left;refine Ba (λ_=>?_) (λh1=>absurd rfl h1);left;rw[decide_eq_true (show (n:Int)<=(s:Int) by omega)];exact k
   | vote n q w =>
    have hp':H p=some (.tup [.str "vote",.int n,.int q,.str (wdS w)]):=hp;have ft':=ft;obtain⟨f1,f2,f3⟩:=ft';left;refine Ba (λh1=>by omega) (λ_=>?_);left;refine Ba (λh1=>by omega) (λ_=>?_);left;refine Ba (λh1=>absurd h1 (by decide)) (λ_=>?_);left;refine Ba (λ_=>?_) (λh1=>absurd rfl h1);left;refine Ba (λ_=>?_) (λh1=>absurd rfl h1);left;exact⟨_,_,_,_,_,rfl,ft,k⟩
theorem Tu{Cac Cab Caa:Addr}(T:Txt K mg Cac Cab Caa)(U:Up K mg "sizes" Sm ["count","row"])(Cbt:Jt P w K mg base):Yn P w K mg base:=by
 have sc:=gu;refine Callee.of (k:=2) U sc (λvs H Q E h=>?_) (λf cdv A outer s H vs Q E hr h=>?_)
 . obtain⟨k,c,a,ps,rs,rfl,_⟩:=h;rfl
 . obtain⟨k,c,a,ps,rs,rfl,⟨R,c1,c2,ft,ln⟩,q⟩:=h
   have hu:=hr.units
   conv in (qa _)=>whnf
   with_reducible refine⟨_,(ja (Oa (PW.pt (fg (ua (ltK (K:=K) ‹rfl› ‹hu›) (pv 0) oa ‹Aa _›) (ie (ua yk (pv 0) (Nd ‹rfl› ‹T.kAg›) ‹Aa _›)))) (ka Va) Ca) (ja (Ia (i:=2) ‹sc.nd› ‹rfl› ‹Or.inl rfl› (pv 0)) (ja (Ia (i:=3) ‹sc.nd› ‹rfl› ‹Or.inl rfl› (Hb ia)) (ja (zd PassesOwn.never ‹rfl› (xk ‹rfl› ‹T.kAl› (aa (pv 1) ia)) (xi (K:=K) (n:=2) ‹rfl› ‹rfl› (Qa (Ga (i:=4) ‹sc.nd› ‹rfl› ‹Or.inl rfl›) (Qa (Ga (i:=5) ‹sc.nd› ‹rfl› ‹Or.inl rfl›) Kc))) (ja (Oa (Ul (truK (K:=K) ‹rfl› (pe_c ‹Cbt› ‹hr.mono (by decide)› ‹rfl› (aa (pv 0) (aa (pv 2) (aa (pv 5) ia)))))) (ka Va) Ca) (ja (Ia (i:=2) ‹sc.nd› ‹rfl› ‹Or.inl rfl› (Ja (ixK (K:=K) ‹rfl›) (pv 5) oa ‹λ_ _=>rfl›)) (ka (Ta (Zm ‹PySem.F.plainAttrs_list› ‹PySem.F.slot_list_append› ‹PySem.F.type_list_append› ‹Bd› (pv 3) (aa (pv 2) ia))))))) (ka (xa (pv 3))))))),?_⟩
   rw[show L2.start ["count","row","sit","found","at","step"] [V.int c,V.ref a]=[some (V.int c),some (V.ref a),none,none,none,none] from rfl];left;refine Ba (λh1=>by omega) (λ_=>?_);left;refine Ba (λh1=>by omega) (λ_=>?_);left;intro f hf;left;have haf:a≠f:=ba R.ls hf;refine forEB (k:=k) (a:=a) (xs:=ps.map V.ref) (λi σ' H'=>∃x y:Option V,Fr1 f H H'/\H' f=some (lstN (szs (rs.take i)))/\σ'=[some (.int c),some (.ref a),some (.int (Ya c (rs.take i):Nat)),some (.ref f),x,y]) ⟨none,none,(Fr1.refl f H).upd,da,rfl⟩ (λi σ' H' _ ⟨_,_,fr,_⟩=>fr.get R.ls haf) ?_ ?_
   . rintro i x σ' H' T hi ⟨x1,y1,fr,hf',rfl⟩ hT
     obtain⟨p,r,rfl,hp,hr',ho⟩:=R.get hi;have hpf:p≠f:=ba ho hf;have ho':H' p=some (rnO r):=fr.get ho hpf;have hpT:p≠T:=ba ho' hT;have hfT:f≠T:=ba hf' hT;have fit:=ft.at hr';left;refine⟨_,_,_,_,rfl,(La hpT ho'),fit,?_⟩;left;obtain⟨xs,e1,e2⟩:=rn_n r;refine uf (xs:=xs) (by rw[<-e1];exact La hpT ho') e2 ?_;left;refine su (xs:=(zs (szs (rs.take i))).map V.int) (La hfT hf') ?_;left;refine Md (xs:=(zs (szs (rs.take i))).map V.int) (La hfT hf') (by rw[Ha,sizeLine_eq];unfold szs;rw[List.length_map,List.length_take];omega) ?_;left;have en:=BR.Ka hr';refine⟨some (.int i),some (.ref p),((fr.new hT).upd),?_,?_⟩
     . rw[da,lst_snoc,en]
       show some (lstN _)=some (lstN _);congr 2
       unfold szs;rw[List.map_append];rfl
     . rw[en,Ig];rfl
   . rintro σ' H' ⟨x1,y1,fr,hf',rfl⟩
     left;rw[List.length_map,R.ln,List.take_length]at hf';exact q f H' hf (λb o z=>fr b o z (ba z hf)) hf'
theorem Xi{Cac Cab Caa:Addr}(T:Txt K mg Cac Cab Caa)(U:Up K mg "sizes_ahead" Ed ["count","row"])(Ca2:Yn P w K mg base):Cc P w K mg base:=by
 have sc:=Qi;refine Callee.of (k:=3) U sc (λvs H Q E h=>?_) (λf cdv A outer s H vs Q E hr h=>?_)
 . obtain⟨k,c,a,ps,rs,rfl,_⟩:=h;rfl
 . obtain⟨k,c,a,ps,rs,rfl,R,q⟩:=h
   have hu:=hr.units
   conv in (qa _)=>whnf
   with_reducible refine⟨_,(ka (xa (Pa (addK (K:=K) ‹rfl›) (Hb (aa (pv 0) ia)) (pe_c ‹Ca2› ‹hr.mono (by decide)› ‹rfl› (aa (pv 0) (aa (pv 1) ia)))))),?_⟩
   rw[show L2.start ["count","row"] [V.int c,V.ref a]=[some (V.int c),some (V.ref a)] from rfl];left;intro f hf;have s1:Same H (upd H f (.lst [.int c])):=(Same.refl H).new hf;left;refine Yo (R.same s1) λp H' hp s2 hp'=>?_;have ln:=R.ln;refine Vh (xs:=[.int c]) (ys:=(zs (szs rs)).map V.int) (s2 _ _ da) hp' (by rw[Ha,sizeLine_eq];unfold szs;rw[List.length_map];simp only[List.length_cons,List.length_nil];omega) λp2 hp2=>?_;exact q p2 _ (s1.free (s2.free hp2)) ((s1.tr s2).new hp2) da
theorem Su{Cac Cab Caa:Addr}(T:Txt K mg Cac Cab Caa)(U:Up K mg "whole" Rm ["count","row"])(Cas:Cc P w K mg base):Xn P w K mg base:=by
 have sc:=fu;refine Callee.of (k:=4) U sc (λvs H Q E h=>?_) (λf cdv A outer s H vs Q E hr h=>?_)
 . obtain⟨k,c,a,ps,rs,rfl,_⟩:=h;rfl
 . obtain⟨k,c,a,ps,rs,rfl,R,q⟩:=h
   have hu:=hr.units
   conv in (qa _)=>whnf
   with_reducible refine⟨_,(ka (xa (Bb (eqK (K:=K) ‹rfl› ‹hu›) (Ja (ixK (K:=K) ‹rfl›) (pe_c ‹Cas› ‹hr.mono (by decide)› ‹rfl› (aa (pv 0) (aa (pv 1) ia))) (Fp nj oa) ‹λ_ _=>rfl›) oa ‹Aa _›))),?_⟩
   rw[show L2.start ["count","row"] [V.int c,V.ref a]=[some (V.int c),some (V.ref a)] from rfl];left;refine sj R λp H1 hp s1 hp1=>?_;left;have hat:atI ((zs (c::szs rs)).map V.int) (-1)=some (.int (Ya c rs:Nat)):=Bt (by
    have:=Hi (s:=c) (rs:=rs) (i:=rs.length) (Nat.le_refl _);rw[List.take_length]at this;exact this) (by rw[List.length_cons];unfold szs;rw[List.length_map])
   refine gc (xs:=(zs (c::szs rs)).map V.int) hp1 hat ?_;left;rw[show decide (((Ya c rs:Nat):Int)=1)=decide (Ya c rs=1) by by_cases z:Ya c rs=1<;>simp[z];omega];exact q _ s1
theorem Ak{Cac Cab Caa:Addr}(T:Txt K mg Cac Cab Caa)(U:Up K mg "need_whole" we ["count","row"])(Cbf:Xn P w K mg base):Rc P w K mg base:=by
 have sc:=Tj;refine Callee.of (k:=5) U sc (λvs H Q E h=>?_) (λf cdv A outer s H vs Q E hr h=>?_)
 . obtain⟨k,c,a,ps,rs,rfl,_⟩:=h;rfl
 . obtain⟨k,c,a,ps,rs,rfl,R,hw,q⟩:=h
   have hu:=hr.units
   conv in (qa _)=>whnf
   with_reducible refine⟨_,(ka (Oa (Ul (truK (K:=K) ‹rfl› (pe_c ‹Cbf› ‹hr.mono (by decide)› ‹rfl› (aa (pv 0) (aa (pv 1) ia))))) (ka Va) Ca)),?_⟩
   rw[show L2.start ["count","row"] [V.int c,V.ref a]=[some (V.int c),some (V.ref a)] from rfl];left;refine Xo R λH1 s1=>?_;rw[decide_eq_true hw];left;exact q _ s1
theorem Yi{Cac Cab Caa:Addr}(T:Txt K mg Cac Cab Caa)(U:Up K mg "round_draws" Fd ["count","sit","step"])(Can:Uo P w K mg base):Td P w K mg base:=by
 have sc:=Ri;refine Callee.of (k:=1) U sc (λvs H Q E h=>?_) (λf cdv A outer s H vs Q E hr h=>?_)
 . obtain⟨c,s,p,r,rfl,_⟩:=h;rfl
 . obtain⟨c,s,p,r,rfl,hp,h1,h2,k⟩:=h
   have hu:=hr.units
   conv in (qa _)=>whnf
   with_reducible refine⟨_,(ja (Oa (PW.pt (fg (ua (eqK (K:=K) ‹rfl› ‹hu›) (Ja (ixK (K:=K) ‹rfl›) (pv 2) oa ‹λ_ _=>rfl›) za ‹Aa _›) (ie (ua (eqK (K:=K) ‹rfl› ‹hu›) (Ja (ixK (K:=K) ‹rfl›) (pv 2) oa ‹λ_ _=>rfl›) za ‹Aa _›)))) (ka (xa (pe_c ‹Can› ‹hr.mono (by decide)› ‹rfl› (aa (pv 1) (aa (Ja (ixK (K:=K) ‹rfl›) (pv 2) oa ‹λ_ _=>rfl›) ia))))) Ca) (ja (Oa (ua (eqK (K:=K) ‹rfl› ‹hu›) (Ja (ixK (K:=K) ‹rfl›) (pv 2) oa ‹λ_ _=>rfl›) za ‹Aa _›) (ka (xa (pe_c ‹Can› ‹hr.mono (by decide)› ‹rfl› (aa (pv 0) (aa (Ja (ixK (K:=K) ‹rfl›) (pv 2) oa ‹λ_ _=>rfl›) ia))))) Ca) (ka (xa oa)))),?_⟩
   rw[show L2.start ["count","sit","step"] [V.int c,V.int s,V.ref p]=[some (V.int c),some (V.int s),some (V.ref p)] from rfl];cases r with
   | lot n =>
    have hp':H p=some (.tup [.str "lot",.int n]):=hp;left;refine Ba (λ_=>?_) (λh1=>absurd rfl h1);left;refine⟨_,_,rfl,(by omega),?_⟩;rw[MB.Tv];exact k
   | vote n q w =>
    have hp':H p=some (.tup [.str "vote",.int n,.int q,.str (wdS w)]):=hp;left;refine Ba (λh1=>absurd h1 (by decide)) (λ_=>?_);left;cases w with
    | council =>
     refine Ba (λh1=>absurd h1 (by decide)) (λ_=>?_);left;refine Ba (λ_=>?_) (λh1=>absurd rfl h1);left;refine⟨_,_,rfl,(by omega),?_⟩;rw[MB.Tv];exact k
    | bench =>
     refine Ba (λ_=>?_) (λh1=>absurd rfl h1);left;refine⟨_,_,rfl,(by omega),?_⟩;rw[MB.Tv];exact k
    | stay =>
     refine Ba (λh1=>absurd h1 (by decide)) (λ_=>?_);left;refine Ba (λh1=>absurd h1 (by decide)) (λ_=>?_);left;exact k
theorem gm{Cac Cab Caa:Addr}(T:Txt K mg Cac Cab Caa)(U:Up K mg "draws_row" Ef ["count","row"])(Cas:Cc P w K mg base)(Cbp:Td P w K mg base):Vd P w K mg base:=by
 have sc:=Ol;refine Callee.of (k:=4) U sc (λvs H Q E h=>?_) (λf cdv A outer s H vs Q E hr h=>?_)
 . obtain⟨c,a,ps,rs,rfl,_⟩:=h;rfl
 . obtain⟨c,a,ps,rs,rfl,R,q⟩:=h
   have hu:=hr.units
   conv in (qa _)=>whnf
   with_reducible refine⟨_,(ka (xa (jf ["count"] ["step","sit"] [0] (by with_unfolding_all rfl) ‹rfl› ‹rfl› (Bw ‹rfl› ‹T.kA1› (aa (pv 1) (aa (pe_c ‹Cas› ‹hr.mono (by decide)› ‹rfl› (aa (pv 0) (aa (pv 1) ia))) ia))) (by decide) ‹rfl› (by decide) ‹⟨rfl,trivial⟩› (by with_unfolding_all rfl) (λ_=>‹⟨cap1 rfl rfl rfl rfl,trivial⟩›) (λ_ _ _ _=>(xi (K:=K) (n:=2) ‹rfl› ‹rfl› (Qa (Ga (i:=1) ‹show List.Nodup (["count","step","sit"]:List Str) from by decide +kernel› ‹rfl› ‹Or.inl rfl› ‹.inr rfl›) (Qa (Ga (i:=2) ‹show List.Nodup (["count","step","sit"]:List Str) from by decide +kernel› ‹rfl› ‹Or.inl rfl› ‹.inr rfl›) Kc)))) (λ_ _ _ _=>jc) (λ_ _ _ _=>(pe_c ‹Cbp› ‹hr.mono (by decide)› ‹rfl› (aa (pv 0) (aa (pv 2) (aa (pv 1) ia)))))))),?_⟩
   rw[show L2.start ["count","row"] [V.int c,V.ref a]=[some (V.int c),some (V.ref a)] from rfl];left;refine qp R λp H1 hp s1 hp1=>?_;have R1:=R.same s1;have c2:=R.c2;have ln:=R.ln;have rl:=R.rw.ln;refine compZ (a1:=a) (a2:=p) (xs:=ps.map V.ref) (ws:=(zs (c::szs rs)).map V.int) [some (.int c)] (λi ys H'=>Same H1 H'/\ys=(zs (drs c c (rs.take i))).map V.int) rfl (by rw[List.length_map,sizeLine_eq];omega) ⟨λ_ _ z=>z,rfl⟩
    (λi ys H' _ _ ⟨s,_⟩=>⟨s _ _ R1.rw.ls,s _ _ hp1⟩) (λi ys H' ⟨_,e⟩=>by rw[e,Ha,Mg,List.length_take];omega) ?_ ?_
   . rintro i x w ys z1 z2 H' T hi hw ⟨s,rfl⟩ hT
     obtain⟨p2,r,rfl,_,hr',ho⟩:=R1.rw.get hi;have hil:i<rs.length:=(List.getElem?_eq_some_iff.mp hr').1;have ew:w= .int (Ya c (rs.take i):Nat):=by
      have:=Hi (s:=c) (rs:=rs) (i:=i) (by omega);unfold zs at hw;rw[List.getElem?_map,List.getElem?_map,this]at hw;exact(Option.some.inj hw).symm
     subst ew;have lb:=Yb (R.ft.take i) R.c1 (Nat.le_refl _);left;refine Ni (r:=r) (La (ba (s _ _ ho) hT) (s _ _ ho)) (by omega) (by omega) ?_;refine⟨⟨s.new hT,?_⟩,_,_,rfl⟩;rw[BR.Ka hr',Oo,<-lst_snoc]
   . rintro ys H' ⟨s,rfl⟩ D hD
     have e:min (ps.map V.ref).length ((zs (c::szs rs)).map V.int).length=rs.length:=by
      rw[Ha,List.length_map,List.length_cons];unfold szs;rw[List.length_map];omega
     rw[e,List.take_length];exact q D _ (s1.free (s.free hD)) ((s1.tr s).new hD) da
theorem Uu{Cac Cab Caa:Addr}(T:Txt K mg Cac Cab Caa)(U:Up K mg "draws" Um ["count","row"])(Caq:Vd P w K mg base):Zn P w K mg base:=by
 have sc:=iu;refine Callee.of (k:=5) U sc (λvs H Q E h=>?_) (λf cdv A outer s H vs Q E hr h=>?_)
 . obtain⟨c,a,ps,rs,rfl,_⟩:=h;rfl
 . obtain⟨c,a,ps,rs,rfl,R,q⟩:=h
   have hu:=hr.units
   conv in (qa _)=>whnf
   with_reducible refine⟨_,(ja (Ia (i:=2) ‹sc.nd› ‹rfl› ‹Or.inl rfl› oa) (ja (zd PassesOwn.never ‹rfl› (piLK (K:=K) ‹rfl› (pe_c ‹Caq› ‹hr.mono (by decide)› ‹rfl› (aa (pv 0) (aa (pv 1) ia)))) (Ga (i:=3) ‹sc.nd› ‹rfl› ‹Or.inl rfl›) (ka (kr (i:=2) ‹sc.nd› ‹rfl› ‹Or.inl rfl› (pv 3) ip_mul))) (ka (xa (pv 2))))),?_⟩
   rw[show L2.start ["count","row","found","many"] [V.int c,V.ref a]=[some (V.int c),some (V.ref a),none,none] from rfl];left;refine⟨_,_,_,_,rfl,R,λp H1 hp s1 hp1=>?_⟩;have lt:=Ss R.ft (Nat.le_refl _) (by have:=R.c2;omega);have ln:=R.ln;have dl:=Mg c rs c;refine forL (a:=p) (xs:=(zs (drs c c rs)).map V.int) (λi σ' H'=>H'=H1/\∃x:Option V,σ'=[some (.int c),some (.ref a),some (.int (ab ((drs c c rs).take i):Nat)),x]) ⟨rfl,none,rfl⟩ (λi σ' H' _ ⟨e,_⟩=>by subst e;exact SqL.of hp1) ?_ ?_
   . rintro i x σ' H' hi ⟨rfl,x1,rfl⟩
     obtain⟨n,hn,rfl⟩:∃n,(drs c c rs)[i]?=some n/\V.int (n:Nat)=x:=by
      unfold zs at hi;rw[List.getElem?_map,List.getElem?_map]at hi;cases w:(drs c c rs)[i]? with
      | none=>rw[w]at hi;cases hi
      | some n=>rw[w]at hi;exact⟨n,rfl,Option.some.inj hi⟩
     have hil:i<(drs c c rs).length:=(List.getElem?_eq_some_iff.mp hn).1;have b1:=sk (b:=512) ((drs c c rs).take i) λy hy=>lt y (List.mem_of_mem_take hy);have b2:=lt n (List.mem_of_getElem? hn);left;refine r_ipC (.of _ 512 (by rw[Int.natAbs_natCast];exact b1) (by rw[Int.natAbs_natCast];exact b2) (by rw[List.length_take];omega)) ?_;refine⟨rfl,some (.int n),?_⟩;rw[BR.Ka hn,xj,Int.natCast_mul];rfl
   . rintro σ' H' ⟨rfl,x1,rfl⟩
     left;rw[Ha,List.take_length];exact q _ s1
theorem Mr{Cac Cab Caa:Addr}(T:Txt K mg Cac Cab Caa)(U:Up K mg "parted" ak ["count","row","number"])(Caq:Vd P w K mg base):Zk P w K mg base:=by
 have sc:=Hq;refine Callee.of (k:=5) U sc (λvs H Q E h=>?_) (λf cdv A outer s H vs Q E hr h=>?_)
 . obtain⟨c,a,ps,rs,N,rfl,_⟩:=h;rfl
 . obtain⟨c,a,ps,rs,N,rfl,R,hN,q⟩:=h
   have hu:=hr.units
   conv in (qa _)=>whnf
   with_reducible refine⟨_,(ja (Ia (i:=3) ‹sc.nd› ‹rfl› ‹Or.inl rfl› (Hb ia)) (ja (zd PassesOwn.never ‹rfl› (piLK (K:=K) ‹rfl› (Br (K:=K) ‹rfl› (pe_c ‹Caq› ‹hr.mono (by decide)› ‹rfl› (aa (pv 0) (aa (pv 1) ia))) (Fp nj oa))) (Ga (i:=4) ‹sc.nd› ‹rfl› ‹Or.inl rfl›) (ja (Tg (Ea qt ‹rfl› ‹T.kA2› zt (aa (pv 2) (aa (pv 4) ia))) (xi (K:=K) (n:=2) ‹rfl› ‹rfl› (Qa (Ga (i:=2) ‹sc.nd› ‹rfl› ‹Or.inl rfl›) (Qa (Ga (i:=5) ‹sc.nd› ‹rfl› ‹Or.inl rfl›) Kc)))) (ka (Ta (Zm ‹PySem.F.plainAttrs_list› ‹PySem.F.slot_list_append› ‹PySem.F.type_list_append› ‹Bd› (pv 3) (aa (pv 5) ia)))))) (ja (Oa (ua (neK (K:=K) ‹rfl› ‹hu›) (pv 2) oa ‹Aa _›) (ka Va) Ca) (ka (xa (Br (K:=K) ‹rfl› (pv 3) (Fp nj oa))))))),?_⟩
   rw[show L2.start ["count","row","number","found","many","own"] [V.int c,V.ref a,V.int N]=[some (V.int c),some (V.ref a),some (V.int N),none,none,none] from rfl];left;intro fa hfa;have s0:=(Same.refl H).new (o:=.lst []) hfa;have R0:=R.same s0;have a0:upd H fa (.lst []) fa=some (.lst []):=da;generalize upd H fa (.lst [])=H0 at s0 R0 a0 ⊢;left;refine⟨_,_,_,_,rfl,R0,λp H1 hp s1 hp1=>?_⟩;have a1:=s1 _ _ a0;left;have c2:=R.c2;have pos:=Qs R.ft (Nat.le_refl _);have lt:=Ss R.ft (Nat.le_refl _) (by omega);have ln:=R.ln;have dl:=Mg c rs c;have hN':N<ab (drs c c rs):=hN;generalize hD:drs c c rs=L at *;refine bw (xs:=(zs L).map V.int) hp1 ?_;intro pr hpr;have s2:=(Same.refl H1).new (o:=.lst ((zs L).map V.int).reverse) hpr;have a2:=s2 _ _ a1;have h2:upd H1 pr (.lst ((zs L).map V.int).reverse) pr=some (.lst ((zs L).map V.int).reverse):=da;have nfp:fa≠pr:=ba a1 hpr;have S2:=(s0.tr s1).tr s2;generalize upd H1 pr (.lst ((zs L).map V.int).reverse)=H2 at s2 a2 h2 S2 ⊢;refine forL (a:=pr) (xs:=((zs L).map V.int).reverse) (λi σ' H'=>i<=L.length/\Fr1 fa H2 H'/\H' fa=some (.lst ((zs (lj (L.drop (L.length-i)) N).reverse).map V.int))/\∃x y:Option V,σ'=[some (.int c),some (.ref a),some (.int ((N/ab (L.drop (L.length-i)):Nat):Int)),some (.ref fa),x,y]) ⟨Nat.zero_le _,Fr1.refl _ _,by rw[Nat.sub_zero,List.drop_length];exact a2,none,none,by rw[Nat.sub_zero,List.drop_length];show _=[some (V.int c),some (V.ref a),some (V.int ((N/1:Nat):Int)),some (V.ref fa),none,none];rw[Nat.div_one];rfl⟩ (λi σ' H' _ h=>by obtain⟨_,fr,_⟩:=h;exact SqL.of (fr.get h2 nfp.symm)) ?_ ?_
   . rintro i x σ' H' hi ⟨_,fr,hf,x1,y1,rfl⟩
     have hil:i<L.length:=by
      have:=(List.getElem?_eq_some_iff.mp hi).1;rw[List.length_reverse,Ha]at this;exact this
     obtain⟨j,hj⟩:∃j,j=L.length-1-i:=⟨_,rfl⟩
     obtain⟨m,hm,rfl⟩:∃m,L[j]?=some m/\V.int (m:Nat)=x:=by
      rw[List.getElem?_reverse (by rw[Ha];exact hil),Ha,<-hj]at hi;unfold zs at hi;rw[List.getElem?_map,List.getElem?_map]at hi;cases w:L[j]? with
      | none=>rw[w]at hi;cases hi
      | some n=>rw[w]at hi;exact⟨n,rfl,Option.some.inj hi⟩
     have b2:=lt m (List.mem_of_getElem? hm);have m0:=pos m (List.mem_of_getElem? hm);have e1:L.length-(i+1)=j:=by omega
     have e2:L.length-i=j+1:=by omega
     rw[e2]at hf ⊢;have dd:lj (L.drop j) N=N/ab (L.drop (j+1))%m::lj (L.drop (j+1)) N:=by
      have hi':j<L.length:=(List.getElem?_eq_some_iff.mp hm).1;rw[List.drop_eq_getElem_cons hi'];rw[List.getElem?_eq_getElem hi']at hm;rw[Option.some.inj hm];rfl
     have ed:((N/ab (L.drop (j+1)):Nat):Int)/((m:Nat):Int)=((N/ab (L.drop j):Nat):Int):=by rw[Us N hm];rfl
     have er:((N/ab (L.drop (j+1)):Nat):Int)%((m:Nat):Int)=((N/ab (L.drop (j+1))%m:Nat):Int):=rfl;left;refine Cu (Yk.of 512 (by omega) (by rw[Int.natAbs_natCast];exact b2) (by decide)) ?_;rw[ed,er];intro pt hpt;have hf':=La (o:=.tup [.int ((N/ab (L.drop j):Nat):Int),.int ((N/ab (L.drop (j+1))%m:Nat):Int)]) (ba hf hpt) hf;have fr':=fr.new (o:=.tup [.int ((N/ab (L.drop j):Nat):Int),.int ((N/ab (L.drop (j+1))%m:Nat):Int)]) hpt;have ht:upd H' pt (.tup [.int ((N/ab (L.drop j):Nat):Int),.int ((N/ab (L.drop (j+1))%m:Nat):Int)]) pt=some (.tup [.int ((N/ab (L.drop j):Nat):Int),.int ((N/ab (L.drop (j+1))%m:Nat):Int)]):=da;generalize upd H' pt (.tup [.int ((N/ab (L.drop j):Nat):Int),.int ((N/ab (L.drop (j+1))%m:Nat):Int)])=HX at hf' fr' ht ⊢;left;refine Md hf' (by rw[Ha,List.length_reverse,zi,List.length_drop,sizeLine_eq];omega) ?_;left;refine⟨by omega,fr'.upd,?_,some (.int m),some (.int ((N/ab (L.drop (j+1))%m:Nat):Int)),?_⟩
     . rw[da,e1,dd,List.reverse_cons,lst_snoc]
     . rw[e1]
       rfl
   . rintro σ' H' ⟨_,fr,hf,x1,y1,rfl⟩
     rw[List.length_reverse,Ha,Nat.sub_self,List.drop_zero]at hf ⊢;have SS:Same H H':=λb o hb=>fr.get (S2 _ _ hb) (ba hb hfa);rw[Nat.div_eq_of_lt hN'];left;refine Ge (λz=>absurd rfl z) (λ_=>?_);left;refine bw hf ?_;intro pz hpz;refine q pz _ (SS.free hpz) (SS.new hpz) ?_;rw[da,<-List.map_reverse];unfold zs lstN zs;rw[<-List.map_reverse,List.reverse_reverse]
theorem Qy{Cac Cab Caa:Addr}(T:Txt K mg Cac Cab Caa)(U:Up K mg "side" Nq ["bench","on","needed"]):Dt P w K mg base:=by
 have sc:=Lx;refine Callee.of (k:=0) U sc (λvs H Q E h=>?_) (λf cdv A outer s H vs Q E hr h=>?_)
 . obtain⟨b,on,q',rfl,_⟩:=h;rfl
 . obtain⟨b,on,q',rfl,ho,q⟩:=h
   have hu:=hr.units
   conv in (qa _)=>whnf
   with_reducible refine⟨_,(ja (Oa (ua kn (pv 1) (pv 2) ‹Aa _›) (ka (xa za)) Ca) (ja (Oa (ua kn (Pa ai (pv 0) (pv 1)) (pv 2) ‹Aa _›) (ka (xa za)) Ca) (ka (xa za)))),?_⟩
   rw[show L2.start ["bench","on","needed"] [V.int b,V.int on,V.int q']=[some (V.int b),some (V.int on),some (V.int q')] from rfl];left;refine Ba (λh1=>?_) (λh1=>?_)
   . left
     rw[show Oi b on q'="friends" from if_pos (by omega)]at q;exact q
   . left
     refine Ba (λh2=>?_) (λh2=>?_)
     . left
       rw[show Oi b on q'="foes" from(if_neg (by omega)).trans (if_pos (by omega))]at q;exact q
     . left
       rw[show Oi b on q'="hung" from(if_neg (by omega)).trans (if_neg (by omega))]at q;exact q
theorem mn{Cac Cab Caa:Addr}(T:Txt K mg Cac Cab Caa)(U:Up K mg "marks_of" xg ["folk","friends"]):Og P w K mg base:=by
 have sc:=Om;refine Callee.of (k:=0) U sc (λvs H Q E h=>?_) (λf cdv A outer s H vs Q E hr h=>?_)
 . obtain⟨g,fo,fr',c,fv,rfl,_⟩:=h;rfl
 . obtain⟨g,fo,fr',c,fv,rfl,NM,hc,hfo,hfr,hfl,q⟩:=h
   have hu:=hr.units;have lrc:(List.range c).length=c:=List.length_range;have hfo':H fo=some (.lst ((List.range c).map g)):=hfo
   conv in (qa _)=>whnf
   with_reducible refine⟨_,(ka (xa (jf ["friends"] ["name"] [1] (by with_unfolding_all rfl) ‹rfl› ‹rfl› (piLK (K:=K) ‹rfl› (pv 0)) (by decide) ‹rfl› (by decide) ‹⟨rfl,trivial⟩› (by with_unfolding_all rfl) (λ_=>‹⟨cap1 rfl rfl rfl rfl,trivial⟩›) (λ_ _ _ _=>(Ga (i:=1) ‹show List.Nodup (["friends","name"]:List Str) from by decide +kernel› ‹rfl› ‹Or.inl rfl› ‹.inr rfl›)) (λ_ _ _ _=>jc) (λ_ _ _ _=>(Bb (inK (K:=K) ‹rfl›) (pv 1) (pv 0) ‹rfl›))))),?_⟩
   rw[show L2.start ["folk","friends"] [V.ref fo,V.ref fr']=[some (V.ref fo),some (V.ref fr')] from rfl];left;refine jt (a:=fo) (xs:=(List.range c).map g) [some (.ref fr')] (λi ys H'=>H'=H/\i<=c/\ys=(List.range i).map λa=>V.bl (inV (g a) fv)) rfl (by rw[List.length_map,sizeLine_eq,lrc];omega) ⟨rfl,Nat.zero_le _,rfl⟩ (λi ys H' _ h=>by obtain⟨e,_⟩:=h;subst e;exact SqL.of hfo') (λi ys H' h=>by
    obtain⟨_,_,e⟩:=h;rw[e,List.length_map,List.length_range];exact Nat.le_refl _) ?_ ?_
   . rintro i v ys z H' hv ⟨rfl,_,rfl⟩
     obtain⟨a,ha,rfl⟩:=getG hv;have hil:i<c:=by have:=(List.getElem?_eq_some_iff.mp ha).1;rw[lrc]at this;exact this
     have ea:a=i:=by rw[List.getElem?_range hil]at ha;exact(Option.some.inj ha).symm
     subst ea;left;refine r_inV (NM.flat a) hfl hfr ?_;refine⟨⟨rfl,by omega,?_⟩,_,rfl⟩;rw[List.range_succ,List.map_append];rfl
   . rintro ys H' ⟨rfl,_,rfl⟩ D hD
     rw[List.length_map,lrc];exact q D _ hD ((Same.refl H').new hD) da
theorem lh{Cac Cab Caa:Addr}(T:Txt K mg Cac Cab Caa)(U:Up K mg "friends_among" Dc ["marks","places"]):Nc P w K mg base:=by
 have sc:=Zg;refine Callee.of (k:=0) U sc (λvs H Q E h=>?_) (λf cdv A outer s H vs Q E hr h=>?_)
 . obtain⟨m,p,c,F,l,k1,k2,rfl,_⟩:=h;rfl
 . obtain⟨m,p,c,F,l,k1,k2,rfl,hm,hp,hl,h5,q⟩:=h
   have hu:=hr.units;have hm':H m=some (obB k1 ((List.range c).map λa=>V.bl (F a))):=hm;have hp':H p=some (obB k2 ((zs l).map V.int)):=hp
   conv in (qa _)=>whnf
   with_reducible refine⟨_,(ka (xa (Ea (lenK (K:=K) ‹rfl›) ‹rfl› ‹T.kAa› pb (aa (jf ["marks"] ["place"] [0] (by with_unfolding_all rfl) ‹rfl› ‹rfl› (piXK (K:=K) ‹rfl› (pv 1)) (by decide) ‹rfl› (by decide) ‹⟨rfl,trivial⟩› (by with_unfolding_all rfl) (λ_=>‹⟨cap1 rfl rfl rfl rfl,trivial⟩›) (λ_ _ _ _=>(Ga (i:=1) ‹show List.Nodup (["marks","place"]:List Str) from by decide +kernel› ‹rfl› ‹Or.inl rfl› ‹.inr rfl›)) (λ_ _ _ _=>(Yh (truK (K:=K) ‹rfl› (Ja (ixK (K:=K) ‹rfl›) (pv 0) (pv 1) ‹λ_ _=>rfl›)))) (λ_ _ _ _=>(pv 1))) ia)))),?_⟩
   rw[show L2.start ["marks","places"] [V.ref m,V.ref p]=[some (V.ref m),some (V.ref p)] from rfl];left;refine compB (b:=k2) (a:=p) (xs:=(zs l).map V.int) [some (.ref m)] (λi ys H'=>H'=H/\ys=(zs ((l.take i).filter F)).map V.int) rfl (by rw[Ha,sizeLine_eq];omega) ⟨rfl,rfl⟩ (λi ys H' _ h=>by obtain⟨e,_⟩:=h;subst e;exact SqB.of hp') (λi ys H' h=>by
    obtain⟨_,e⟩:=h;rw[e,Ha];exact Nat.le_trans (List.length_filter_le _ _) (by rw[List.length_take];omega)) ?_ ?_
   . rintro i v ys z H' hv ⟨rfl,rfl⟩
     obtain⟨a,ha,rfl⟩:=cf hv;have tn:=BR.Ka ha;have hac:=hl a (List.mem_of_getElem? ha);left;refine r_ix2B hm' (v:=.bl (F a)) (kc (by rw[List.getElem?_map,List.getElem?_range hac];rfl)) ?_;left;cases u:F a with
     | true =>
      left;refine⟨⟨rfl,?_⟩,_,rfl⟩;rw[tn,List.filter_append,show ([a].filter F)=[a] by simp[u],<-lst_snoc]
     | false =>
      left;refine⟨⟨rfl,?_⟩,_,rfl⟩;rw[tn,List.filter_append,show ([a].filter F)=[] by simp[u],List.append_nil]
   . rintro ys H' ⟨rfl,rfl⟩ D hD
     rw[Ha,List.take_length];left;rw[Ha];have eon:(l.filter F).length=BR.fr F l:=by unfold BR.fr;rw[List.countP_eq_length_filter]
     rw[eon];exact q _ ((Same.refl H').new hD)
theorem dm{Cac Cab Caa : Addr}(T : Txt K mg Cac Cab Caa)(U : Up K mg "seated_by" Cf ["marks", "seats", "who"]) : Vf P w K mg base := by
 have sc:=Ml;refine Callee.of (k:=0) U sc (λvs H Q E h=>?_) (λf cdv A outer s H vs Q E hr h=>?_)
 . obtain⟨m,c,n,F,t,k,rfl,_⟩:=h;rfl
 . obtain⟨m,c,n,F,t,k,rfl,hm,hc,hn,q⟩:=h
   have hu:=hr.units;have lrc:(List.range c).length=c:=List.length_range;have hm':H m=some (obB k ((List.range c).map λa=>V.bl (F a))):=hm
   conv in (qa _)=>whnf
   with_reducible refine⟨_,(ja (Ia (i:=3) ‹sc.nd› ‹rfl› ‹Or.inr rfl› (Bb (eqK (K:=K) ‹rfl› ‹hu›) (pv 2) za ‹Aa _›)) (ja (vw ["ours"] ["place","friend"] [3] (Ga (i:=4) ‹sc.nd› ‹rfl› ‹Or.inl rfl›) (by with_unfolding_all rfl) ‹rfl› ‹rfl› (xk ‹rfl› ‹T.kAl› (aa (pv 0) ia)) (by decide) ‹rfl› (by decide) ‹⟨rfl,trivial⟩› (by with_unfolding_all rfl) (λ_=>‹⟨cap1 rfl rfl rfl rfl,trivial⟩›) (λ_ _ _ _=>(xi (K:=K) (n:=2) ‹rfl› ‹rfl› (Qa (Ga (i:=1) ‹show List.Nodup (["ours","place","friend"]:List Str) from by decide +kernel› ‹rfl› ‹Or.inl rfl› ‹.inr rfl›) (Qa (Ga (i:=2) ‹show List.Nodup (["ours","place","friend"]:List Str) from by decide +kernel› ‹rfl› ‹Or.inl rfl› ‹.inr rfl›) Kc)))) (λ_ _ _ _=>(Yh (ua (eqK (K:=K) ‹rfl› ‹hu›) (pv 2) (pv 0) ‹Aa _›))) (λ_ _ _ _=>(pv 1))) (ja (vw ["ours"] ["place","friend"] [3] (Ga (i:=5) ‹sc.nd› ‹rfl› ‹Or.inl rfl›) (by with_unfolding_all rfl) ‹rfl› ‹rfl› (xk ‹rfl› ‹T.kAl› (aa (pv 0) ia)) (by decide) ‹rfl› (by decide) ‹⟨rfl,trivial⟩› (by with_unfolding_all rfl) (λ_=>‹⟨cap1 rfl rfl rfl rfl,trivial⟩›) (λ_ _ _ _=>(xi (K:=K) (n:=2) ‹rfl› ‹rfl› (Qa (Ga (i:=1) ‹show List.Nodup (["ours","place","friend"]:List Str) from by decide +kernel› ‹rfl› ‹Or.inl rfl› ‹.inr rfl›) (Qa (Ga (i:=2) ‹show List.Nodup (["ours","place","friend"]:List Str) from by decide +kernel› ‹rfl› ‹Or.inl rfl› ‹.inr rfl›) Kc)))) (λ_ _ _ _=>(Yh (ua (neK (K:=K) ‹rfl› ‹hu›) (pv 2) (pv 0) ‹Aa _›))) (λ_ _ _ _=>(pv 1))) (ka (xa (Ea (sortedK (K:=K) ‹rfl›) ‹rfl› ‹T.kAz› Fi (aa (Ze (slK (K:=K) ‹rfl›) (Pa (addK (K:=K) ‹rfl›) (pv 4) (pv 5)) Bg (Ag (pv 1))) ia))))))),?_⟩
   rw[show L2.start ["marks","seats","who","ours","own","others"] [V.ref m,V.int n,V.str (if t then "friends" else "foes")]=[some (V.ref m),some (V.int n),some (V.str (if t then "friends" else "foes")),none,none,none] from rfl];left;rw[show decide ((if t=true then PySem.Str.ofString "friends" else PySem.Str.ofString "foes")=PySem.Str.ofString "friends")=t by cases t<;>decide +kernel];refine Mw (k:=k) (a:=m) (xs:=(List.range c).map λa=>V.bl (F a)) [some (.bl t)] (λi ys H'=>Same H H'/\i<=c/\ys=(zs ((List.range i).filter λa=>F a==t)).map V.int) rfl (by rw[List.length_map,sizeLine_eq,lrc];omega) ⟨Same.refl H,Nat.zero_le _,rfl⟩ (λi ys H' _ h=>h.1 _ _ hm') (λi ys H' h=>by
    obtain⟨_,_,e⟩:=h;rw[e,Ha];exact Nat.le_trans (List.length_filter_le _ _) (by rw[List.length_range];exact Nat.le_refl _)) ?_ ?_
   . rintro i x ys z1 z2 H' T0 hx ⟨s,hi,rfl⟩ hT
     obtain⟨a,ha,rfl⟩:=getG hx;have hil:i<c:=by have:=(List.getElem?_eq_some_iff.mp ha).1;rw[lrc]at this;exact this
     have ea:a=i:=by rw[List.getElem?_range hil]at ha;exact(Option.some.inj ha).symm
     subst ea;left;cases u:(F a==t) with
     | true =>
      left;refine⟨⟨s.new hT,by omega,?_⟩,_,_,rfl⟩;rw[List.range_succ,List.filter_append,List.filter_cons_of_pos (by exact u),List.filter_nil,<-lst_snoc]
     | false =>
      left;refine⟨⟨s.new hT,by omega,?_⟩,_,_,rfl⟩;rw[List.range_succ,List.filter_append,List.filter_cons_of_neg (by rw[u];decide),List.filter_nil,List.append_nil]
   . rintro ys H1 ⟨s1,_,rfl⟩ D1 hD1
     rw[List.length_map,lrc];have t1:=s1.new (o:=.lst ((zs ((List.range c).filter λa=>F a==t)).map V.int)) hD1;have w1:upd H1 D1 (.lst ((zs ((List.range c).filter λa=>F a==t)).map V.int)) D1=some (.lst ((zs ((List.range c).filter λa=>F a==t)).map V.int)):=da;generalize upd H1 D1 (.lst ((zs ((List.range c).filter λa=>F a==t)).map V.int))=H2 at t1 w1 ⊢;left;refine Mw (k:=k) (a:=m) (xs:=(List.range c).map λa=>V.bl (F a)) [some (.bl t)] (λi ys H'=>Same H2 H'/\i<=c/\ys=(zs ((List.range i).filter λa=> !(F a==t))).map V.int) rfl (by rw[List.length_map,sizeLine_eq,lrc];omega) ⟨Same.refl H2,Nat.zero_le _,rfl⟩ (λi ys H' _ h=>(t1.tr h.1) _ _ hm') (λi ys H' h=>by
      obtain⟨_,_,e⟩:=h;rw[e,Ha];exact Nat.le_trans (List.length_filter_le _ _) (by rw[List.length_range];exact Nat.le_refl _)) ?_ ?_
     . rintro i x ys z1 z2 H' T0 hx ⟨s,hi,rfl⟩ hT
       obtain⟨a,ha,rfl⟩:=getG hx;have hil:i<c:=by have:=(List.getElem?_eq_some_iff.mp ha).1;rw[lrc]at this;exact this
       have ea:a=i:=by rw[List.getElem?_range hil]at ha;exact(Option.some.inj ha).symm
       subst ea;left;rw[show (F a !=t)= !(F a==t) from rfl];cases u:(F a==t) with
       | true =>
        left;refine⟨⟨s.new hT,by omega,?_⟩,_,_,rfl⟩;rw[List.range_succ,List.filter_append,List.filter_cons_of_neg (by rw[u];decide),List.filter_nil,List.append_nil]
       | false =>
        left;refine⟨⟨s.new hT,by omega,?_⟩,_,_,rfl⟩;rw[List.range_succ,List.filter_append,List.filter_cons_of_pos (by rw[u];decide),List.filter_nil,<-lst_snoc]
     . rintro ys H3 ⟨s3,_,rfl⟩ D2 hD2
       rw[List.length_map,lrc];have t3:=(t1.tr s3).new (o:=.lst ((zs ((List.range c).filter λa=> !(F a==t))).map V.int)) hD2;have w2:upd H3 D2 (.lst ((zs ((List.range c).filter λa=> !(F a==t))).map V.int)) D2=some (.lst ((zs ((List.range c).filter λa=> !(F a==t))).map V.int)):=da;have w12:=La (o:=.lst ((zs ((List.range c).filter λa=> !(F a==t))).map V.int)) (ba (s3 _ _ w1) hD2) (s3 _ _ w1);generalize upd H3 D2 (.lst ((zs ((List.range c).filter λa=> !(F a==t))).map V.int))=H4 at t3 w2 w12 ⊢;have g1:=List.length_filter_le (λa=>F a==t) (List.range c);have g2:=List.length_filter_le (λa=> !(F a==t)) (List.range c);left;refine Vh w12 w2 (by rw[Ha,Ha,sizeLine_eq];omega) ?_;intro D3 hD3;rw[show (zs ((List.range c).filter λa=>F a==t)).map V.int++(zs ((List.range c).filter λa=> !(F a==t))).map V.int=(zs (((List.range c).filter λa=>F a==t)++((List.range c).filter λa=> !(F a==t)))).map V.int by unfold zs;rw[List.map_append,List.map_append]];have t4:=t3.new (o:=.lst ((zs (((List.range c).filter λa=>F a==t)++((List.range c).filter λa=> !(F a==t)))).map V.int)) hD3;have w4:upd H4 D3 (.lst ((zs (((List.range c).filter λa=>F a==t)++((List.range c).filter λa=> !(F a==t)))).map V.int)) D3=some (.lst ((zs (((List.range c).filter λa=>F a==t)++((List.range c).filter λa=> !(F a==t)))).map V.int)):=da;generalize upd H4 D3 (.lst ((zs (((List.range c).filter λa=>F a==t)++((List.range c).filter λa=> !(F a==t)))).map V.int))=H5 at t4 w4 ⊢;left;refine Uh w4 ?_;intro D4 hD4;rw[cut_to,show ((zs (((List.range c).filter λa=>F a==t)++((List.range c).filter λa=> !(F a==t)))).map V.int).take n=(zs ((((List.range c).filter λa=>F a==t)++((List.range c).filter λa=> !(F a==t))).take n)).map V.int by unfold zs;rw[List.map_take,List.map_take]];left;refine tu (ns:=zs ((((List.range c).filter λa=>F a==t)++((List.range c).filter λa=> !(F a==t))).take n)) da (by rw[Vv,List.length_take];omega) ?_;intro D5 ms hD5 pm pw;have e:=Nm pm pw;subst e;have t5:=t4.new (o:=.lst ((zs ((((List.range c).filter λa=>F a==t)++((List.range c).filter λa=> !(F a==t))).take n)).map V.int)) hD4;exact q D5 _ (t5.free hD5) (t5.new hD5) da
theorem mh{Cac Cab Caa : Addr}(T : Txt K mg Cac Cab Caa)(U : Up K mg "bench_undrawn" Ec ["marks", "bench", "step"])(Caz : Dt P w K mg base)(Ca1 : Nc P w K mg base)(Cay : Vf P w K mg base) : bc P w K mg base := by
 have sc:=ah;refine Callee.of (k:=1) U sc (λvs H Q E h=>?_) (λf cdv A outer s H vs Q E hr h=>?_)
 . obtain⟨m,b,p,c,F,l,r,k1,k2,rfl,_⟩:=h;rfl
 . obtain⟨m,b,p,c,F,l,r,k1,k2,rfl,B,q1,q2⟩:=h
   have hu:=hr.units;have hb':H b=some (obB k2 ((zs l).map V.int)):=B.bn;have cc:=B.cc;have ll:=B.ll;have frl:=BR.fr_le F l;cases r with
   | lot n =>
    have hp':H p=some (.tup [.str "lot",.int n]):=B.st
    conv in (qa _)=>whnf
    with_reducible refine⟨_,(ja (Oa (ua (eqK (K:=K) ‹rfl› ‹hu›) (Ja (ixK (K:=K) ‹rfl›) (pv 2) oa ‹λ_ _=>rfl›) za ‹Aa _›) (ka (xa Ug)) Ca) (ja (Ia (i:=3) ‹sc.nd› ‹rfl› ‹Or.inl rfl› (pe_c ‹Caz› ‹hr.mono (by decide)› ‹rfl› (aa (Ea (lenK (K:=K) ‹rfl›) ‹rfl› ‹T.kAa› pb (aa (pv 1) ia)) (aa (pe_c ‹Ca1› ‹hr.mono (by decide)› ‹rfl› (aa (pv 0) (aa (pv 1) ia))) (aa (Ja (ixK (K:=K) ‹rfl›) (pv 2) oa ‹λ_ _=>rfl›) ia))))) (ja (Oa (ua (neK (K:=K) ‹rfl› ‹hu›) (pv 3) za ‹Aa _›) (ka (xa (pe_c ‹Cay› ‹hr.mono (by decide)› ‹rfl› (aa (pv 0) (aa (Ja (ixK (K:=K) ‹rfl›) (pv 2) oa ‹λ_ _=>rfl›) (aa (pv 3) ia)))))) Ca) (ja (Oa (ua (eqK (K:=K) ‹rfl› ‹hu›) (Ja (ixK (K:=K) ‹rfl›) (pv 2) oa ‹λ_ _=>rfl›) za ‹Aa _›) (ka (xa (Ua (Hn (K:=K) ‹rfl›) ‹rfl› ‹T.kAd› Pe (aa (pv 1) ia)))) Ca) (ka (xa Ug)))))),?_⟩
    rw[show L2.start ["marks","bench","step","who"] [V.ref m,V.ref b,V.ref p]=[some (V.ref m),some (V.ref b),some (V.ref p),none] from rfl];left;refine Ba (λ_=>?_) (λz=>absurd rfl z);left;exact q1 rfl _ (Same.refl H)
   | vote n q w =>
    have hp':H p=some (.tup [.str "vote",.int n,.int q,.str (wdS w)]):=B.st;obtain⟨f1,f2,f3,f4,f5,f6,f7⟩:=B.ft
    conv in (qa _)=>whnf
    with_reducible refine⟨_,(ja (Oa (ua (eqK (K:=K) ‹rfl› ‹hu›) (Ja (ixK (K:=K) ‹rfl›) (pv 2) oa ‹λ_ _=>rfl›) za ‹Aa _›) (ka (xa Ug)) Ca) (ja (Ia (i:=3) ‹sc.nd› ‹rfl› ‹Or.inl rfl› (pe_c ‹Caz› ‹hr.mono (by decide)› ‹rfl› (aa (Ea (lenK (K:=K) ‹rfl›) ‹rfl› ‹T.kAa› pb (aa (pv 1) ia)) (aa (pe_c ‹Ca1› ‹hr.mono (by decide)› ‹rfl› (aa (pv 0) (aa (pv 1) ia))) (aa (Ja (ixK (K:=K) ‹rfl›) (pv 2) oa ‹λ_ _=>rfl›) ia))))) (ja (Oa (ua (neK (K:=K) ‹rfl› ‹hu›) (pv 3) za ‹Aa _›) (ka (xa (pe_c ‹Cay› ‹hr.mono (by decide)› ‹rfl› (aa (pv 0) (aa (Ja (ixK (K:=K) ‹rfl›) (pv 2) oa ‹λ_ _=>rfl›) (aa (pv 3) ia)))))) Ca) (ja (Oa (ua (eqK (K:=K) ‹rfl› ‹hu›) (Ja (ixK (K:=K) ‹rfl›) (pv 2) oa ‹λ_ _=>rfl›) za ‹Aa _›) (ka (xa (Ua (Hn (K:=K) ‹rfl›) ‹rfl› ‹T.kAd› Pe (aa (pv 1) ia)))) Ca) (ka (xa Ug)))))),?_⟩
    rw[show L2.start ["marks","bench","step","who"] [V.ref m,V.ref b,V.ref p]=[some (V.ref m),some (V.ref b),some (V.ref p),none] from rfl];left;refine Ba (λz=>absurd z (by decide)) (λ_=>?_);left;refine jw hb' ?_;left;rw[Ha];refine⟨_,_,_,_,_,_,_,rfl,B.ma,B.bn,B.lt,(by omega),λH1 s1=>?_⟩;have hp1:=s1 _ _ hp';have hb1:=s1 _ _ hb';left;refine⟨_,_,_,rfl,frl,?_⟩;left;by_cases hA:q<=BR.fr F l
    . have e:Oi l.length (BR.fr F l) q=(if true=true then PySem.Str.ofString "friends" else PySem.Str.ofString "foes"):=by unfold Oi;rw[if_pos hA];rfl
      rw[e];refine Ge (λ_=>?_) (λz=>absurd z (by decide));left;refine Fh (t:=true) (s1 _ _ B.ma) cc f2 λz H2 hz s2 h2=>?_;exact q2 _ (if_pos hA) z H2 (s1.free hz) (s1.tr s2) h2
    . by_cases hB:q<=l.length-BR.fr F l
      . have e:Oi l.length (BR.fr F l) q=(if false=true then PySem.Str.ofString "friends" else PySem.Str.ofString "foes"):=by unfold Oi;rw[if_neg hA,if_pos hB];rfl
        rw[e];refine Ge (λ_=>?_) (λz=>absurd z (by decide));left;refine Fh (t:=false) (s1 _ _ B.ma) cc f2 λz H2 hz s2 h2=>?_;exact q2 _ ((if_neg hA).trans (if_pos hB)) z H2 (s1.free hz) (s1.tr s2) h2
      . have e:Oi l.length (BR.fr F l) q=PySem.Str.ofString "hung":=by unfold Oi;rw[if_neg hA,if_neg hB]
        rw[e];refine Ge (λz=>absurd rfl z) (λ_=>?_);left;cases w with
        | stay =>
         refine Ba (λ_=>?_) (λz=>absurd rfl z);left;refine qk (xs:=(zs l).map V.int) hb1 ?_;intro z hz;exact q2 l ((if_neg hA).trans ((if_neg hB).trans (if_pos rfl))) z _ (s1.free hz) (s1.new hz) da
        | council =>
         refine Ba (λz=>absurd z (by decide)) (λ_=>?_);left;exact q1 ((if_neg hA).trans ((if_neg hB).trans (if_neg (by decide)))) _ s1
        | bench =>
         refine Ba (λz=>absurd z (by decide)) (λ_=>?_);left;exact q1 ((if_neg hA).trans ((if_neg hB).trans (if_neg (by decide)))) _ s1
theorem ei{Cac Cab Caa:Addr}(T:Txt K mg Cac Cab Caa)(U:Up K mg "drawn_out_of" Uc ["marks","bench","step"]):qc P w K mg base:=by
 have sc:=Hh;refine Callee.of (k:=0) U sc (λvs H Q E h=>?_) (λf cdv A outer s H vs Q E hr h=>?_)
 . obtain⟨m,b,p,c,F,l,r,k1,k2,rfl,_⟩:=h;rfl
 . obtain⟨m,b,p,c,F,l,r,k1,k2,rfl,B,q⟩:=h
   have hu:=hr.units;have hb':H b=some (obB k2 ((zs l).map V.int)):=B.bn;have hm':H m=some (obB k1 ((List.range c).map λa=>V.bl (F a))):=B.ma;have cc:=B.cc;cases r with
   | lot n =>
    have hp':H p=some (.tup [.str "lot",.int n]):=B.st
    conv in (qa _)=>whnf
    with_reducible refine⟨_,(ja (Oa (PW.pt (Xh (ua (eqK (K:=K) ‹rfl› ‹hu›) (Ja (ixK (K:=K) ‹rfl›) (pv 2) oa ‹λ_ _=>rfl›) za ‹Aa _›) (Kf (ua (eqK (K:=K) ‹rfl› ‹hu›) (Ja (ixK (K:=K) ‹rfl›) (pv 2) oa ‹λ_ _=>rfl›) za ‹Aa _›)))) (ka (xa (Ie ‹rfl› ‹rfl› ‹T.kAd› ‹rfl› ‹T.kAb› (aa (Ea (lenK (K:=K) ‹rfl›) ‹rfl› ‹T.kAa› pb (aa (pv 0) ia)) ia)))) Ca) (ka (xa (Ua (Hn (K:=K) ‹rfl›) ‹rfl› ‹T.kAd› Pe (aa (pv 1) ia))))),?_⟩
    rw[show L2.start ["marks","bench","step"] [V.ref m,V.ref b,V.ref p]=[some (V.ref m),some (V.ref b),some (V.ref p)] from rfl];left;refine Ba (λz=>absurd z (by decide)) (λ_=>?_);left;refine qk (xs:=(zs l).map V.int) hb' ?_;intro z hz;exact q z _ hz ((Same.refl H).new hz) da
   | vote n q2 w =>
    have hp':H p=some (.tup [.str "vote",.int n,.int q2,.str (wdS w)]):=B.st
    conv in (qa _)=>whnf
    with_reducible refine⟨_,(ja (Oa (PW.pt (Xh (ua (eqK (K:=K) ‹rfl› ‹hu›) (Ja (ixK (K:=K) ‹rfl›) (pv 2) oa ‹λ_ _=>rfl›) za ‹Aa _›) (Kf (ua (eqK (K:=K) ‹rfl› ‹hu›) (Ja (ixK (K:=K) ‹rfl›) (pv 2) oa ‹λ_ _=>rfl›) za ‹Aa _›)))) (ka (xa (Ie ‹rfl› ‹rfl› ‹T.kAd› ‹rfl› ‹T.kAb› (aa (Ea (lenK (K:=K) ‹rfl›) ‹rfl› ‹T.kAa› pb (aa (pv 0) ia)) ia)))) Ca) (ka (xa (Ua (Hn (K:=K) ‹rfl›) ‹rfl› ‹T.kAd› Pe (aa (pv 1) ia))))),?_⟩
    rw[show L2.start ["marks","bench","step"] [V.ref m,V.ref b,V.ref p]=[some (V.ref m),some (V.ref b),some (V.ref p)] from rfl];left;refine Ba (λ_=>?_) (λz=>absurd rfl z);left;cases w with
    | council =>
     refine Ba (λ_=>?_) (λz=>absurd rfl z);left;refine r_LR ?_;left;refine jw hm' ?_;left;rw[List.length_map,List.length_range];refine⟨c,rfl,by omega,λz hz=>?_⟩;exact q z _ hz ((Same.refl H).new hz) da
    | bench =>
     refine Ba (λz=>absurd z (by decide)) (λ_=>?_);left;refine qk (xs:=(zs l).map V.int) hb' ?_;intro z hz;exact q z _ hz ((Same.refl H).new hz) da
    | stay =>
     refine Ba (λz=>absurd z (by decide)) (λ_=>?_);left;refine qk (xs:=(zs l).map V.int) hb' ?_;intro z hz;exact q z _ hz ((Same.refl H).new hz) da
theorem fi{Cac Cab Caa:Addr}(T:Txt K mg Cac Cab Caa)(U:Up K mg "bench_behind" Vc ["marks","bench","step","own"])(Cb6:Et P w K mg base)(Cap:bc P w K mg base)(Cao:qc P w K mg base):sd P w K mg base:=by
 have sc:=Ih;refine Callee.of (k:=2) U sc (λvs H Q E h=>?_) (λf cdv A outer s H vs Q E hr h=>?_)
 . obtain⟨m,b,p,c,F,l,r,x,rfl,_⟩:=h;rfl
 . obtain⟨m,b,p,c,F,l,r,x,rfl,B,hx,q⟩:=h
   have hu:=hr.units;have cc:=B.cc;have ll:=B.ll;have fp:=B.ft.pos
   conv in (qa _)=>whnf
   with_reducible refine⟨_,(ja (Ia (i:=4) ‹sc.nd› ‹rfl› ‹Or.inl rfl› (pe_c ‹Cap› ‹hr.mono (by decide)› ‹rfl› (aa (pv 0) (aa (pv 1) (aa (pv 2) ia))))) (ja (Oa (ua Qu (pv 4) Ug ‹Aa _›) (ka (xa (pv 4))) Ca) (ja (Ia (i:=5) ‹sc.nd› ‹rfl› ‹Or.inr rfl› (pe_c ‹Cao› ‹hr.mono (by decide)› ‹rfl› (aa (pv 0) (aa (pv 1) (aa (pv 2) ia))))) (ka (xa (jf ["pool"] ["place"] [5] (by with_unfolding_all rfl) ‹rfl› ‹rfl› (piTK (K:=K) ‹rfl› (pe_c ‹Cb6› ‹hr.mono (by decide)› ‹rfl› (aa (Ea (lenK (K:=K) ‹rfl›) ‹rfl› ‹T.kAa› pb (aa (pv 5) ia)) (aa (Ja (ixK (K:=K) ‹rfl›) (pv 2) oa ‹λ_ _=>rfl›) (aa (pv 3) ia))))) (by decide) ‹rfl› (by decide) ‹⟨rfl,trivial⟩› (by with_unfolding_all rfl) (λ_=>‹⟨cap1 rfl rfl rfl rfl,trivial⟩›) (λ_ _ _ _=>(Ga (i:=1) ‹show List.Nodup (["pool","place"]:List Str) from by decide +kernel› ‹rfl› ‹Or.inl rfl› ‹.inr rfl›)) (λ_ _ _ _=>jc) (λ_ _ _ _=>(Ja (ixK (K:=K) ‹rfl›) (pv 0) (pv 1) ‹λ_ _=>rfl›)))))))),?_⟩
   rw[show L2.start ["marks","bench","step","own","found","pool"] [V.ref m,V.ref b,V.ref p,V.int x]=[some (V.ref m),some (V.ref b),some (V.ref p),some (V.int x),none,none] from rfl];left;refine Qt B (λhn H1 s1=>?_) (λz hz pz H1 hpz s1 h1=>?_)
   . left
     obtain⟨ep,ed⟩:=Wm (x:=x) hn;refine wq (B.same s1) λpo H2 hpo s2 h2=>?_;have h2':H2 po=some (.lst ((zs (pool c l r)).map V.int)):=h2;have pol:=Hu ll r;obtain⟨xs,e1,e2⟩:=rn_n r;have hst:H2 p=some (.tup xs):=by rw[<-e1];exact(s1.tr s2) _ _ B.st
     left;rw[Ha];refine uf hst e2 ?_;left;rw[ed]at hx;refine⟨_,_,_,rfl,(by omega),hx,λpt H3 hpt s3 h3=>?_⟩;rw[Iu]at h3;have h3':H3 pt=some (.tup ((zs (pkL (List.range (pool c l r).length) r.n x)).map V.int)):=h3;have hpl3:=s3 _ _ h2';have nle:r.n<=(pool c l r).length:=by
      rcases Nat.lt_or_ge (pool c l r).length r.n with y|y
      . have:=MB.Vk y;omega
      . exact y
     have hbd:∀a∈pkL (List.range (pool c l r).length) r.n x,a<(pool c l r).length:=λa ha=>List.mem_range.mp ((He _ _ _).subset ha);have pln:=Dg (List.range (pool c l r).length) r.n x (by rw[List.length_range];exact nle) (by rw[List.length_range];exact hx);refine uz (a:=pt) (xs:=(zs (pkL (List.range (pool c l r).length) r.n x)).map V.int) [some (.ref po)] (λi ys H'=>H'=H3/\ys=(zs (((pkL (List.range (pool c l r).length) r.n x).take i).map λi=>(pool c l r).getD i 0)).map V.int) rfl (by rw[Ha,sizeLine_eq];omega) ⟨rfl,rfl⟩ (λi ys H' _ h=>by obtain⟨e,_⟩:=h;subst e;exact SqT.of h3') (λi ys H' h=>by
      obtain⟨_,e⟩:=h;rw[e,Ha,List.length_map,List.length_take];omega) ?_ ?_
     . rintro i v ys z H9 hv ⟨rfl,rfl⟩
       obtain⟨a,ha,rfl⟩:=cf hv;have tn:=BR.Ka ha;have hal:=hbd a (List.mem_of_getElem? ha);obtain⟨y,hy⟩:∃y,(pool c l r)[a]?=some y:=⟨_,List.getElem?_eq_getElem hal⟩
       left;refine gc (xs:=(zs (pool c l r)).map V.int) hpl3 (Ov hy) ?_;refine⟨⟨rfl,?_⟩,_,rfl⟩;rw[tn,List.map_append,lst_snoc];rw[show [a].map (λi=>(pool c l r).getD i 0)=[y] by show [(pool c l r).getD a 0]=[y];rw[getD_some hy]]
     . rintro ys H9 ⟨rfl,rfl⟩ D6 hD6
       rw[Ha,List.take_length,Ju];have S:=s1.tr (s2.tr s3);refine q D6 _ (S.free hD6) (S.new hD6) ?_;rw[da,ep];rfl
   . left
     refine q pz H1 hpz s1 ?_;rw[sr hz];exact h1
theorem Mp{Cac Cab Caa : Addr}(T : Txt K mg Cac Cab Caa)(U : Up K mg "benches" Sh ["folk", "friends", "row", "number"])(Cax : Rc P w K mg base)(Cba : Zk P w K mg base)(Cbb : Og P w K mg base)(Cbd : sd P w K mg base) : sg P w K mg base := by
 have sc:=Cp;refine Callee.of (k:=6) U sc (λvs H Q E h=>?_) (λf cdv A outer s H vs Q E hr h=>?_)
 . obtain⟨g,fo,fr',a,c,fv,ps,rs,N,rfl,_⟩:=h;rfl
 . obtain ⟨g, fo, fr', a, c, fv, ps, rs, N, rfl, NM, hfo, hfr, hfl, R, hw, hN, q⟩ := h
   have hu:=hr.units;obtain⟨F0,eF⟩:∃F:Nat->Bool,(λa=>inV (g a) fv)=F:=⟨_,rfl⟩
   rw[eF]at q;have c1:=R.c1;have c2:=R.c2;have ln:=R.ln;have rl:=R.rw.ln;have lrc:(List.range c).length=c:=List.length_range;have rlt:∀a∈List.range c,a<c:=λa h=>List.mem_range.mp h;have hfo':H fo=some (.lst ((List.range c).map g)):=hfo
   conv in (qa _)=>whnf
   with_reducible refine⟨_,(ja (Ta (pe_c ‹Cax› ‹hr.mono (by decide)› ‹rfl› (aa (Ea (lenK (K:=K) ‹rfl›) ‹rfl› ‹T.kAa› pb (aa (pv 0) ia)) (aa (pv 2) ia)))) (ja (Ia (i:=4) ‹sc.nd› ‹rfl› ‹Or.inl rfl› (pe_c ‹Cbb› ‹hr.mono (by decide)› ‹rfl› (aa (pv 0) (aa (pv 1) ia)))) (ja (Ia (i:=5) ‹sc.nd› ‹rfl› ‹Or.inl rfl› (Ie ‹rfl› ‹rfl› ‹T.kAd› ‹rfl› ‹T.kAb› (aa (Ea (lenK (K:=K) ‹rfl›) ‹rfl› ‹T.kAa› pb (aa (pv 0) ia)) ia))) (ja (Ia (i:=6) ‹sc.nd› ‹rfl› ‹Or.inl rfl› (Hb ia)) (ja (zd PassesOwn.never ‹rfl› (Bw ‹rfl› ‹T.kA1› (aa (pv 2) (aa (pe_c ‹Cba› ‹hr.mono (by decide)› ‹rfl› (aa (Ea (lenK (K:=K) ‹rfl›) ‹rfl› ‹T.kAa› pb (aa (pv 0) ia)) (aa (pv 2) (aa (pv 3) ia)))) ia))) (xi (K:=K) (n:=2) ‹rfl› ‹rfl› (Qa (Ga (i:=7) ‹sc.nd› ‹rfl› ‹Or.inl rfl›) (Qa (Ga (i:=8) ‹sc.nd› ‹rfl› ‹Or.inl rfl›) Kc))) (ja (Ia (i:=5) ‹sc.nd› ‹rfl› ‹Or.inl rfl› (pe_c ‹Cbd› ‹hr.mono (by decide)› ‹rfl› (aa (pv 4) (aa (pv 5) (aa (pv 7) (aa (pv 8) ia)))))) (ka (Ta (Zm ‹PySem.F.plainAttrs_list› ‹PySem.F.slot_list_append› ‹PySem.F.type_list_append› ‹Bd› (pv 6) (aa (jf ["folk"] ["place"] [0] (by with_unfolding_all rfl) ‹rfl› ‹rfl› (piLK (K:=K) ‹rfl› (pv 5)) (by decide) ‹rfl› (by decide) ‹⟨rfl,trivial⟩› (by with_unfolding_all rfl) (λ_=>‹⟨cap1 rfl rfl rfl rfl,trivial⟩›) (λ_ _ _ _=>(Ga (i:=1) ‹show List.Nodup (["folk","place"]:List Str) from by decide +kernel› ‹rfl› ‹Or.inl rfl› ‹.inr rfl›)) (λ_ _ _ _=>jc) (λ_ _ _ _=>(Ja (ixK (K:=K) ‹rfl›) (pv 0) (pv 1) ‹λ_ _=>rfl›))) ia)))))) (ka (xa (pv 6)))))))),?_⟩
   rw[show L2.start ["folk","friends","row","number","marks","bench","found","step","own"] [V.ref fo,V.ref fr',V.ref a,V.int N]=[some (V.ref fo),some (V.ref fr'),some (V.ref a),some (V.int N),none,none,none,none,none] from rfl];left;rw[List.length_map,lrc];refine Zo R hw λH1 s1=>?_;left;refine⟨_,_,_,_,_,rfl,NM,(by omega),(s1 _ _ hfo),(s1 _ _ hfr),hfl,λm H2 hm s2 h2=>?_⟩;rw[eF]at h2;have S2:=s1.tr s2;have hfo2:=S2 _ _ hfo';left;refine r_LR ?_;left;rw[List.length_map,lrc];refine⟨c,rfl,by omega,λb0 hb0=>?_⟩;rw[Sw];have s3:=(Same.refl H2).new (o:=.lst ((zs (List.range c)).map V.int)) hb0;have w3:upd H2 b0 (.lst ((zs (List.range c)).map V.int)) b0=some (lstN (List.range c)):=da;generalize upd H2 b0 (.lst ((zs (List.range c)).map V.int))=H3 at s3 w3 ⊢;left;intro fa hfa;have S3:=S2.tr s3;have nf:H fa=none:=S3.free hfa;have s4:=(Same.refl H3).new (o:=.lst []) hfa;have w4:upd H3 fa (.lst []) fa=some (.lst []):=da;generalize upd H3 fa (.lst [])=H4 at s4 w4 ⊢;have S4:=S3.tr s4;have h24:=(s3.tr s4) _ _ h2;have w34:=s4 _ _ w3;have nbf:b0≠fa:=ba w3 hfa;have nmf:m≠fa:=ba (s3 _ _ h2) hfa;have hfo4:=S4 _ _ hfo';left;rw[List.length_map,lrc];refine⟨_,_,_,_,_,rfl,(R.same S4),hN,λpn H5 hpn s5 h5=>?_⟩;have S5:=S4.tr s5;have w45:=s5 _ _ w4;have h25:=s5 _ _ h24;have w35:=s5 _ _ w34;have npf:pn≠fa:=λz=>by rw[z,w4]at hpn;cases hpn
   have dl:=Mg c rs c;have gl:=zi (drs c c rs) N;left;refine forZ (a1:=a) (a2:=pn) (xs:=ps.map V.ref) (ys:=(zs (lj (drs c c rs) N)).map V.int) (λi σ' H'=>∃(bb:Addr) (qs:List Addr) (o1 o2:Option V),i<=rs.length/\Fr1 fa H5 H'/\TsAt (lstG g) H' fa qs ((plA c F0 (List.range c) rs N).take i)/\(∀z∈qs,H z=none/\z≠fa)/\qs.Nodup/\bb≠fa/\H' bb=some (lstN (plB c F0 (List.range c) rs N i))/\σ'=[some (.ref fo),some (.ref fr'),some (.ref a),some (.int N),some (.ref m),some (.ref bb),some (.ref fa),o1,o2]) ⟨b0,[],none,none,Nat.zero_le _,Fr1.refl _ _,⟨w45,λi p z=>by simp at z,rfl⟩,λz hz=>by simp at hz,List.nodup_nil,nbf,w35,rfl⟩ (λi σ' H' _ _ h=>by
    obtain⟨_,_,_,_,_,fr,_⟩:=h;exact⟨fr.get (S5 _ _ R.rw.ls) (ba R.rw.ls nf),fr.get h5 npf⟩) ?_ ?_
   . rintro i x y σ' H' T0 hx hy ⟨bb, qs, o1, o2, _, fr, FF, hq, nd, nbb, hbb, rfl⟩ hT
     obtain⟨p,r0,rfl,hpi,hr0,ho⟩:=R.rw.get hx;obtain⟨xd,hdg,rfl⟩:=cf hy;have hi':i<rs.length:=(List.getElem?_eq_some_iff.mp hr0).1;obtain⟨nx,nl⟩:=uk (F:=F0) (N:=N) (i:=i) lrc R.ft (Nat.le_refl _) hr0;have fit:=R.ft.at hr0;have lb:=Yb (R.ft.take i) c1 (Nat.le_refl _);obtain⟨mm,hm'⟩:∃m,(drs c c rs)[i]?=some m:=⟨(drs c c rs)[i]'(by omega),by simp⟩
     have em:mm=dr c (Ya c (rs.take i)) r0:=Ts hr0 hm';have hdig:=wm (n:=N) hm';rw[hdg]at hdig;have exd:=Option.some.inj hdig;have m0:=Dj lb.2 fit;have hxm:xd<mm:=by rw[exd];exact Nat.mod_lt _ (by rw[em];exact m0)
     rw[<-em,<-exd]at nx;rw[<-nl]at fit em;have hBl:∀a∈plB c F0 (List.range c) rs N i,a<c:=plB_lt rlt;generalize hB:plB c F0 (List.range c) rs N i=B at *;have nsafe:∀(b:Addr) (o:HO),H b=some o->H' b=some o:=λb o hb=>fr.get (S5 _ _ hb) (ba hb nf);have sT:=(Same.refl H').new (o:=.tup [.ref p,.int (xd:Int)]) hT;have hTT:upd H' T0 (.tup [.ref p,.int (xd:Int)]) T0=some (.tup [.ref p,.int (xd:Int)]):=da;generalize upd H' T0 (.tup [.ref p,.int (xd:Int)])=HX at sT hTT ⊢;have BMX:BM HX m bb p c F0 B r0:=⟨sT _ _ (fr.get h25 nmf),sT _ _ hbb,sT _ _ (nsafe _ _ ho),hBl,by omega,by omega,fit⟩
     left;refine⟨_,_,_,_,_,_,_,_,rfl,BMX,(by rw[<-em];exact hxm),λpz HY hpz sY hY=>?_⟩;have tY:=sT.tr sY;have hY':HY pz=some (.lst ((zs (pl c F0 B r0 xd)).map V.int)):=hY;have pll:=Xl (F:=F0) (x:=xd) fit (by rw[<-em];exact hxm);have plt:∀a∈pl c F0 B r0 xd,a<c:=λa ha=>Dy hBl a ha;have npos:=fit.pos;have hfoY:=tY _ _ (nsafe _ _ hfo');have hfaY:=tY _ _ FF.ls;have nzf:pz≠fa:=λz=>by rw[z]at hpz;have:=sT _ _ FF.ls;rw[hpz]at this;cases this
     left;refine jt (a:=pz) (xs:=(zs (pl c F0 B r0 xd)).map V.int) [some (.ref fo)] (λi ys H'=>H'=HY/\ys=((pl c F0 B r0 xd).take i).map g) rfl (by rw[Ha,sizeLine_eq];omega) ⟨rfl,rfl⟩ (λi ys H' _ h=>by obtain⟨e,_⟩:=h;subst e;exact SqL.of hY') (λi ys H' h=>by
      obtain⟨_,e⟩:=h;rw[e,List.length_map,List.length_take];omega) ?_ ?_
     . rintro i2 v ys z H9 hv ⟨rfl,rfl⟩
       obtain⟨a2,ha2,rfl⟩:=cf hv;have tn:=BR.Ka ha2;have hal:=plt a2 (List.mem_of_getElem? ha2);left;refine gc (xs:=(List.range c).map g) hfoY (atG (by rw[List.getElem?_range hal])) ?_;refine⟨⟨rfl,?_⟩,_,rfl⟩;rw[tn,snocG]
     . rintro ys H9 ⟨rfl,rfl⟩ D6 hD6
       rw[Ha,List.take_length];have tD:=tY.new (o:=.lst ((pl c F0 B r0 xd).map g)) hD6;have wD:upd H9 D6 (.lst ((pl c F0 B r0 xd).map g)) D6=some (lstG g (pl c F0 B r0 xd)):=da;have nDf:D6≠fa:=λz=>by rw[z]at hD6;rw[hfaY]at hD6;cases hD6
       have hYD:=La (o:=.lst ((pl c F0 B r0 xd).map g)) (ba hY hD6) hY;generalize upd H9 D6 (.lst ((pl c F0 B r0 xd).map g))=HZ at tD wD hYD ⊢;have F8:=FF.same tD;have hf8:=F8.ls;have ql:=FF.ln;left;refine Md (xs:=qs.map V.ref) hf8 (by rw[List.length_map,ql,List.length_take,Cg,sizeLine_eq];omega) ?_;have fr8:Fr1 fa H5 HZ:=fr.same tD;have e9:=BR.Ka nx;have nD6:H D6=none:=by
        cases hh:H D6 with
        | none=>rfl
        | some o=>have:=tY _ _ (nsafe _ _ hh);rw[hD6]at this;cases this
       have nq:∀z∈qs,z≠D6:=λz hz e=>by
        obtain⟨j,hj⟩:=List.getElem?_of_mem hz;obtain⟨l',_,g2⟩:=FF.it j z hj;have:=tY _ _ g2;rw[e,hD6]at this;cases this
       refine⟨pz,qs++[D6],_,_,by omega,fr8.upd,?_,?_,?_,nzf,?_,rfl⟩
       . rw [e9]
         refine⟨by rw[da,List.map_append];rfl,λj b hj=>?_,by rw[List.length_append,List.length_append,ql];rfl⟩;by_cases hjl:j<qs.length
         . rw[List.getElem?_append_left hjl]at hj
           obtain⟨l',g1,g2⟩:=F8.it j b hj;have nb:b≠fa:=(hq b (List.mem_of_getElem? hj)).2;exact⟨l',by rw[List.getElem?_append_left (by have:=(List.getElem?_eq_some_iff.mp g1).1;omega)];exact g1,by rw[va nb];exact g2⟩
         . rw[List.getElem?_append_right (by omega)]at hj
           have e:j-qs.length=0:=by
            cases w:j-qs.length with
            | zero=>rfl
            | succ k=>rw[w]at hj;simp at hj
           rw[e]at hj;have ez:D6=b:=by simpa using hj
           subst ez;refine⟨pl c F0 B r0 xd,?_,by rw[va nDf];exact wD⟩;rw[List.getElem?_append_right (by omega),<-ql,e];rfl
       . intro z hz
         rcases List.mem_append.mp hz with y|y
         . exact hq z y
         . have:z=D6:=by simpa using y
           subst this;exact⟨nD6,nDf⟩
       . rw[List.nodup_append]
         refine⟨nd,by simp,λz hz b hb=>?_⟩;have:b=D6:=by simpa using hb
         subst this;exact nq z hz
       . rw[va nzf,Bo nx]
         exact hYD
   . rintro σ' H' ⟨bb,qs,o1,o2,_,fr,FF,hq,nd,nbb,hbb,rfl⟩
     left;rw[List.length_map,Ha,gl,dl,rl,Nat.min_self,List.take_of_length_le (by rw[Cg];exact Nat.le_refl _)]at FF;exact q fa _ qs nf (λb o hb=>fr.get (S5 _ _ hb) (ba hb nf)) FF hq nd
theorem Sy{Cac Cab Caa:Addr}(T:Txt K mg Cac Cab Caa)(U:Up K mg "head" Pq ["folk","friends","row","number"])(Cav:sg P w K mg base):Ht P w K mg base:=by
 have sc:=Nx;refine Callee.of (k:=7) U sc (λvs H Q E h=>?_) (λf cdv A outer s H vs Q E hr h=>?_)
 . obtain⟨g,fo,fr',a,c,fv,ps,rs,N,rfl,_⟩:=h;rfl
 . obtain⟨g,fo,fr',a,c,fv,ps,rs,N,rfl,NM,hfo,hfr,hfl,R,hw,hN,q⟩:=h
   have hu:=hr.units;have c1:=R.c1;have c2:=R.c2;have ln:=R.ln;have lrc:(List.range c).length=c:=List.length_range;have hfo':H fo=some (.lst ((List.range c).map g)):=hfo
   conv in (qa _)=>whnf
   with_reducible refine⟨_,(ja (Ia (i:=4) ‹sc.nd› ‹rfl› ‹Or.inl rfl› (Pa (addK (K:=K) ‹rfl›) (Hb (aa (Ua (Hn (K:=K) ‹rfl›) ‹rfl› ‹T.kAd› Pe (aa (pv 0) ia)) ia)) (pe_c ‹Cav› ‹hr.mono (by decide)› ‹rfl› (aa (pv 0) (aa (pv 1) (aa (pv 2) (aa (pv 3) ia))))))) (ka (xa (Ja (ixK (K:=K) ‹rfl›) (Ja (ixK (K:=K) ‹rfl›) (pv 4) (Fp nj oa) ‹λ_ _=>rfl›) oa ‹λ_ _=>rfl›)))),?_⟩
   rw[show L2.start ["folk","friends","row","number","course"] [V.ref fo,V.ref fr',V.ref a,V.int N]=[some (V.ref fo),some (V.ref fr'),some (V.ref a),some (V.int N),none] from rfl];left;refine jk (xs:=(List.range c).map g) (SqL.of hfo') ?_;intro p0 hp0;have s1:=(Same.refl H).new (o:=.lst ((List.range c).map g)) hp0;have w1:upd H p0 (.lst ((List.range c).map g)) p0=some (lstG g (List.range c)):=da;generalize upd H p0 (.lst ((List.range c).map g))=H1 at s1 w1 ⊢;left;intro p1 hp1;have s2:=s1.new (o:=.lst [.ref p0]) hp1;have w12:=La (o:=.lst [.ref p0]) (ba w1 hp1) w1;have w2:upd H1 p1 (.lst [.ref p0]) p1=some (.lst [.ref p0]):=da;generalize upd H1 p1 (.lst [.ref p0])=H2 at s2 w12 w2 ⊢;left;refine⟨_,_,_,_,_,_,_,_,_,rfl,NM,(s2 _ _ hfo),(s2 _ _ hfr),hfl,(R.same s2),hw,hN,λp2 H3 qs hp2 s3 F _ _=>?_⟩;have ql:=F.ln;rw[Cg]at ql;left;refine Vh (s3 _ _ w2) F.ls (by rw[List.length_map,sizeLine_eq];simp;omega) ?_;intro p3 hp3;have s4:=(s2.tr s3).new (o:=.lst ([.ref p0]++qs.map V.ref)) hp3;have t4:=(Same.refl H3).new (o:=.lst ([.ref p0]++qs.map V.ref)) hp3;have G4:TsAt (lstG g) (upd H3 p3 (.lst ([.ref p0]++qs.map V.ref))) p3 (p0::qs) (List.range c::plA c (λa=>inV (g a) fv) (List.range c) rs N):=(F.same t4).cons' da (t4 _ _ (s3 _ _ w12));generalize upd H3 p3 (.lst ([.ref p0]++qs.map V.ref))=H4 at s4 G4 ⊢;obtain⟨p4,hat,h4⟩:=G4.lastG;have ll:=wk (F:=λa=>inV (g a) fv) rs (List.range c) N c lrc R.ft (Nat.le_refl _);rw[hw]at ll;obtain⟨h0,e0⟩:∃h0,sf (List.range c) (plA c (λa=>inV (g a) fv) (List.range c) rs N)=[h0]:=List.length_eq_one_iff.mp ll;rw[e0]at h4;have h4':H4 p4=some (.lst ([h0].map g)):=h4;left;refine gc G4.ls hat ?_;left;exact q h0 _ e0 s4
theorem Ck{Cac Cab Caa : Addr}(T : Txt K mg Cac Cab Caa)(U : UpN K mg Cac "Terms" "Terms.__init__" Ae ["self", "roll", "marks", "steps"]) : Te P w K mg base Cac := by
 have sc:=Vj;refine pd.of (k:=0) U sc (λvs H Q E h=>?_) (λf cdv A outer s H vs Q E hr h=>?_)
 . obtain⟨x,dx,r,m,s,D,rfl,_⟩:=h;rfl
 . obtain⟨x,dx,r,m,st,D,rfl,hx,hr',hm,R,n1,n2,n3,q⟩:=h
   have hu:=hr.units
   conv in (qa _)=>whnf
   with_reducible refine⟨_,(ja (jh ‹T.f_roll› (pv 0) (Ua (tupXK (K:=K) ‹rfl›) ‹rfl› ‹T.kAc› nc (aa (pv 1) ia))) (ja (jh ‹T.f_marks› (pv 0) (Ua (pj (K:=K) ‹rfl›) ‹rfl› ‹T.kAc› nc (aa (pv 2) ia))) (ja (jh ‹T.f_steps› (pv 0) (Ua (tupBK (K:=K) ‹rfl›) ‹rfl› ‹T.kAc› nc (aa (pv 3) ia))) (ka (jh ‹T.f_worthy› (pv 0) Ug))))),?_⟩
   rw[show L2.start ["self","roll","marks","steps"] [V.ref x,V.ref r,V.ref m,V.ref st]=[some (V.ref x),some (V.ref r),some (V.ref m),some (V.ref st)] from rfl];left;refine r_tupX hr' ?_;intro r1 hr1;have n4:r1≠x:=(ba hx hr1).symm;left;refine wj (La (ba hx hr1) hx) (by show 0<1000;decide) ?_;have k1:=((Fr1.refl x H).new (o:=TupX r1 ((List.range D.c).map (ngS D.nm))) hr1).upd (o:=.ins Cac dx (putF "roll" (.ref r1) []));have x1:upd (upd H r1 (TupX r1 ((List.range D.c).map (ngS D.nm)))) x (.ins Cac dx (putF "roll" (.ref r1) [])) x=some (.ins Cac dx (putF "roll" (.ref r1) [])):=da;have w1:upd (upd H r1 (TupX r1 ((List.range D.c).map (ngS D.nm)))) x (.ins Cac dx (putF "roll" (.ref r1) [])) r1=some (TupX r1 ((List.range D.c).map (ngS D.nm))):=La n4 da;generalize upd (upd H r1 (TupX r1 ((List.range D.c).map (ngS D.nm)))) x (.ins Cac dx (putF "roll" (.ref r1) []))=H1 at k1 x1 w1 ⊢;left;have hm1:H1 m=some (.lst ((List.range D.c).map λa=>V.bl (D.F a))):=k1.get hm n2.symm;refine Ye hm1 ?_;intro m1 hm2;have n5:m1≠x:=(ba x1 hm2).symm;left;refine wj (La (ba x1 hm2) x1) few1 ?_;have k2:=(k1.new (o:=.tup ((List.range D.c).map λa=>V.bl (D.F a))) hm2).upd (o:=.ins Cac dx (putF "marks" (.ref m1) (putF "roll" (.ref r1) [])));have x2:upd (upd H1 m1 (.tup ((List.range D.c).map λa=>V.bl (D.F a)))) x (.ins Cac dx (putF "marks" (.ref m1) (putF "roll" (.ref r1) []))) x=some (.ins Cac dx (putF "marks" (.ref m1) (putF "roll" (.ref r1) []))):=da;have w2:upd (upd H1 m1 (.tup ((List.range D.c).map λa=>V.bl (D.F a)))) x (.ins Cac dx (putF "marks" (.ref m1) (putF "roll" (.ref r1) []))) m1=some (obM false D.F D.c):=La n5 da;have w1':=La (o:=.ins Cac dx (putF "marks" (.ref m1) (putF "roll" (.ref r1) []))) n4 (La (o:=.tup ((List.range D.c).map λa=>V.bl (D.F a))) (ba w1 hm2) w1);generalize upd (upd H1 m1 (.tup ((List.range D.c).map λa=>V.bl (D.F a)))) x (.ins Cac dx (putF "marks" (.ref m1) (putF "roll" (.ref r1) [])))=H2 at k2 x2 w2 w1' ⊢;left;refine Tq (k2.get R.ls n3.symm) ?_;left;refine wj x2 few2 ?_;have x3:upd H2 x (.ins Cac dx (putF "steps" (.ref st) (putF "marks" (.ref m1) (putF "roll" (.ref r1) [])))) x=some (.ins Cac dx (putF "steps" (.ref st) (putF "marks" (.ref m1) (putF "roll" (.ref r1) [])))):=da;left;refine⟨x,dx,_,rfl,x3,few3,?_⟩;rw[Vw];refine q _ (k2.upd.upd) ⟨dx,r1,m1,st,da,?_,?_,?_⟩
   . rw[va n4,va n4];exact w1'
   . rw[va n5,va n5];exact w2
   . refine⟨?_,λi p hp=>?_,R.ln⟩
     . rw[va n3.symm,va n3.symm];exact k2.get R.ls n3.symm
     . obtain⟨rn,e1,e2⟩:=R.it i p hp
       have np:p≠x:=by
        obtain⟨xs,e⟩:=Fe rn;rw[e]at e2;exact zc e2 hx (λz=>nomatch z)
       exact⟨rn,e1,by rw[va np,va np];exact k2.get e2 np⟩
theorem Fg{Cac Cab Caa:Addr}(T:Txt K mg Cac Cab Caa)(U:UpM K Cac "names_at" "Terms.names_at" wc ["self","places"]):fb P w K mg base Cac:=by
 have sc:=wg;refine ya.of (k:=0) U sc (λvs H Q E h=>?_) (λf cdv A outer s H vs Q E hr h=>?_)
 . obtain⟨t,p,D,l,k,rfl,_⟩:=h;rfl
 . obtain⟨t,p,D,l,k,rfl,⟨dt,r,m,s1,t1,t2,t3,R⟩,hp,hl,h5,q⟩:=h
   have hu:=hr.units;have hp':H p=some (obB k ((zs l).map V.int)):=hp
   conv in (qa _)=>whnf
   with_reducible refine⟨_,(ka (xa (jf ["self"] ["place"] [0] (by with_unfolding_all rfl) ‹rfl› ‹rfl› (piXK (K:=K) ‹rfl› (pv 1)) (by decide) ‹rfl› (by decide) ‹⟨rfl,trivial⟩› (by with_unfolding_all rfl) (λ_=>‹⟨cap1 rfl rfl rfl rfl,trivial⟩›) (λ_ _ _ _=>(Ga (i:=1) ‹show List.Nodup (["self","place"]:List Str) from by decide +kernel› ‹rfl› ‹Or.inl rfl› ‹.inr rfl›)) (λ_ _ _ _=>jc) (λ_ _ _ _=>(Ja ixX (cb ‹T.f_roll› (pv 0)) (pv 1) ‹λ_ _=>rfl›))))),?_⟩
   rw[show L2.start ["self","places"] [V.ref t,V.ref p]=[some (V.ref t),some (V.ref p)] from rfl];left;refine compB (b:=k) (a:=p) (xs:=(zs l).map V.int) [some (.ref t)] (λi ys H'=>H'=H/\ys=(l.take i).map (ngS D.nm)) rfl (by rw[Ha,sizeLine_eq];omega) ⟨rfl,rfl⟩ (λi ys H' _ h=>by obtain⟨e,_⟩:=h;subst e;exact SqB.of hp') (λi ys H' h=>by
    obtain⟨_,e⟩:=h;rw[e,List.length_map,List.length_take];omega) ?_ ?_
   . rintro i v ys z H' hv ⟨rfl,rfl⟩
     obtain⟨a,ha,rfl⟩:=cf hv;have tn:=BR.Ka ha;have hac:=hl a (List.mem_of_getElem? ha);left;refine r_ixX t2 (v:=.str (D.nm a)) (kc (by rw[List.getElem?_map,List.getElem?_range hac];rfl)) ?_;refine⟨⟨rfl,?_⟩,_,rfl⟩;rw[tn,List.map_append];rfl
   . rintro ys H' ⟨rfl,rfl⟩ D6 hD6
     rw[Ha,List.take_length];exact q D6 _ hD6 ((Same.refl _).new hD6) da
theorem ki{Cac Cab Caa:Addr}(T:Txt K mg Cac Cab Caa)(U:UpN K mg Cab "Sitting" "Sitting.__init__" Yc ["self","terms","over","balls","hangs"]):zb P w K mg base Cab:=by
 have sc:=Lh;refine pd.of (k:=0) U sc (λvs H Q E h=>?_) (λf cdv A outer s H vs Q E hr h=>?_)
 . obtain⟨x,dx,t,o,b,hg,rfl,_⟩:=h;rfl
 . obtain⟨x,dx,t,o,b,hg,rfl,hx,q⟩:=h
   have hu:=hr.units
   conv in (qa _)=>whnf
   with_reducible refine⟨_,(ja (jh ‹T.f_terms› (pv 0) (pv 1)) (ja (jh ‹T.f_over› (pv 0) (pv 2)) (ja (jh ‹T.f_balls› (pv 0) (pv 3)) (ka (jh ‹T.f_hangs› (pv 0) (pv 4)))))),?_⟩
   rw[show L2.start ["self","terms","over","balls","hangs"] [V.ref x,V.ref t,V.ref o,V.ref b,V.bl hg]=[some (V.ref x),some (V.ref t),some (V.ref o),some (V.ref b),some (V.bl hg)] from rfl];left;refine⟨x,dx,_,rfl,hx,(show 0<1000 by decide),?_⟩;left;refine⟨x,dx,_,rfl,da,few1,?_⟩;left;refine⟨x,dx,_,rfl,da,few2,?_⟩;left;refine⟨x,dx,_,rfl,da,few3,?_⟩;rw[Gx];exact q _ ((Fr1.refl x H).upd.upd.upd.upd) da
theorem gi{Cac Cab Caa:Addr}(T:Txt K mg Cac Cab Caa)(U:UpM K Cab "step" "Sitting.step" Wc ["self"]):yb P w K mg base Cab Cac:=by
 have sc:=Jh;refine ya.of (k:=0) U sc (λvs H Q E h=>?_) (λf cdv A outer s H vs Q E hr h=>?_)
 . obtain⟨x,D,os,ls,bs,hg,rfl,_⟩:=h;rfl
 . obtain⟨x,D,os,ls,bs,hg,rfl,S,hl,p,hp,q⟩:=h
   have hu:=hr.units;obtain⟨dx,t,o,b,h1,⟨dt,r,m,s1,t1,t2,t3,R⟩,L,h4⟩:=S.ex;have ho:H o=some (.tup (os.map V.ref)):=L.ls;have hs:H s1=some (.tup (D.ps.map V.ref)):=R.ls
   conv in (qa _)=>whnf
   with_reducible refine⟨_,(ka (xa (Ja (ixK (K:=K) ‹rfl›) (cb ‹T.f_steps› (cb ‹T.f_terms› (pv 0))) (Ea (lenK (K:=K) ‹rfl›) ‹rfl› ‹T.kAa› pb (aa (cb ‹T.f_over› (pv 0)) ia)) ‹λ_ _=>rfl›))),?_⟩
   rw[show L2.start ["self"] [V.ref x]=[some (V.ref x)] from rfl];left;refine uf hs (v:=.ref p) (kc (by rw[List.length_map,L.ln,List.getElem?_map,hp];rfl)) ?_;exact q
theorem Of{Cac Cab Caa:Addr}(T:Txt K mg Cac Cab Caa)(U:UpM K Cab "sat_last" "Sitting.sat_last" Wb ["self"]):jb P w K mg base Cab Cac:=by
 have sc:=Af;refine ya.of (k:=0) U sc (λvs H Q E h=>?_) (λf cdv A outer s H vs Q E hr h=>?_)
 . obtain⟨x,D,os,ls,bs,hg,rfl,_⟩:=h;rfl
 . obtain⟨x,D,os,ls,bs,hg,rfl,S,hc,q⟩:=h
   have hu:=hr.units;obtain⟨dx,t,o,b,h1,⟨dt,r,m,s1,t1,t2,t3,R⟩,L,h4⟩:=S.ex;have ho:H o=some (.tup (os.map V.ref)):=L.ls;have ln:=L.ln
   conv in (qa _)=>whnf
   with_reducible refine⟨_,(ja (Oa (truK (K:=K) ‹rfl› (cb ‹T.f_over› (pv 0))) (ka (xa (Ja (ixK (K:=K) ‹rfl›) (cb ‹T.f_over› (pv 0)) (Fp nj oa) ‹λ_ _=>rfl›))) Ca) (ka (xa (Ym ‹rfl› ‹rfl› ‹T.kAc› ‹rfl› ‹T.kAb› (aa (Ea lenX ‹rfl› ‹T.kAa› pb (aa (cb ‹T.f_roll› (cb ‹T.f_terms› (pv 0))) ia)) ia))))),?_⟩
   rw[show L2.start ["self"] [V.ref x]=[some (V.ref x)] from rfl];left;refine r_truT ho ?_;rcases List.eq_nil_or_concat os with z|⟨os',p,z⟩
   . subst z
     have e:ls=[]:=List.length_eq_zero_iff.mp ln.symm;subst e;rw[show (!(([]:List Addr).map V.ref).isEmpty)=false from rfl];left;refine r_TR ?_;left;refine r_lenX t2 ?_;left;rw[List.length_map,List.length_range];refine⟨D.c,rfl,by omega,λp hp=>?_⟩;exact q p _ ((Same.refl H).new hp) da
   . rw[List.concat_eq_append]at z
     subst z;rw[show (!((os'++[p]).map V.ref).isEmpty)=true from by simp];obtain⟨l,e1,e2⟩:=L.it os'.length p (by simp);left;refine uf ho (v:=.ref p) (by rw[List.map_append];exact Ah _ _) ?_;have e3:Ma D.c ls=l:=by
      unfold Ma sf;rw[List.getLastD_eq_getLast?,List.getLast?_eq_getElem?,<-ln];rw[List.length_append,List.length_singleton,Nat.add_sub_cancel,e1];rfl
     exact q p H (Same.refl H) (by rw[e3];exact e2)
theorem ji{Cac Cab Caa : Addr}(T : Txt K mg Cac Cab Caa)(U : UpM K Cab "left" "Sitting.left" Xc ["self"])(Cao : qc P w K mg base)(Caj : yb P w K mg base Cab Cac)(Cal : jb P w K mg base Cab Cac)(Cag : Ra P w K mg base Cab Cac) : ud P w K mg base Cab Cac := by
 have sc:=Kh;refine ya.of (k:=2) U sc (λvs H Q E h=>?_) (λf cdv A outer s H vs Q E hr h=>?_)
 . obtain⟨x,D,os,ls,bs,hg,rfl,_⟩:=h;rfl
 . obtain⟨x,D,os,ls,bs,hg,rfl,S,G,q⟩:=h
   have hu:=hr.units;obtain⟨dx,t,o,b,h1,T1,L,h4⟩:=id S.ex;obtain⟨dt,r,m,s1,t1,t2,t3,R⟩:=id T1.ex;have gl:=G.ll;have gn:=G.ln;have sl:=G.sl
   conv in (qa _)=>whnf
   with_reducible refine⟨_,(ja (Oa (ua (neK (K:=K) ‹rfl› ‹hu›) (Lb ‹Cag› ‹hr.mono (by decide)› (pv 0)) za ‹Aa _›) (ka (xa (Hb ia))) Ca) (ja (Ia (i:=1) ‹sc.nd› ‹rfl› ‹Or.inl rfl› (pe_c ‹Cao› ‹hr.mono (by decide)› ‹rfl› (aa (cb ‹T.f_marks› (cb ‹T.f_terms› (pv 0))) (aa (Lb ‹Cal› ‹hr.mono (by decide)› (pv 0)) (aa (Lb ‹Caj› ‹hr.mono (by decide)› (pv 0)) ia))))) (ka (xa (jf ["self"] ["place"] [0] (by with_unfolding_all rfl) ‹rfl› ‹rfl› (piLK (K:=K) ‹rfl› (pv 1)) (by decide) ‹rfl› (by decide) ‹⟨rfl,trivial⟩› (by with_unfolding_all rfl) (λ_=>‹⟨cap1 rfl rfl rfl rfl,trivial⟩›) (λ_ _ _ _=>(Ga (i:=1) ‹show List.Nodup (["self","place"]:List Str) from by decide +kernel› ‹rfl› ‹Or.inl rfl› ‹.inr rfl›)) (λ_ _ _ _=>(Yh (ua (Tr (K:=K) ‹rfl›) (pv 1) (cb ‹T.f_balls› (pv 0)) ‹rfl›))) (λ_ _ _ _=>(pv 1))))))),?_⟩
   rw[show L2.start ["self","pool"] [V.ref x]=[some (V.ref x),none] from rfl];left;refine⟨x,D,os,ls,bs,hg,rfl,S,G.ll,by omega,?_⟩;left;by_cases hd:dueN D.rs ls.length hg="draw"
   . rw [hd]
     refine Ge (λz=>absurd rfl z) (λ_=>?_);left;refine⟨x,D,os,ls,bs,hg,rfl,S,G.c2,λbp H1 s1' hbp=>?_⟩;have hx1:=s1' _ _ h1;have hlt:ls.length<D.rs.length:=by
      rcases Nat.lt_or_ge ls.length D.rs.length with y|y
      . exact y
      . unfold dueN at hd
        rw[List.getElem?_eq_none y]at hd;exact absurd (show PySem.Str.ofString "done"=PySem.Str.ofString "draw" from hd) (by decide)
     obtain⟨p,hp⟩:∃p,D.ps[ls.length]?=some p:=⟨_,List.getElem?_eq_getElem (by rw[R.ln];exact hlt)⟩
     obtain⟨rn,e1,e2⟩:=R.it _ p hp;left;refine⟨x,D,os,ls,bs,hg,rfl,S.same s1',by omega,p,hp,?_⟩;left;have bl:=G.Wk;have c2:=G.c2;have blc:(Ma D.c ls).length<=D.c:=by rw[G.bl];exact Yb G.ft (Nat.le_refl _) _
     refine⟨m,bp,p,D.c,D.F,Ma D.c ls,rn,false,false,rfl,⟨s1' _ _ t3,hbp,s1' _ _ e2,G.bm,blc,by omega,by rw[G.bl];exact G.ft.at e1⟩,λz H2 hz s2 hz2=>?_⟩;have S2:=s1'.tr s2;have hz2':H2 z=some (.lst ((zs (pool D.c (Ma D.c ls) rn)).map V.int)):=hz2;have hx2:=S2 _ _ h1;have hb2:=S2 _ _ h4;have pl:=G.zw rn;left;refine jt (a:=z) (xs:=(zs (pool D.c (Ma D.c ls) rn)).map V.int) [some (.ref x)] (λi ys H'=>H'=H2/\ys=(zs (((pool D.c (Ma D.c ls) rn).take i).filter λa=> !decide (a∈bs))).map V.int) rfl (by rw[Ha,sizeLine_eq];omega) ⟨rfl,rfl⟩ (λi ys H' _ h=>by obtain⟨e,_⟩:=h;subst e;exact SqL.of hz2') (λi ys H' h=>by
      obtain⟨_,e⟩:=h;rw[e,Ha];exact Nat.le_trans (List.length_filter_le _ _) (by rw[List.length_take];omega)) ?_ ?_
     . rintro i v ys zz H' hv ⟨rfl,rfl⟩
       obtain⟨a,ha,rfl⟩:=cf hv;have tn:=BR.Ka ha;left;refine r_niT hb2 ?_;left;cases u:decide (a∈bs) with
       | true =>
        left;refine⟨⟨rfl,?_⟩,_,rfl⟩;rw[tn,List.filter_append,show ([a].filter λa=> !decide (a∈bs))=[] by simp[List.filter_cons,u],List.append_nil]
       | false =>
        left;refine⟨⟨rfl,?_⟩,_,rfl⟩;rw[tn,List.filter_append,show ([a].filter λa=> !decide (a∈bs))=[a] by simp[List.filter_cons,u],<-lst_snoc]
     . rintro ys H' ⟨rfl,rfl⟩ D6 hD6
       rw[Ha,List.take_length];refine q D6 _ (S2.free hD6) (S2.new hD6) ?_;rw[da];unfold rf;rw[e1];show _=some (lstN (if dueN D.rs ls.length hg="draw" then _ else _));rw[if_pos hd];rfl
   . refine Ge (λ_=>?_) (λz=>absurd z hd)
     left;intro p hp;refine q p _ hp ((Same.refl H).new hp) ?_;rw[da];unfold rf;split
     . rfl
     . rw[if_neg hd];rfl
theorem ig{Cac Cab Caa:Addr}(T:Txt K mg Cac Cab Caa)(U:UpM K Cab "due_now" "Sitting.due_now" ic ["self"])(Caj:yb P w K mg base Cab Cac):Ra P w K mg base Cab Cac:=by
 have sc:=cg;refine ya.of (k:=1) U sc (λvs H Q E h=>?_) (λf cdv A outer s H vs Q E hr h=>?_)
 . obtain⟨x,D,os,ls,bs,hg,rfl,_⟩:=h;rfl
 . obtain⟨x,D,os,ls,bs,hg,rfl,S,hle,hl,q⟩:=h
   have hu:=hr.units;obtain⟨dx,t,o,b,h1,T1,L,h4⟩:=id S.ex;obtain⟨dt,r,m,s1,t1,t2,t3,R⟩:=id T1.ex;have ho:H o=some (.tup (os.map V.ref)):=L.ls;have hs:H s1=some (.tup (D.ps.map V.ref)):=R.ls;have l1:=L.ln;have l2:=R.ln
   conv in (qa _)=>whnf
   with_reducible refine⟨_,(ja (Oa (ua (eqK (K:=K) ‹rfl› ‹hu›) (Ea (lenK (K:=K) ‹rfl›) ‹rfl› ‹T.kAa› pb (aa (cb ‹T.f_over› (pv 0)) ia)) (Ea (lenK (K:=K) ‹rfl›) ‹rfl› ‹T.kAa› pb (aa (cb ‹T.f_steps› (cb ‹T.f_terms› (pv 0))) ia)) ‹Aa _›) (ka (xa za)) Ca) (ja (Oa (PW.pt (fg (ua (eqK (K:=K) ‹rfl› ‹hu›) (Ja (ixK (K:=K) ‹rfl›) (Lb ‹Caj› ‹hr.mono (by decide)› (pv 0)) oa ‹λ_ _=>rfl›) za ‹Aa _›) (ie (truK (K:=K) ‹rfl› (cb ‹T.f_hangs› (pv 0)))))) (ka (xa za)) Ca) (ka (xa za)))),?_⟩
   rw[show L2.start ["self"] [V.ref x]=[some (V.ref x)] from rfl];left;rw[List.length_map,List.length_map,l1,l2];by_cases hlt:ls.length<D.rs.length
   . refine Ba (λz=>by omega) (λ_=>?_)
     left;obtain⟨p,hp⟩:∃p,D.ps[ls.length]?=some p:=⟨_,List.getElem?_eq_getElem (by omega)⟩
     obtain⟨rn,e1,e2⟩:=R.it _ p hp;refine⟨x,D,os,ls,bs,hg,rfl,S,hl,p,hp,?_⟩;left;unfold dueN at q;rw[e1]at q;cases rn with
     | lot n =>
      have e2':H p=some (.tup [.str "lot",.int n]):=e2;left;refine Ba (λ_=>?_) (λz=>absurd rfl z);left;exact q
     | vote n nq w =>
      have e2':H p=some (.tup [.str "vote",.int n,.int nq,.str (wdS w)]):=e2;left;refine Ba (λz=>absurd z (by decide)) (λ_=>?_);left;cases hg with
      | true=>left;exact q
      | false=>left;exact q
   . have e:ls.length=D.rs.length:=by omega
     refine Ba (λ_=>?_) (λz=>by omega);left;unfold dueN at q;rw[List.getElem?_eq_none (by omega)]at q;exact q
theorem pf{Cac Cab Caa:Addr}(T:Txt K mg Cac Cab Caa)(U:UpM K Cab "bench_now" "Sitting.bench_now" Ob ["self"])(Cak:fb P w K mg base Cac)(Cal:jb P w K mg base Cab Cac):wb P w K mg base Cab Cac:=by
 have sc:=ff;refine ya.of (k:=1) U sc (λvs H Q E h=>?_) (λf cdv A outer s H vs Q E hr h=>?_)
 . obtain⟨x,D,os,ls,bs,hg,rfl,_⟩:=h;rfl
 . obtain⟨x,D,os,ls,bs,hg,rfl,S,G,q⟩:=h
   have hu:=hr.units;obtain⟨dx,t,o,b,h1,T1,L,h4⟩:=id S.ex;obtain⟨dt,r,m,s1,t1,t2,t3,R⟩:=id T1.ex
   conv in (qa _)=>whnf
   with_reducible refine⟨_,(ka (xa (rb ‹Cak› ‹hr.mono (by decide)› (cb ‹T.f_terms› (pv 0)) (aa (Lb ‹Cal› ‹hr.mono (by decide)› (pv 0)) ia)))),?_⟩
   rw[show L2.start ["self"] [V.ref x]=[some (V.ref x)] from rfl];left;refine⟨x,D,os,ls,bs,hg,rfl,S,G.c2,λp H1 s1' hp=>?_⟩;have bl:=G.Wk;refine⟨t,p,D,Ma D.c ls,false,rfl,T1.same s1',hp,G.bm,by omega,λz H2 hz s2 h2=>?_⟩;exact q z H2 (s1'.free hz) (s1'.tr s2) h2
theorem pe{Cac Cab Caa:Addr}(T:Txt K mg Cac Cab Caa)(U:UpM K Cab "waiting_now" "Sitting.waiting_now" Eb ["self"])(Cak:fb P w K mg base Cac)(Cb1:ud P w K mg base Cab Cac):ib P w K mg base Cab Cac:=by
 have sc:=ke;refine ya.of (k:=3) U sc (λvs H Q E h=>?_) (λf cdv A outer s H vs Q E hr h=>?_)
 . obtain⟨x,D,os,ls,bs,hg,rfl,_⟩:=h;rfl
 . obtain⟨x,D,os,ls,bs,hg,rfl,S,G,q⟩:=h
   have hu:=hr.units;obtain⟨dx,t,o,b,h1,T1,L,h4⟩:=id S.ex;obtain⟨dt,r,m,s1,t1,t2,t3,R⟩:=id T1.ex;have lm:=G.Ho hg;have ll:=G.left_l hg
   conv in (qa _)=>whnf
   with_reducible refine⟨_,(ka (xa (rb ‹Cak› ‹hr.mono (by decide)› (cb ‹T.f_terms› (pv 0)) (aa (Lb ‹Cb1› ‹hr.mono (by decide)› (pv 0)) ia)))),?_⟩
   rw[show L2.start ["self"] [V.ref x]=[some (V.ref x)] from rfl];left;refine⟨x,D,os,ls,bs,hg,rfl,S,G,λp H1 hp s1' hp1=>?_⟩;refine⟨t,p,D,rf D ls bs hg,true,rfl,T1.same s1',hp1,lm,by omega,λz H2 hz s2 h2=>?_⟩;exact q z H2 (s1'.free hz) (s1'.tr s2) h2
theorem mf{Cac Cab Caa:Addr}(T:Txt K mg Cac Cab Caa)(U:UpM K Cab "drawn_now" "Sitting.drawn_now" Nb ["self"])(Cak:fb P w K mg base Cac):Sb P w K mg base Cab Cac:=by
 have sc:=ef;refine ya.of (k:=1) U sc (λvs H Q E h=>?_) (λf cdv A outer s H vs Q E hr h=>?_)
 . obtain⟨x,D,os,ls,bs,hg,rfl,_⟩:=h;rfl
 . obtain⟨x,D,os,ls,bs,hg,rfl,S,G,q⟩:=h
   have hu:=hr.units;obtain⟨dx,t,o,b,h1,T1,L,h4⟩:=id S.ex;obtain⟨dt,r,m,s1,t1,t2,t3,R⟩:=id T1.ex;have sl:=G.sl
   conv in (qa _)=>whnf
   with_reducible refine⟨_,(ka (xa (rb ‹Cak› ‹hr.mono (by decide)› (cb ‹T.f_terms› (pv 0)) (aa (cb ‹T.f_balls› (pv 0)) ia)))),?_⟩
   rw[show L2.start ["self"] [V.ref x]=[some (V.ref x)] from rfl];left;exact⟨t,b,D,bs,false,rfl,T1,h4,G.sm,by omega,q⟩
theorem Od{Cac Cab Caa : Addr}(T : Txt K mg Cac Cab Caa)(U : UpM K Cab "story_so_far" "Sitting.story_so_far" Ab ["self"])(Cak : fb P w K mg base Cac) : Cb P w K mg base Cab Cac := by
 have sc:=Cd;refine ya.of (k:=1) U sc (λvs H Q E h=>?_) (λf cdv A outer s H vs Q E hr h=>?_)
 . obtain⟨x,D,os,ls,bs,hg,rfl,_⟩:=h;rfl
 . obtain⟨x,D,os,ls,bs,hg,rfl,S,G,q⟩:=h
   have hu:=hr.units;obtain⟨dx,t,o,b,h1,T1,L,h4⟩:=id S.ex;have ho:H o=some (.tup (os.map V.ref)):=L.ls;have ln:=L.ln;have gl:=G.ll;have gn:=G.ln;have c2:=G.c2
   conv in (qa _)=>whnf
   with_reducible refine⟨_,(ka (xa (jf ["self"] ["bench"] [0] (by with_unfolding_all rfl) ‹rfl› ‹rfl› (piTK (K:=K) ‹rfl› (cb ‹T.f_over› (pv 0))) (by decide) ‹rfl› (by decide) ‹⟨rfl,trivial⟩› (by with_unfolding_all rfl) (λ_=>‹⟨cap1 rfl rfl rfl rfl,trivial⟩›) (λ_ _ _ _=>(Ga (i:=1) ‹show List.Nodup (["self","bench"]:List Str) from by decide +kernel› ‹rfl› ‹Or.inl rfl› ‹.inr rfl›)) (λ_ _ _ _=>jc) (λ_ _ _ _=>(rb ‹Cak› ‹hr.mono (by decide)› (cb ‹T.f_terms› (pv 0)) (aa (pv 1) ia)))))),?_⟩
   rw[show L2.start ["self"] [V.ref x]=[some (V.ref x)] from rfl];left;refine uz (a:=o) (xs:=os.map V.ref) [some (.ref x)] (λi ys H'=>Same H H'/\∃qs:List Addr,ys=qs.map V.ref/\qs.length=i/\i<=os.length/\∀j:Nat,∀p,qs[j]?=some p->∃l,ls[j]?=some l/\H' p=some (lstG (ngS D.nm) l)) rfl (by rw[List.length_map,sizeLine_eq];omega) ⟨Same.refl H,[],rfl,rfl,Nat.zero_le _,λj p h=>by simp at h⟩ (λi ys H' _ h=>SqT.of (h.1 _ _ ho)) (λi ys H' h=>by
    obtain⟨_,qs,e,e2,_⟩:=h;rw[e,List.length_map];omega) ?_ ?_
   . rintro i v ys z H' hv ⟨s1,qs,rfl,el,hi,hq⟩
     obtain⟨p,l,rfl,hp,hl,hpo⟩:=L.get hv;have hx1:=s1 _ _ h1;obtain⟨b1,b2⟩:=G.be l (List.mem_of_getElem? hl);left;have T2:=T1.same s1;obtain⟨dt,r,m,st,t1,t2,t3,R⟩:=id T2.ex;left;refine⟨t,p,D,l,false,rfl,T2,s1 _ _ hpo,b1,by omega,λzz H2 hz s2 h2=>?_⟩;have hil:i<os.length:=by rw[<-List.length_map (f:=V.ref)];exact(List.getElem?_eq_some_iff.mp hv).1
     refine⟨⟨s1.tr s2,qs++[zz],by rw[List.map_append];rfl,by rw[List.length_append,el];rfl,by omega,λj p' hj=>?_⟩,_,rfl⟩;by_cases hj2:j<qs.length
     . rw[List.getElem?_append_left hj2]at hj
       obtain⟨l',a1,a2⟩:=hq j p' hj;exact⟨l',a1,s2 _ _ a2⟩
     . rw[List.getElem?_append_right (by omega)]at hj
       have e:j-qs.length=0:=by
        cases y:j-qs.length with
        | zero=>rfl
        | succ k=>rw[y]at hj;simp at hj
       rw[e]at hj;simp at hj;subst hj;exact⟨l,by rw[show j=i by omega];exact hl,h2⟩
   . rintro ys H' ⟨s1,qs,rfl,el,hi,hq⟩ D6 hD6
     rw[List.length_map]at el;refine q D6 _ qs (s1.free hD6) (s1.new hD6) ⟨da,λj p hj=>?_,by omega⟩;obtain⟨l,a1,a2⟩:=hq j p hj;exact⟨l,a1,by rw[va (ba a2 hD6)];exact a2⟩
theorem kf{Cac Cab Caa:Addr}(T:Txt K mg Cac Cab Caa)(U:UpM K Cab "head_made" "Sitting.head_made" Mb ["self"])(Cag:Ra P w K mg base Cab Cac)(Cat:wb P w K mg base Cab Cac):Rb P w K mg base Cab Cac:=by
 have sc:=df;refine ya.of (k:=2) U sc (λvs H Q E h=>?_) (λf cdv A outer s H vs Q E hr h=>?_)
 . obtain⟨x,D,os,ls,bs,hg,h0,rfl,_⟩:=h;rfl
 . obtain⟨x,D,os,ls,bs,hg,h0,rfl,S,G,hl,hh,q⟩:=h
   have hu:=hr.units;obtain⟨dx,t,o,b,h1,T1,L,h4⟩:=id S.ex;have gl:=G.ll;have gn:=G.ln
   conv in (qa _)=>whnf
   with_reducible refine⟨_,(ja (Oa (ua (neK (K:=K) ‹rfl› ‹hu›) (Lb ‹Cag› ‹hr.mono (by decide)› (pv 0)) za ‹Aa _›) (ka Va) Ca) (ka (xa (Ja (ixK (K:=K) ‹rfl›) (Lb ‹Cat› ‹hr.mono (by decide)› (pv 0)) oa ‹λ_ _=>rfl›)))),?_⟩
   rw[show L2.start ["self"] [V.ref x]=[some (V.ref x)] from rfl];left;refine⟨x,D,os,ls,bs,hg,rfl,S,G.ll,by omega,?_⟩;left;have e:dueN D.rs ls.length hg="done":=by unfold dueN;rw[List.getElem?_eq_none (by omega)]
   rw[e];refine Ge (λz=>absurd rfl z) (λ_=>?_);left;refine⟨x,D,os,ls,bs,hg,rfl,S,G,λp H1 hp s1' hp1=>?_⟩;have hp1':H1 p=some (.lst ((Ma D.c ls).map (ngS D.nm))):=hp1;left;refine gc hp1' (v:=.str (D.nm h0)) (kc (j:=0) (by rw[List.getElem?_map,hh];rfl)) ?_;exact q H1 s1'
theorem Je{Cac Cab Caa:Addr}(T:Txt K mg Cac Cab Caa)(U:UpM K Cab "with_bench" "Sitting.with_bench" Kb ["self","places"])(Cai:zb P w K mg base Cab):qb P w K mg base Cab Cac:=by
 have sc:=ue;refine ya.of (k:=2) U sc (λvs H Q E h=>?_) (λf cdv A outer s H vs Q E hr h=>?_)
 . obtain⟨x,p,D,os,ls,bs,l,hg,rfl,_⟩:=h;rfl
 . obtain⟨x,p,D,os,ls,bs,l,hg,rfl,S,hl,hp,q⟩:=h
   have hu:=hr.units;obtain⟨dx,t,o,b,h1,T1,L,h4⟩:=id S.ex;have ho:H o=some (.tup (os.map V.ref)):=L.ls;have ln:=L.ln;have hp':H p=some (.lst ((zs l).map V.int)):=hp
   conv in (qa _)=>whnf
   with_reducible refine⟨_,(ka (xa (Hr ‹Cai› ‹hr.mono (by decide)› ‹rfl› (aa (cb ‹T.f_terms› (pv 0)) (aa (Pa (addK (K:=K) ‹rfl›) (cb ‹T.f_over› (pv 0)) (Sa (aa (Ua (pj (K:=K) ‹rfl›) ‹rfl› ‹T.kAc› nc (aa (pv 1) ia)) ia))) (aa (Sa ia) (aa kh ia))))))),?_⟩
   rw[show L2.start ["self","places"] [V.ref x,V.ref p]=[some (V.ref x),some (V.ref p)] from rfl];left;refine Ye hp' ?_;intro p1 hp1;left;intro u hu1;have S1:=((Same.refl H).new (o:=.tup ((zs l).map V.int)) hp1).new (o:=.tup [.ref p1]) hu1;have w1:upd (upd H p1 (.tup ((zs l).map V.int))) u (.tup [.ref p1]) p1=some (tupN l):=La (ba da hu1) da;have w2:upd (upd H p1 (.tup ((zs l).map V.int))) u (.tup [.ref p1]) u=some (.tup [.ref p1]):=da;generalize upd (upd H p1 (.tup ((zs l).map V.int))) u (.tup [.ref p1])=H1 at S1 w1 w2 ⊢;refine Vm (S1 _ _ ho) w2 (by rw[List.length_map,List.length_singleton,sizeLine_eq];omega) λo2 H2 s2 ho2=>?_;left;intro e he;have S3:=(S1.tr s2).new (o:=.tup []) he;have w3:=La (o:=.tup []) (ba (s2 _ _ w1) he) (s2 _ _ w1);have w4:=La (o:=.tup []) (ba ho2 he) ho2;have w5:upd H2 e (.tup []) e=some (tupN []):=da;generalize upd H2 e (.tup [])=H3 at S3 w3 w4 w5 ⊢;left;intro y dy hy hdy ndy;refine⟨y,dy,t,o2,e,false,rfl,da,λH4 f4 h4'=>⟨rfl,?_⟩⟩;have S4:=Dd (Same.refl H3) hy hdy f4;refine q y H4 (os++[p1]) (S3.tr S4) ⟨dy,t,o2,e,h4',T1.same (S3.tr S4),L.snoc (S3.tr S4) (S4 _ _ w4) (S4 _ _ w3),S4 _ _ w5⟩
theorem se{Cac Cab Caa:Addr}(T:Txt K mg Cac Cab Caa)(U:UpM K Cab "behind_ball" "Sitting.behind_ball" Gb ["self","person"])(Cai:zb P w K mg base Cab)(Caj:yb P w K mg base Cab Cac)(Cag:Ra P w K mg base Cab Cac)(Cau:ib P w K mg base Cab Cac)(Caw:qb P w K mg base Cab Cac):Jb P w K mg base Cab Cac:=by
 have sc:=oe;refine ya.of (k:=4) U sc (λvs H Q E h=>?_) (λf cdv A outer s H vs Q E hr h=>?_)
 . obtain⟨x,D,os,ls,bs,hg,r,a,rfl,_⟩:=h;rfl
 . obtain⟨x,D,os,ls,bs,hg,rn,a,rfl,S,G,hd,e1,ha,hb,q1,q2⟩:=h
   have hu:=hr.units;obtain⟨dx,t,o,b,h1,T1,L,h4⟩:=id S.ex;obtain⟨dt,r,m,s1,t1,t2,t3,R⟩:=id T1.ex;have ho:H o=some (.tup (os.map V.ref)):=L.ls;have gl:=G.ll;have gn:=G.ln;have c2:=G.c2;have hac:=G.Ho hg a ha
   conv in (qa _)=>whnf
   with_reducible refine⟨_,(ja (Oa (ua (neK (K:=K) ‹rfl› ‹hu›) (Lb ‹Cag› ‹hr.mono (by decide)› (pv 0)) za ‹Aa _›) (ka Va) Ca) (ja (Oa (ua (Tr (K:=K) ‹rfl›) (pv 1) (Lb ‹Cau› ‹hr.mono (by decide)› (pv 0)) ‹rfl›) (ka Va) Ca) (ja (Ia (i:=2) ‹sc.nd› ‹rfl› ‹Or.inl rfl› (Pa (addK (K:=K) ‹rfl›) (cb ‹T.f_balls› (pv 0)) (Sa (aa (Er (cb ‹T.f_roll› (cb ‹T.f_terms› (pv 0))) (aa (pv 1) ia)) ia)))) (ja (Oa (ua (eqK (K:=K) ‹rfl› ‹hu›) (Ea (lenK (K:=K) ‹rfl›) ‹rfl› ‹T.kAa› pb (aa (pv 2) ia)) (Ja (ixK (K:=K) ‹rfl›) (Lb ‹Caj› ‹hr.mono (by decide)› (pv 0)) oa ‹λ_ _=>rfl›) ‹Aa _›) (ka (xa (rb ‹Caw› ‹hr.mono (by decide)› (pv 0) (aa (Ea (sortTK (K:=K) ‹rfl›) ‹rfl› ‹T.kAz› Fi (aa (pv 2) ia)) ia)))) Ca) (ka (xa (Hr ‹Cai› ‹hr.mono (by decide)› ‹rfl› (aa (cb ‹T.f_terms› (pv 0)) (aa (cb ‹T.f_over› (pv 0)) (aa (pv 2) (aa (cb ‹T.f_hangs› (pv 0)) ia))))))))))),?_⟩
   rw[show L2.start ["self","person","balls"] [V.ref x,V.str (D.nm a)]=[some (V.ref x),some (V.str (D.nm a)),none] from rfl];left;refine⟨x,D,os,ls,bs,hg,rfl,S,G.ll,by omega,?_⟩;rw[hd];left;refine Ge (λz=>absurd rfl z) (λ_=>?_);left;refine⟨x,D,os,ls,bs,hg,rfl,S,G,λwt H1 hwt s1' hw1=>?_⟩;have hw1':H1 wt=some (.lst ((rf D ls bs hg).map (ngS D.nm))):=hw1;have NM:=En G.ij;refine⟨wt,_,rfl,.inl (SqL.of hw1'),rfl,Ko NM _,?_⟩;rw[gz NM hac (G.Ho hg),decide_eq_true ha];left;have hx1:=s1' _ _ h1;have t1':=s1' _ _ t1;have t2':H1 r=some (TupX r (((List.range D.c).map D.nm).map V.str)):=by rw[s1' _ _ t2,List.map_map];rfl
   have hb1:H1 b=some (.tup ((zs bs).map V.int)):=s1' _ _ h4;rw[show (if true=true then !true else true)=false from rfl];left;refine Bu ?_;left;refine⟨r,(List.range D.c).map D.nm,rfl,t2',?_⟩;left;refine⟨D.nm a,a,rfl,t2',by rw[List.getElem?_map,List.getElem?_range hac];rfl,λi hi z=>?_,?_⟩
   . rw[List.getElem?_map,List.getElem?_range (by omega)]at z
     have:=G.ij i a (by omega) hac (Option.some.inj z);omega
   left;intro u hu1;have w1:=La (o:=.tup [.int (a:Int)]) (ba hb1 hu1) hb1;have S1:=s1'.new (o:=.tup [.int (a:Int)]) hu1;have w2:upd H1 u (.tup [.int (a:Int)]) u=some (.tup [.int (a:Int)]):=da;generalize upd H1 u (.tup [.int (a:Int)])=H2 at S1 w1 w2 ⊢;refine Vm w1 w2 (by rw[Ha,List.length_singleton,sizeLine_eq];omega) λb2 H3 s3 hb3=>?_;have S3:=S1.tr s3;have hx3:=S3 _ _ h1;obtain⟨p,hp⟩:∃p,D.ps[ls.length]?=some p:=⟨_,List.getElem?_eq_getElem (by rw[R.ln];exact(List.getElem?_eq_some_iff.mp e1).1)⟩
   obtain⟨rn',e1',e2⟩:=R.it _ p hp;have ee:rn'=rn:=by rw[e1]at e1';exact(Option.some.inj e1').symm
   subst ee;rw[show (zs bs).map V.int++[.int (a:Int)]=(zs (bs++[a])).map V.int from(lst_snoc ..)]at hb3;left;refine⟨x,D,os,ls,bs,hg,rfl,S.same S3,by omega,p,hp,?_⟩;left;have hp3:=S3 _ _ e2;obtain⟨xs,ex,e3⟩:∃xs,rnO rn'= .tup xs/\atI xs 1=some (.int (rn'.n:Int)):=by
    cases rn' with
    | lot n=>exact⟨_,rfl,rfl⟩
    | vote n nq w=>exact⟨_,rfl,rfl⟩
   rw[ex]at hp3;refine uf hp3 e3 ?_;left;rw[Ha,List.length_append,List.length_singleton];refine Ba (λz=>?_) (λz=>?_)
   . left
     refine⟨b2,zs (bs++[a]),rfl,SqT.of hb3,by rw[show (zs (bs++[a])).length=bs.length+1 by unfold zs;simp];omega,λl ms hl pm pw=>?_⟩;obtain⟨zn,rfl,pn⟩:∃zn:List Nat,ms=zs zn/\zn.Perm (bs++[a]):=Hy pm;have S4:=S3.new (o:=.lst ((zs zn).map V.int)) hl;have h4':=La (o:=.lst ((zs zn).map V.int)) (ba hx3 hl) hx3;left;refine⟨x,l,D,os,ls,bs,zn,hg,rfl,S.same S4,by omega,da,λy H5 os' s5 S5=>?_⟩;exact q2 (by omega) zn pn (pw_zs pw) y H5 os' (S4.tr s5) S5
   . left
     intro y dy hy hdy ndy;refine⟨y,dy,t,o,b2,hg,rfl,da,λH4 f4 h4'=>⟨rfl,?_⟩⟩;have S4:=Dd (Same.refl H3) hy hdy f4;exact q1 (by omega) y H4 os (S3.tr S4) ⟨dy,t,o,b2,h4',T1.same (S3.tr S4),L.same (S3.tr S4),S4 _ _ hb3⟩
theorem qe{Cac Cab Caa:Addr}(T:Txt K mg Cac Cab Caa)(U:UpM K Cab "behind_poll" "Sitting.behind_poll" Fb ["self"])(Cap:bc P w K mg base)(Cai:zb P w K mg base Cab)(Caj:yb P w K mg base Cab Cac)(Cal:jb P w K mg base Cab Cac)(Cag:Ra P w K mg base Cab Cac)(Caw:qb P w K mg base Cab Cac):Ib P w K mg base Cab Cac:=by
 have sc:=me;refine ya.of (k:=3) U sc (λvs H Q E h=>?_) (λf cdv A outer s H vs Q E hr h=>?_)
 . obtain⟨x,D,os,ls,bs,hg,r,rfl,_⟩:=h;rfl
 . obtain⟨x,D,os,ls,bs,hg,rn,rfl,S,G,hd,e1,q1,q2⟩:=h
   have hu:=hr.units;obtain⟨dx,t,o,b,h1,T1,L,h4⟩:=id S.ex;obtain⟨dt,r,m,s1,t1,t2,t3,R⟩:=id T1.ex;have ho:H o=some (.tup (os.map V.ref)):=L.ls;have gl:=G.ll;have gn:=G.ln;have c2:=G.c2
   conv in (qa _)=>whnf
   with_reducible refine⟨_,(ja (Oa (ua (neK (K:=K) ‹rfl› ‹hu›) (Lb ‹Cag› ‹hr.mono (by decide)› (pv 0)) za ‹Aa _›) (ka Va) Ca) (ja (Ia (i:=1) ‹sc.nd› ‹rfl› ‹Or.inl rfl› (pe_c ‹Cap› ‹hr.mono (by decide)› ‹rfl› (aa (cb ‹T.f_marks› (cb ‹T.f_terms› (pv 0))) (aa (Lb ‹Cal› ‹hr.mono (by decide)› (pv 0)) (aa (Lb ‹Caj› ‹hr.mono (by decide)› (pv 0)) ia))))) (ja (Oa (ua Jr (pv 1) Ug ‹Aa _›) (ka (xa (Hr ‹Cai› ‹hr.mono (by decide)› ‹rfl› (aa (cb ‹T.f_terms› (pv 0)) (aa (cb ‹T.f_over› (pv 0)) (aa (Sa ia) (aa kh ia))))))) Ca) (ka (xa (rb ‹Caw› ‹hr.mono (by decide)› (pv 0) (aa (pv 1) ia))))))),?_⟩
   rw[show L2.start ["self","places"] [V.ref x]=[some (V.ref x),none] from rfl];left;refine⟨x,D,os,ls,bs,hg,rfl,S,G.ll,by omega,?_⟩;rw[hd];left;refine Ge (λz=>absurd rfl z) (λ_=>?_);left;refine⟨x,D,os,ls,bs,hg,rfl,S,G.c2,λbp H1 s1' hbp=>?_⟩;have hx1:=s1' _ _ h1;obtain⟨p,hp⟩:∃p,D.ps[ls.length]?=some p:=⟨_,List.getElem?_eq_getElem (by rw[R.ln];exact(List.getElem?_eq_some_iff.mp e1).1)⟩
   obtain⟨rn',e1',e2⟩:=R.it _ p hp;have ee:rn'=rn:=by rw[e1]at e1';exact(Option.some.inj e1').symm
   subst ee;left;refine⟨x,D,os,ls,bs,hg,rfl,S.same s1',by omega,p,hp,?_⟩;left;have blc:(Ma D.c ls).length<=D.c:=by rw[G.bl];exact Yb G.ft (Nat.le_refl _) _
   refine⟨m,bp,p,D.c,D.F,Ma D.c ls,rn',false,false,rfl,⟨s1' _ _ t3,hbp,s1' _ _ e2,G.bm,blc,by omega,by rw[G.bl];exact G.ft.at e1⟩,λhn H2 s2=>?_,λz hz pz H2 hpz s2 h2=>?_⟩
   . have S2:=s1'.tr s2
     have hx2:=S2 _ _ h1;left;intro e he;have S3:=S2.new (o:=.tup []) he;have w5:upd H2 e (.tup []) e=some (tupN []):=da;generalize upd H2 e (.tup [])=H3 at S3 w5 ⊢;left;intro y dy hy hdy ndy;refine⟨y,dy,t,o,e,true,rfl,da,λH4 f4 h4'=>⟨rfl,?_⟩⟩;have S4:=Dd S3 hy hdy f4;exact q1 hn y H4 os S4 ⟨dy,t,o,e,h4',T1.same S4,L.same S4,(Dd (Same.refl H3) hy hdy f4) _ _ w5⟩
   . have S2:=s1'.tr s2
     have hx2:=S2 _ _ h1;left;refine⟨x,pz,D,os,ls,bs,z,hg,rfl,S.same S2,by omega,h2,λy H3 os' s3 S3=>?_⟩;exact q2 z hz y H3 os' (S2.tr s3) S3
theorem Lp{Cac Cab Caa:Addr}(T:Txt K mg Cac Cab Caa)(U:Up K mg "is_name" Rh ["text"]):Mi P w K mg base:=by
 have sc:=Bp;refine Callee.of (k:=0) U sc (λvs H Q E h=>?_) (λf cdv A outer s H vs Q E hr h=>?_)
 . obtain⟨y,rfl,_⟩:=h;rfl
 . obtain⟨y,rfl,ok,q⟩:=h
   have hu:=hr.units;have lo:=ok.lo;have hi:=ok.hi;have lz:y.length<=sizeLine:=by rw[sizeLine_eq];omega
   have cz:y.cps.size=y.length:=rfl
   conv in (qa _)=>whnf
   with_reducible refine⟨_,(ja (Oa (PW.pt (fg (ua (ltK (K:=K) ‹rfl› ‹hu›) (Ea lenS ‹rfl› ‹T.kAa› pb (aa (pv 0) ia)) oa ‹Aa _›) (ie (ua yk (Ea lenS ‹rfl› ‹T.kAa› pb (aa (pv 0) ia)) (Nd ‹rfl› ‹T.kAk›) ‹Aa _›)))) (ka (xa kh)) Ca) (ka (xa (Ea (allK (K:=K) ‹rfl› ‹rfl›) ‹rfl› ‹T.b_all› bt_all (aa (jf [] ["sign"] [] (by with_unfolding_all rfl) ‹rfl› ‹rfl› (pi_str (pv 0)) (by decide) ‹rfl› (by decide) ‹trivial› (by with_unfolding_all rfl) (λ_=>‹trivial›) (λ_ _ _ _=>(Ga (i:=0) ‹show List.Nodup (["sign"]:List Str) from by decide +kernel› ‹rfl› ‹Or.inl rfl› ‹.inr rfl›)) (λ_ _ _ _=>jc) (λ_ _ _ _=>(Zl (Bb geS (pv 0) za ‹Aa _›) (Cr (Bb leS (pv 0) za ‹Aa _›))))) ia))))),?_⟩
   rw[show L2.start ["text"] [V.str y]=[some (V.str y)] from rfl];left;refine iw lz ?_;left;refine Ba (λz=>by omega) (λ_=>?_);left;refine iw lz ?_;left;refine Ba (λz=>by omega) (λ_=>?_);left;refine compS [] (λi ys H'=>H'=H/\ys=(List.replicate i true).map V.bl) rfl (by rw[cz,sizeLine_eq];omega) ⟨rfl,rfl⟩ (λi ys H' h=>by
    obtain⟨_,e⟩:=h;rw[e,List.length_map,List.length_replicate];exact Nat.le_refl _) ?_ ?_
   . rintro i c ys z H' hc ⟨rfl,rfl⟩
     obtain⟨a1,a2⟩:=ok.az c (List.mem_of_getElem? hc);left;refine r_geS ?_;left;refine Ge (λ_=>?_) (λz=>absurd z a1);left;refine r_leS ?_;rw[show decide ((Str.ofString "z").cps.toList<(⟨#[c]⟩:Str).cps.toList)=false from decide_eq_false a2];refine⟨⟨rfl,?_⟩,_,rfl⟩;rw[List.replicate_succ',List.map_append];rfl
   . rintro ys H' ⟨rfl,rfl⟩ D6 hD6
     left;refine r_all da ?_;rw[show (List.replicate y.cps.size true).all id=true from List.all_eq_true.2 λx hx=>(List.mem_replicate.mp hx).2];exact q _ ((Same.refl _).new hD6)
theorem Bk{Cac Cab Caa:Addr}(T:Txt K mg Cac Cab Caa)(U:Up K mg "need_names" ze ["texts"])(Cbw:Mi P w K mg base):Ub P w K mg base:=by
 have sc:=Uj;refine Callee.of (k:=1) U sc (λvs H Q E h=>?_) (λf cdv A outer s H vs Q E hr h=>?_)
 . obtain⟨p,ns,rfl,_⟩:=h;rfl
 . obtain⟨p,ns,rfl,hp,hn,ok,q⟩:=h
   have hu:=hr.units
   conv in (qa _)=>whnf
   with_reducible refine⟨_,(ka (zd PassesOwn.never ‹rfl› (piLK (K:=K) ‹rfl› (pv 0)) (Ga (i:=1) ‹sc.nd› ‹rfl› ‹Or.inl rfl›) (ka (Oa (Ul (truK (K:=K) ‹rfl› (pe_c ‹Cbw› ‹hr.mono (by decide)› ‹rfl› (aa (pv 1) ia)))) (ka Va) Ca)))),?_⟩
   rw[show L2.start ["texts","text"] [V.ref p]=[some (V.ref p),none] from rfl];left;refine forL (a:=p) (xs:=ns.map V.str) (λi σ' H'=>Same H H'/\∃z,σ'=[some (.ref p),z]) ⟨Same.refl H,_,rfl⟩ (λi σ' H' _ h=>SqL.of (h.1 _ _ hp)) ?_ ?_
   . rintro i v σ' H' hv ⟨s1,z,rfl⟩
     rw[List.getElem?_map]at hv;cases e:ns[i]? with
     | none=>rw[e]at hv;exact nomatch hv
     | some y =>
      rw[e]at hv;obtain rfl:V.str y=v:=Option.some.inj hv;left;refine⟨y,rfl,ok y (List.mem_of_getElem? e),λH2 s2=>?_⟩;left;exact⟨s1.tr s2,_,rfl⟩
   . rintro σ' H' ⟨s1,z,rfl⟩
     exact q H' s1
theorem Ip{Cac Cab Caa:Addr}(T:Txt K mg Cac Cab Caa)(U:Up K mg "may_fit" Oh ["step"]):Ji P w K mg base:=by
 have sc:=xp;refine Callee.of (k:=0) U sc (λvs H Q E h=>?_) (λf cdv A outer s H vs Q E hr h=>?_)
 . obtain⟨p,r,rfl,_⟩:=h;rfl
 . obtain⟨p,r,rfl,hp,ok,q⟩:=h
   have hu:=hr.units
   conv in (qa _)=>whnf
   with_reducible refine⟨_,(ja (Oa (PW.pt (fg (ua (ltK (K:=K) ‹rfl› ‹hu›) (Ja (ixK (K:=K) ‹rfl›) (pv 0) oa ‹λ_ _=>rfl›) oa ‹Aa _›) (ie (ua yk (Ja (ixK (K:=K) ‹rfl›) (pv 0) oa ‹λ_ _=>rfl›) (Nd ‹rfl› ‹T.kAf›) ‹Aa _›)))) (ka (xa kh)) Ca) (ja (Oa (ua (eqK (K:=K) ‹rfl› ‹hu›) (Ea (lenK (K:=K) ‹rfl›) ‹rfl› ‹T.kAa› pb (aa (pv 0) ia)) oa ‹Aa _›) (ka (xa (Bb (eqK (K:=K) ‹rfl› ‹hu›) (Ja (ixK (K:=K) ‹rfl›) (pv 0) oa ‹λ_ _=>rfl›) za ‹Aa _›))) Ca) (ka (xa (Zl (Bb (eqK (K:=K) ‹rfl› ‹hu›) (Ja (ixK (K:=K) ‹rfl›) (pv 0) oa ‹λ_ _=>rfl›) za ‹Aa _›) (Zl (Bb kn (Ja (ixK (K:=K) ‹rfl›) (pv 0) oa ‹λ_ _=>rfl›) oa ‹Aa _›) (Zl (Bb (leK (K:=K) ‹rfl› ‹hu›) (Ja (ixK (K:=K) ‹rfl›) (pv 0) oa ‹λ_ _=>rfl›) (Nd ‹rfl› ‹T.kAg›) ‹Aa _›) (Cr (Bb (inK (K:=K) ‹rfl›) (Ja (ixK (K:=K) ‹rfl›) (pv 0) oa ‹λ_ _=>rfl›) (af ‹rfl› ‹T.kAh›) ‹rfl›))))))))),?_⟩
   rw[show L2.start ["step"] [V.ref p]=[some (V.ref p)] from rfl];cases r with
   | lot n =>
    have hp':H p=some (.tup [.str "lot",.int n]):=hp;have ok':1<=n/\n<=60:=ok;left;refine Ba (λz=>by omega) (λ_=>?_);left;refine Ba (λz=>by omega) (λ_=>?_);left;refine Ba (λ_=>?_) (λz=>absurd rfl z);left;exact q
   | vote n nq w =>
    have hp':H p=some (.tup [.str "vote",.int n,.int nq,.str (wdS w)]):=hp;have ok':1<=n/\n<=60/\1<=nq/\nq<=500:=ok;left;refine Ba (λz=>by omega) (λ_=>?_);left;refine Ba (λz=>by omega) (λ_=>?_);left;refine Ba (λz=>absurd (show (4:Int)=2 from z) (by decide)) (λ_=>?_);left;refine Ba (λ_=>?_) (λz=>absurd rfl z);left;refine Ba (λ_=>?_) (λz=>by omega);left;refine Ba (λ_=>?_) (λz=>by omega);left;intro a ga;refine⟨a,_,rfl,.inr ga.sq,rfl,by decide,?_⟩;rw[show inV (.str (wdS w)) [V.str "council",V.str "bench",V.str "stay"]=true by cases w<;>decide];exact q
theorem vn{Cac Cab Caa:Addr}(T:Txt K mg Cac Cab Caa)(U:Up K mg "marks_in" yg ["roll","clans"]):Pg P w K mg base:=by
 have sc:=Pm;refine Callee.of (k:=0) U sc (λvs H Q E h=>?_) (λf cdv A outer s H vs Q E hr h=>?_)
 . obtain⟨a,b,ps,rl,cs,rfl,_⟩:=h;rfl
 . obtain⟨a,b,ps,rl,cs,rfl,R,hn,hb,q⟩:=h
   have hu:=hr.units;have hl:=R.ln;have ha:H a=some (.tup (ps.map V.ref)):=R.ls
   conv in (qa _)=>whnf
   with_reducible refine⟨_,(ka (xa (jf ["clans"] ["name","clan"] [1] (by with_unfolding_all rfl) ‹rfl› ‹rfl› (piTK (K:=K) ‹rfl› (pv 0)) (by decide) ‹rfl› (by decide) ‹⟨rfl,trivial⟩› (by with_unfolding_all rfl) (λ_=>‹⟨cap1 rfl rfl rfl rfl,trivial⟩›) (λ_ _ _ _=>(xi (K:=K) (n:=2) ‹rfl› ‹rfl› (Qa (Ga (i:=1) ‹show List.Nodup (["clans","name","clan"]:List Str) from by decide +kernel› ‹rfl› ‹Or.inl rfl› ‹.inr rfl›) (Qa (Ga (i:=2) ‹show List.Nodup (["clans","name","clan"]:List Str) from by decide +kernel› ‹rfl› ‹Or.inl rfl› ‹.inr rfl›) Kc)))) (λ_ _ _ _=>jc) (λ_ _ _ _=>(Bb (inK (K:=K) ‹rfl›) (pv 2) (pv 0) ‹rfl›))))),?_⟩
   rw[show L2.start ["roll","clans"] [V.ref a,V.ref b]=[some (V.ref a),some (V.ref b)] from rfl];left;refine Po (a:=a) (xs:=ps.map V.ref) [some (.ref b)] (λi ys H'=>H'=H/\ys=(rl.take i).map λq=>V.bl (decide (q.2∈cs))) rfl (by rw[List.length_map,sizeLine_eq];omega) ⟨rfl,rfl⟩ (λi ys H' _ h=>by obtain⟨e,_⟩:=h;subst e;exact SqT.of ha) (λi ys H' h=>by
    obtain⟨_,e⟩:=h;rw[e,List.length_map,List.length_take];omega) ?_ ?_
   . rintro i v ys z1 z2 H' hv ⟨rfl,rfl⟩
     obtain⟨p,r,rfl,hp,hr',hpo⟩:=R.get hv;have hpo':H' p=some (.tup [.str r.1,.str r.2]):=hpo;left;refine qw hb ?_;refine⟨⟨rfl,?_⟩,_,_,rfl⟩;rw[BR.Ka hr',List.map_append];rfl
   . rintro ys H' ⟨rfl,rfl⟩ D6 hD6
     rw[List.length_map,hl,List.take_length];exact q D6 _ hD6 ((Same.refl _).new hD6) da
theorem Ek{Cac Cab Caa:Addr}(T:Txt K mg Cac Cab Caa)(U:UpN K mg Caa "House" "House.__init__" Ce ["self"]):Ve P w K mg base Caa:=by
 have sc:=Xj;refine pd.of (k:=0) U sc (λvs H Q E h=>?_) (λf cdv A outer s H vs Q E hr h=>?_)
 . obtain⟨x,dx,rfl,_⟩:=h;rfl
 . obtain⟨x,dx,rfl,hx,q⟩:=h
   have hu:=hr.units
   conv in (qa _)=>whnf
   with_reducible refine⟨_,(ja (jh ‹T.f_kept› (pv 0) (pe_x1 (P:=P) (w:=w) (K:=K) ‹rfl› ‹rfl› ‹rfl› (L2.yd ‹hu›) (af ‹rfl› ‹T.kAe›) (Sa ia))) (ja (jh ‹T.f_past› (pv 0) (Hb ia)) (ka (jh ‹T.f_future› (pv 0) (Hb ia))))),?_⟩
   rw[show L2.start ["self"] [V.ref x]=[some (V.ref x)] from rfl];left;intro k hk;left;intro b gb;left;intro r hr1;have nk:k≠x:=(ba hx hk).symm;have nr:r≠k:=(ba (da (H:=H) (a:=k)) hr1).symm;have hr0:H r=none:=by rw[va nr]at hr1;exact hr1
   have nx:r≠x:=(ba hx hr0).symm;refine⟨b,kd,rfl,by rw[va nr.symm];exact da,gb.sq,?_⟩;have F1:Fr1 x H (upd (upd (upd H k (DX P w k [])) r (.tup [])) k (DX P w k [((kd,b),.ref r)])):=λa o e _=>by
    rw[va (ba e hk),va (ba e hr0),va (ba e hk)];exact e
   have x1:upd (upd (upd H k (DX P w k [])) r (.tup [])) k (DX P w k [((kd,b),.ref r)]) x=some (.ins Caa dx []):=by rw[va nk.symm,va nx.symm,va nk.symm];exact hx
   have k1:upd (upd (upd H k (DX P w k [])) r (.tup [])) k (DX P w k [((kd,b),.ref r)]) k=some (DX P w k [((kd,b),.ref r)]):=da;have r1:upd (upd (upd H k (DX P w k [])) r (.tup [])) k (DX P w k [((kd,b),.ref r)]) r=some (.tup []):=by rw[va nr];exact da
   generalize upd (upd (upd H k (DX P w k [])) r (.tup [])) k (DX P w k [((kd,b),.ref r)])=H1 at F1 x1 k1 r1 ⊢;left;refine wj x1 (show 0<1000 by decide) ?_;left;intro p hp;have npx:p≠x:=λz=>by subst z;rw[da]at hp;exact nomatch hp
   have hp1:H1 p=none:=by rw[va npx]at hp;exact hp
   have npk:p≠k:=(ba k1 hp1).symm;have npr:p≠r:=(ba r1 hp1).symm;have hp0:H p=none:=by
    cases e:H p with
    | none=>rfl
    | some o=>rw[F1 p o e npx]at hp1;exact nomatch hp1
   have x2:upd (upd H1 x (.ins Caa dx (putF "kept" (.ref k) []))) p (.lst []) x=some (.ins Caa dx (putF "kept" (.ref k) [])):=by rw[va npx.symm];exact da
   left;refine wj x2 few1 ?_;left;intro f hf;have F2:∀a o,H1 a=some o->a≠x->upd (upd (upd H1 x (.ins Caa dx (putF "kept" (.ref k) []))) p (.lst [])) x (.ins Caa dx (putF "past" (.ref p) (putF "kept" (.ref k) []))) a=some o:=λa o e n1=>by
    rw[va n1,va (ba e hp1),va n1];exact e
   have x3:upd (upd (upd H1 x (.ins Caa dx (putF "kept" (.ref k) []))) p (.lst [])) x (.ins Caa dx (putF "past" (.ref p) (putF "kept" (.ref k) []))) x=some (.ins Caa dx (putF "past" (.ref p) (putF "kept" (.ref k) []))):=da;have p3:upd (upd (upd H1 x (.ins Caa dx (putF "kept" (.ref k) []))) p (.lst [])) x (.ins Caa dx (putF "past" (.ref p) (putF "kept" (.ref k) []))) p=some (.lst []):=by rw[va npx,da]
   generalize upd (upd (upd H1 x (.ins Caa dx (putF "kept" (.ref k) []))) p (.lst [])) x (.ins Caa dx (putF "past" (.ref p) (putF "kept" (.ref k) [])))=H2 at F2 x3 p3 hf ⊢;have nfx:f≠x:=(ba x3 hf).symm;have x4:=La (o:=.lst []) nfx.symm x3;left;refine⟨x,dx,_,rfl,x4,few2,?_⟩;rw[mz];have F3:∀a o,H2 a=some o->a≠x->upd (upd H2 f (.lst [])) x (.ins Caa dx (houF k p f)) a=some o:=λa o e n1=>by
    rw[va n1,va (ba e hf)];exact e
   refine q _ k p b r hk hp0 (λa o e n1=>F3 a o (F2 a o (F1 a o e n1) n1) n1) ⟨dx,f,[],da,F3 _ _ (F2 _ _ k1 nk) nk,?_,F3 _ _ p3 npx,rfl⟩ (F3 _ _ (F2 _ _ r1 nx) nx);intro q' hq';obtain rfl:=List.mem_singleton.mp hq';exact gb.sq
theorem jm{Cac Cab Caa:Addr}(T:Txt K mg Cac Cab Caa)(U:UpM K Caa "put" "House.put" Ff ["self","key","thing"]):Xf P w K mg base Caa:=by
 have sc:=Pl;refine ya.of (k:=0) U sc (λvs H Q E h=>?_) (λf cdv A outer s H vs Q E hr h=>?_)
 . obtain⟨x,k,p,b,v,kvs,n,key,rfl,_⟩:=h;rfl
 . obtain⟨x,k,p,b,v,kvs,n,key,rfl,hh,hb,hl,q⟩:=h
   have hu:=hr.units;obtain⟨dx,f,past,h1,h2,h3,h4,h5⟩:=id hh.ex
   conv in (qa _)=>whnf
   with_reducible refine⟨_,(ka (Oa (ua Jr (pv 2) Ug ‹Aa _›) (ka Va) (ka (Tg (pv 2) (Zh (cb ‹T.f_kept› (pv 0)) (pv 1) (setXK (P:=P) (w:=w) (K:=K) ‹rfl› ‹rfl› ‹rfl› (L2.yd ‹hu›))))))),?_⟩
   rw[show L2.start ["self","key","thing"] [V.ref x,V.ref b,V.ref v]=[some (V.ref x),some (V.ref b),some (V.ref v)] from rfl];left;refine r_xset h2 h3 hb (by rw[sizeLine_eq];omega) ?_;exact q _ ((Fr1.refl k H).upd) (hh.put hb)
theorem yn{Cac Cab Caa:Addr}(T:Txt K mg Cac Cab Caa)(U:UpM K Caa "do" "House.do" zg ["self","deed","key","thing"])(Cb7:Xf P w K mg base Caa):Vb P w K mg base Caa:=by
 have sc:=Qm;refine ya.of (k:=1) U sc (λvs H Q E h=>?_) (λf cdv A outer s H vs Q E hr h=>?_)
 . obtain⟨x,k,p,d,b,v,kvs,n,key,rfl,_⟩:=h;rfl
 . obtain⟨x,k,p,d,b,v,kvs,n,key,rfl,hh,hb,hl,hn,q⟩:=h
   have hu:=hr.units;obtain⟨dx,f,past,h1,h2,h3,h4,h5⟩:=id hh.ex
   conv in (qa _)=>whnf
   with_reducible refine⟨_,(ja (Ta (Zm ‹PySem.F.plainAttrs_list› ‹PySem.F.slot_list_append› ‹PySem.F.type_list_append› ‹Bd› (cb ‹T.f_past› (pv 0)) (aa (Sa (aa (pv 1) (aa (pv 2) (aa (Mu (P:=P) (w:=w) (K:=K) ‹rfl› ‹rfl› ‹rfl› (L2.yd ‹hu›) (cb ‹T.f_kept› (pv 0)) (pv 2) ‹⟨rfl,rfl,rfl,rfl⟩›) (aa (pv 3) ia))))) ia))) (ja (jh ‹T.f_future› (pv 0) (Hb ia)) (ka (Ta (rb ‹Cb7› ‹hr.mono (by decide)› (pv 0) (aa (pv 2) (aa (pv 3) ia))))))),?_⟩
   rw[show L2.start ["self","deed","key","thing"] [V.ref x,V.ref d,V.ref b,V.ref v]=[some (V.ref x),some (V.ref d),some (V.ref b),some (V.ref v)] from rfl];left;refine Ux ?_;left;refine⟨k,kvs,rfl,h2,h3,?_⟩;left;refine⟨b,kvs,key,rfl,h2,h3,hb,?_⟩;left;intro c hc;have S1:=(Same.refl H).new (o:=.tup [.ref d,.ref b,(valX kvs key).getD .non,.ref v]) hc;generalize upd H c (.tup [.ref d,.ref b,(valX kvs key).getD .non,.ref v])=H1 at S1 ⊢;have hp1:=S1 _ _ h4;have hx1:=S1 _ _ h1;left;refine Md hp1 (by rw[h5,sizeLine_eq];omega) ?_;left;intro g hg;have npx:p≠x:=zc h4 h1 λz=>nomatch z;have hx2:upd (upd H1 p (.lst (past++[.ref c]))) g (.lst []) x=some (.ins Caa dx (houF k p f)):=by rw[va (ba (La npx.symm hx1) hg),va npx.symm];exact hx1
   left;refine wj hx2 (by show 3<1000;decide) ?_;rw[xv];obtain⟨hh2,F2⟩:=(hh.same S1).did hx1 hp1 S1 hg;generalize upd (upd (upd H1 p (.lst (past++[.ref c]))) g (.lst [])) x (.ins Caa dx (houF k p g))=H2 at hh2 F2 ⊢;obtain⟨dx2,f2,past2,h12,_⟩:=id hh2.ex;left;refine⟨x,k,p,b,v,kvs,n+1,key,rfl,hh2,hb.elim (λz=>.inl (z.elim (λz=>.inl (hh.keep F2 z (.tup _))) λ⟨o,z⟩=>.inr ⟨o,hh.keep F2 z (.frz _ _)⟩)) .inr,hl,λH3 F3 hh3=>?_⟩;exact q H3 (λa o e n1 n2 n3=>F3 a o (F2 a o e n1 n2 n3) n2) hh3
theorem qf{Cac Cab Caa:Addr}(T:Txt K mg Cac Cab Caa)(U:UpM K Caa "bound_clans" "House.bound_clans" Pb ["self","name"]):xb P w K mg base Caa:=by
 have sc:=gf;refine ya.of (k:=0) U sc (λvs H Q E h=>?_) (λf cdv A outer s H vs Q E hr h=>?_)
 . obtain⟨x,k,p,kvs,n,y,v,rfl,_⟩:=h;rfl
 . obtain⟨x,k,p,kvs,n,y,v,rfl,hh,hv,q⟩:=h
   have hu:=hr.units
   conv in (qa _)=>whnf
   with_reducible refine⟨_,(ja (Oa (ua (An (P:=P) (w:=w) (K:=K) ‹rfl› ‹rfl› ‹rfl› (L2.yd ‹hu›)) (Sa (aa za (aa (pv 1) ia))) (cb ‹T.f_kept› (pv 0)) ‹rfl›) (ka Va) Ca) (ka (xa (Eg (P:=P) (w:=w) (K:=K) ‹rfl› ‹rfl› ‹rfl› (L2.yd ‹hu›) (cb ‹T.f_kept› (pv 0)) (Sa (aa za (aa (pv 1) ia))) ‹λ_ _=>rfl›)))),?_⟩
   rw[show L2.start ["self","name"] [V.ref x,V.str y]=[some (V.ref x),some (V.str y)] from rfl];left;intro b hb;have S1:=(Same.refl H).new (o:=.tup [.str "league",.str y]) hb;have e1:upd H b (.tup [.str "league",.str y]) b=some (.tup (([.inr "league",.inr y]:List Key).map kV)):=da;generalize upd H b (.tup [.str "league",.str y])=H1 at S1 e1 ⊢;obtain⟨dx,f,past,h1,h2,h3,h4,h5⟩:=id (hh.same S1).ex;left;refine Tx h2 h3 (SqT.of e1) ?_;rw[hv];left;refine iteF ?_;left;intro b2 hb2;have S2:=S1.new (o:=.tup [.str "league",.str y]) hb2;have e2:upd H1 b2 (.tup [.str "league",.str y]) b2=some (.tup (([.inr "league",.inr y]:List Key).map kV)):=da;generalize upd H1 b2 (.tup [.str "league",.str y])=H2 at S2 e2 ⊢;obtain⟨dx,f,past,h1,h2,h3,h4,h5⟩:=id (hh.same S2).ex;refine vj h2 h3 (SqT.of e2) hv ?_;exact q _ S2
theorem Pf{Cac Cab Caa:Addr}(T:Txt K mg Cac Cab Caa)(U:UpM K Caa "laid_steps" "House.laid_steps" Xb ["self","name"]):fc P w K mg base Caa:=by
 have sc:=Bf;refine ya.of (k:=0) U sc (λvs H Q E h=>?_) (λf cdv A outer s H vs Q E hr h=>?_)
 . obtain⟨x,k,p,kvs,n,y,v,rfl,_⟩:=h;rfl
 . obtain⟨x,k,p,kvs,n,y,v,rfl,hh,hv,q⟩:=h
   have hu:=hr.units
   conv in (qa _)=>whnf
   with_reducible refine⟨_,(ja (Oa (ua (An (P:=P) (w:=w) (K:=K) ‹rfl› ‹rfl› ‹rfl› (L2.yd ‹hu›)) (Sa (aa za (aa (pv 1) ia))) (cb ‹T.f_kept› (pv 0)) ‹rfl›) (ka Va) Ca) (ka (xa (Eg (P:=P) (w:=w) (K:=K) ‹rfl› ‹rfl› ‹rfl› (L2.yd ‹hu›) (cb ‹T.f_kept› (pv 0)) (Sa (aa za (aa (pv 1) ia))) ‹λ_ _=>rfl›)))),?_⟩
   rw[show L2.start ["self","name"] [V.ref x,V.str y]=[some (V.ref x),some (V.str y)] from rfl];left;intro b hb;have S1:=(Same.refl H).new (o:=.tup [.str "row",.str y]) hb;have e1:upd H b (.tup [.str "row",.str y]) b=some (.tup (([.inr "row",.inr y]:List Key).map kV)):=da;generalize upd H b (.tup [.str "row",.str y])=H1 at S1 e1 ⊢;obtain⟨dx,f,past,h1,h2,h3,h4,h5⟩:=id (hh.same S1).ex;left;refine Tx h2 h3 (SqT.of e1) ?_;rw[hv];left;refine iteF ?_;left;intro b2 hb2;have S2:=S1.new (o:=.tup [.str "row",.str y]) hb2;have e2:upd H1 b2 (.tup [.str "row",.str y]) b2=some (.tup (([.inr "row",.inr y]:List Key).map kV)):=da;generalize upd H1 b2 (.tup [.str "row",.str y])=H2 at S2 e2 ⊢;obtain⟨dx,f,past,h1,h2,h3,h4,h5⟩:=id (hh.same S2).ex;refine vj h2 h3 (SqT.of e2) hv ?_;exact q _ S2
theorem oh{Cac Cab Caa:Addr}(T:Txt K mg Cac Cab Caa)(U:UpM K Caa "sitting" "House.sitting" Hc ["self","name"]):Na P w K mg base Caa:=by
 have sc:=fh;refine ya.of (k:=0) U sc (λvs H Q E h=>?_) (λf cdv A outer s H vs Q E hr h=>?_)
 . obtain⟨x,k,p,kvs,n,y,v,rfl,_⟩:=h;rfl
 . obtain⟨x,k,p,kvs,n,y,v,rfl,hh,hv,q⟩:=h
   have hu:=hr.units
   conv in (qa _)=>whnf
   with_reducible refine⟨_,(ja (Oa (ua (An (P:=P) (w:=w) (K:=K) ‹rfl› ‹rfl› ‹rfl› (L2.yd ‹hu›)) (Sa (aa za (aa (pv 1) ia))) (cb ‹T.f_kept› (pv 0)) ‹rfl›) (ka Va) Ca) (ka (xa (Eg (P:=P) (w:=w) (K:=K) ‹rfl› ‹rfl› ‹rfl› (L2.yd ‹hu›) (cb ‹T.f_kept› (pv 0)) (Sa (aa za (aa (pv 1) ia))) ‹λ_ _=>rfl›)))),?_⟩
   rw[show L2.start ["self","name"] [V.ref x,V.str y]=[some (V.ref x),some (V.str y)] from rfl];left;intro b hb;have S1:=(Same.refl H).new (o:=.tup [.str "sitting",.str y]) hb;have e1:upd H b (.tup [.str "sitting",.str y]) b=some (.tup (([.inr "sitting",.inr y]:List Key).map kV)):=da;generalize upd H b (.tup [.str "sitting",.str y])=H1 at S1 e1 ⊢;obtain⟨dx,f,past,h1,h2,h3,h4,h5⟩:=id (hh.same S1).ex;left;refine Tx h2 h3 (SqT.of e1) ?_;rw[hv];left;refine iteF ?_;left;intro b2 hb2;have S2:=S1.new (o:=.tup [.str "sitting",.str y]) hb2;have e2:upd H1 b2 (.tup [.str "sitting",.str y]) b2=some (.tup (([.inr "sitting",.inr y]:List Key).map kV)):=da;generalize upd H1 b2 (.tup [.str "sitting",.str y])=H2 at S2 e2 ⊢;obtain⟨dx,f,past,h1,h2,h3,h4,h5⟩:=id (hh.same S2).ex;refine vj h2 h3 (SqT.of e2) hv ?_;exact q _ S2
theorem ni{Cac Cab Caa:Addr}(T:Txt K mg Cac Cab Caa)(U:UpM K Caa "enroll" "House.enroll" jd ["self","name","clan"])(Cah:Ub P w K mg base)(Caf:Vb P w K mg base Caa):wd P w K mg base Caa:=by
 have sc:=Nh;refine ya.of (k:=2) U sc (λvs H Q E h=>?_) (λf cdv A outer s H vs Q E hr h=>?_)
 . obtain⟨x,k,p,kvs,n,y,c,r,ps,rl,rfl,_⟩:=h;rfl
 . obtain⟨x,k,p,kvs,n,y,c,r,ps,rl,rfl,hh,hl,hn,oy,oc,hv,R,hrl,ny,q⟩:=h
   have hu:=hr.units;have rln:=R.ln
   conv in (qa _)=>whnf
   with_reducible refine⟨_,(ja (Ta (pe_c ‹Cah› ‹hr.mono (by decide)› ‹rfl› (aa (Hb (aa (pv 1) (aa (pv 2) ia))) ia))) (ja (Ia (i:=3) ‹sc.nd› ‹rfl› ‹Or.inl rfl› (Eg (P:=P) (w:=w) (K:=K) ‹rfl› ‹rfl› ‹rfl› (L2.yd ‹hu›) (cb ‹T.f_kept› (pv 0)) (af ‹rfl› ‹T.kAe›) ‹λ_ _=>rfl›)) (ja (Oa (ua (inK (K:=K) ‹rfl›) (pv 1) (jf [] ["own","other"] [] (by with_unfolding_all rfl) ‹rfl› ‹rfl› (piTK (K:=K) ‹rfl› (pv 3)) (by decide) ‹rfl› (by decide) ‹trivial› (by with_unfolding_all rfl) (λ_=>‹trivial›) (λ_ _ _ _=>(xi (K:=K) (n:=2) ‹rfl› ‹rfl› (Qa (Ga (i:=0) ‹show List.Nodup (["own","other"]:List Str) from by decide +kernel› ‹rfl› ‹Or.inl rfl› ‹.inr rfl›) (Qa (Ga (i:=1) ‹show List.Nodup (["own","other"]:List Str) from by decide +kernel› ‹rfl› ‹Or.inl rfl› ‹.inr rfl›) Kc)))) (λ_ _ _ _=>jc) (λ_ _ _ _=>(pv 0))) ‹rfl›) (ka Va) Ca) (ja (Oa (ua kn (Ea (lenK (K:=K) ‹rfl›) ‹rfl› ‹T.kAa› pb (aa (pv 3) ia)) (Nd ‹rfl› ‹T.kAj›) ‹Aa _›) (ka Va) Ca) (ka (Ta (rb ‹Caf› ‹hr.mono (by decide)› (pv 0) (aa (Sa (aa za (aa (pv 1) (aa (pv 2) ia)))) (aa (af ‹rfl› ‹T.kAe›) (aa (Pa (addK (K:=K) ‹rfl›) (pv 3) (Sa (aa (Sa (aa (pv 1) (aa (pv 2) ia))) ia))) ia)))))))))),?_⟩
   rw[show L2.start ["self","name","clan","roll"] [V.ref x,V.str y,V.str c]=[some (V.ref x),some (V.str y),some (V.str c),none] from rfl];left;intro a ha;left;refine⟨a,[y,c],rfl,da,by show 2<512;decide,λz hz=>?_,λH1 s1=>?_⟩
   . rcases List.mem_cons.mp hz with rfl|hz
     . exact oy
     . obtain rfl:=List.mem_singleton.mp hz;exact oc
   have S1:=((Same.refl H).new ha).tr s1;obtain⟨dx,f,past,h1,h2,h3,h4,h5⟩:=id (hh.same S1).ex;have R1:=R.same S1;have hr1:H1 r=some (.tup (ps.map V.ref)):=R1.ls;left;intro b gb;refine vj h2 h3 (k:=kd) gb.sq hv ?_;left;refine Po (a:=r) (xs:=ps.map V.ref) [] (λi ys H'=>H'=H1/\ys=((rl.take i).map (·.1)).map V.str) rfl (by rw[List.length_map,sizeLine_eq];omega) ⟨rfl,rfl⟩ (λi ys H' _ h=>by obtain⟨e,_⟩:=h;subst e;exact SqT.of hr1) (λi ys H' h=>by
    obtain⟨_,e⟩:=h;rw[e,List.length_map,List.length_map,List.length_take];omega) ?_ ?_
   . rintro i v ys z1 z2 H' hv ⟨rfl,rfl⟩
     obtain⟨q',r',rfl,hp,hr',hpo⟩:=R1.get hv;have hpo':H' q'=some (.tup [.str r'.1,.str r'.2]):=hpo;left;refine⟨⟨rfl,?_⟩,_,_,rfl⟩;rw[BR.Ka hr',List.map_append,List.map_append];rfl
   . rintro ys H' ⟨rfl,rfl⟩ D6 hD6
     rw[List.length_map,rln,List.take_length];refine r_inSL (cs:=rl.map (·.1)) da ?_;rw[decide_eq_false ny];have S2:=S1.new (o:=.lst ((rl.map (·.1)).map V.str)) hD6;generalize upd H' D6 (.lst ((rl.map (·.1)).map V.str))=H2 at S2 ⊢;have R2:=R.same S2;have hr2:H2 r=some (.tup (ps.map V.ref)):=R2.ls;obtain⟨dx,f,past,h1,h2,h3,h4,h5⟩:=id (hh.same S2).ex;left;rw[List.length_map,rln];refine Ba (λz=>by omega) (λ_=>?_);left;intro d hd;have S3:=S2.new (o:=.tup [.str "enroll",.str y,.str c]) hd;generalize upd H2 d (.tup [.str "enroll",.str y,.str c])=H3 at S3 ⊢;left;intro b2 gb2;left;intro q1 hq1;have S4:=S3.new (o:=.tup [.str y,.str c]) hq1;have e4:upd H3 q1 (.tup [.str y,.str c]) q1=some (.tup [.str y,.str c]):=da;generalize upd H3 q1 (.tup [.str y,.str c])=H4 at S4 e4 ⊢;left;intro q2 hq2;have S5:=S4.new (o:=.tup [.ref q1]) hq2;have e5:upd H4 q2 (.tup [.ref q1]) q2=some (.tup [.ref q1]):=da;have e6:=La (o:=.tup [.ref q1]) (ba e4 hq2) e4;generalize upd H4 q2 (.tup [.ref q1])=H5 at S5 e5 e6 ⊢;refine Vm (S5 _ _ R.ls) e5 (by rw[List.length_map,List.length_singleton,sizeLine_eq];omega) λr2 H6 s6 e7=>?_;have S6:=S5.tr s6;left;refine⟨x,k,p,d,b2,r2,kvs,n,kd,rfl,hh.same S6,gb2.sq,hl,hn,λH7 F7 hh7=>?_⟩;refine q b2 r2 (ps++[q1]) H7 (λa o e n1 n2 n3=>F7 a o (S6 a o e) n1 n2 n3) hh7 ((hh.same S6).ts F7 (λ_=>.tup _) (R.snoc S6 e7 (s6 _ _ e6)))
theorem mi{Cac Cab Caa:Addr}(T:Txt K mg Cac Cab Caa)(U:UpM K Caa "league" "House.league" Zc ["self","name","clans"])(Cah:Ub P w K mg base)(Caf:Vb P w K mg base Caa):vd P w K mg base Caa:=by
 have sc:=Mh;refine ya.of (k:=2) U sc (λvs H Q E h=>?_) (λf cdv A outer s H vs Q E hr h=>?_)
 . obtain⟨x,k,p,a,kvs,n,y,c,rfl,_⟩:=h;rfl
 . obtain⟨x,k,p,a,kvs,n,y,c,rfl,hh,hl,hn,oy,oc,ha,q⟩:=h
   have hu:=hr.units
   conv in (qa _)=>whnf
   with_reducible refine⟨_,(ja (Ta (pe_c ‹Cah› ‹hr.mono (by decide)› ‹rfl› (aa (Pa (addK (K:=K) ‹rfl›) (Hb (aa (pv 1) ia)) (Ua (Hn (K:=K) ‹rfl›) ‹rfl› ‹T.kAd› Pe (aa (pv 2) ia))) ia))) (ka (Ta (rb ‹Caf› ‹hr.mono (by decide)› (pv 0) (aa (Sa (aa za (aa (pv 1) (aa (Ua (pj (K:=K) ‹rfl›) ‹rfl› ‹T.kAc› nc (aa (pv 2) ia)) ia)))) (aa (Sa (aa za (aa (pv 1) ia))) (aa (Ua (pj (K:=K) ‹rfl›) ‹rfl› ‹T.kAc› nc (aa (Ea (sortOK (w:=w) ‹rfl› ‹rfl›) ‹rfl› ‹T.kAz› Fi (aa (Ua (set1K (w:=w) (K:=K) ‹rfl› ‹rfl› ‹rfl›) ‹rfl› ‹T.b_set› bt_set (aa (pv 2) ia)) ia)) ia)) ia))))))),?_⟩
   rw[show L2.start ["self","name","clans"] [V.ref x,V.str y,V.ref a]=[some (V.ref x),some (V.str y),some (V.ref a)] from rfl];left;intro l1 hl1;have S1:=(Same.refl H).new (o:=.lst [.str y]) hl1;have e1:upd H l1 (.lst [.str y]) l1=some (.lst [.str y]):=da;generalize upd H l1 (.lst [.str y])=H1 at S1 e1 ⊢;have ha1:=S1 _ _ ha;left;refine jk (xs:=[.str c]) (SqL.of ha1) ?_;intro l2 hl2;have S2:=S1.new (o:=.lst [.str c]) hl2;have e2:upd H1 l2 (.lst [.str c]) l2=some (.lst [.str c]):=da;have e3:=La (o:=.lst [.str c]) (ba e1 hl2) e1;generalize upd H1 l2 (.lst [.str c])=H2 at S2 e2 e3 ⊢;refine Vh e3 e2 (by show 2<=sizeLine;rw[sizeLine_eq];decide) λl3 hl3=>?_;have s3:=S2.new (o:=.lst ([.str y]++[.str c])) hl3;left;refine⟨l3,[y,c],rfl,da,by show 2<512;decide,λz hz=>?_,λH4 s4=>?_⟩
   . rcases List.mem_cons.mp hz with rfl|hz
     . exact oy
     . obtain rfl:=List.mem_singleton.mp hz;exact oc
   have S4:=s3.tr s4;obtain⟨dx,f,past,h1,h2,h3,h4,h5⟩:=id (hh.same S4).ex;have ha4:=S4 _ _ ha;left;refine Ye ha4 ?_;intro t1 ht1;have S5:=S4.new (o:=.tup [.str c]) ht1;generalize upd H4 t1 (.tup [.str c])=H5 at S5 ⊢;left;intro d hd;have S6:=S5.new (o:=.tup [.str "league",.str y,.ref t1]) hd;generalize upd H5 d (.tup [.str "league",.str y,.ref t1])=H6 at S6 ⊢;left;intro b hb;have S7:=S6.new (o:=.tup [.str "league",.str y]) hb;have e7:upd H6 b (.tup [.str "league",.str y]) b=some (.tup (([.inr "league",.inr y]:List Key).map kV)):=da;generalize upd H6 b (.tup [.str "league",.str y])=H7 at S7 e7 ⊢;have ha7:=S7 _ _ ha;left;refine⟨a,c,rfl,SqL.of ha7,λu1 hu1=>?_⟩;have S8:=S7.new (o:=SetO w u1 c) hu1;have e8:upd H7 u1 (SetO w u1 c) u1=some (SetO w u1 c):=da;have e9:=La (o:=SetO w u1 c) (ba e7 hu1) e7;generalize upd H7 u1 (SetO w u1 c)=H8 at S8 e8 e9 ⊢;left;refine⟨u1,c,rfl,e8,λu2 hu2=>?_⟩;have S9:=S8.new (o:=.lst [.str c]) hu2;have e10:=La (o:=.lst [.str c]) (ba e9 hu2) e9;have e11:upd H8 u2 (.lst [.str c]) u2=some (.lst [.str c]):=da;generalize upd H8 u2 (.lst [.str c])=H9 at S9 e10 e11 ⊢;left;refine Ye e11 ?_;intro v hv;have S10:=S9.new (o:=.tup [.str c]) hv;have e12:=La (o:=.tup [.str c]) (ba e10 hv) e10;have e13:upd H9 v (.tup [.str c]) v=some (.tup [.str c]):=da;generalize upd H9 v (.tup [.str c])=H10 at S10 e12 e13 ⊢;left;refine⟨x,k,p,d,b,v,kvs,n,[.inr "league",.inr y],rfl,hh.same S10,SqT.of e12,hl,hn,λH11 F11 hh11=>?_⟩;exact q b v H11 (λa o e n1 n2 n3=>F11 a o (S10 a o e) n1 n2 n3) hh11 ((hh.same S10).keep F11 e13 (.tup _))
theorem km{Cac Cab Caa:Addr}(T:Txt K mg Cac Cab Caa)(U:UpM K Caa "lay" "House.lay" Gf ["self","name","row"])(Cah:Ub P w K mg base)(Cbh:Ji P w K mg base)(Caf:Vb P w K mg base Caa):Yf P w K mg base Caa:=by
 have sc:=Ql;refine ya.of (k:=2) U sc (λvs H Q E h=>?_) (λf cdv A outer s H vs Q E hr h=>?_)
 . obtain⟨x,k,p,a,kvs,n,y,ps,rs,rfl,_⟩:=h;rfl
 . obtain⟨x,k,p,a,kvs,n,y,ps,rs,rfl,hh,hl,hn,oy,R,hln,mr,q⟩:=h
   have hu:=hr.units;have rln:=R.ln
   conv in (qa _)=>whnf
   with_reducible refine⟨_,(ja (Ta (pe_c ‹Cah› ‹hr.mono (by decide)› ‹rfl› (aa (Hb (aa (pv 1) ia)) ia))) (ja (Oa (ua yk (Ea (lenK (K:=K) ‹rfl›) ‹rfl› ‹T.kAa› pb (aa (pv 2) ia)) (Nd ‹rfl› ‹T.kAi›) ‹Aa _›) (ka Va) Ca) (ja (zd PassesOwn.never ‹rfl› (Gy ‹rfl› ‹T.kAl› (aa (pv 2) ia)) (xi (K:=K) (n:=2) ‹rfl› ‹rfl› (Qa (Ga (i:=3) ‹sc.nd› ‹rfl› ‹Or.inl rfl›) (Qa (Ga (i:=4) ‹sc.nd› ‹rfl› ‹Or.inl rfl›) Kc))) (ka (Oa (Ul (truK (K:=K) ‹rfl› (pe_c ‹Cbh› ‹hr.mono (by decide)› ‹rfl› (aa (pv 4) ia)))) (ka Va) Ca))) (ja (Ia (i:=5) ‹sc.nd› ‹rfl› ‹Or.inl rfl› (Ua (pj (K:=K) ‹rfl›) ‹rfl› ‹T.kAc› nc (aa (jf [] ["step"] [] (by with_unfolding_all rfl) ‹rfl› ‹rfl› (piLK (K:=K) ‹rfl› (pv 2)) (by decide) ‹rfl› (by decide) ‹trivial› (by with_unfolding_all rfl) (λ_=>‹trivial›) (λ_ _ _ _=>(Ga (i:=0) ‹show List.Nodup (["step"]:List Str) from by decide +kernel› ‹rfl› ‹Or.inl rfl› ‹.inr rfl›)) (λ_ _ _ _=>jc) (λ_ _ _ _=>(Ua (tupBK (K:=K) ‹rfl›) ‹rfl› ‹T.kAc› nc (aa (pv 0) ia)))) ia))) (ka (Ta (rb ‹Caf› ‹hr.mono (by decide)› (pv 0) (aa (Sa (aa za (aa (pv 1) (aa (pv 5) ia)))) (aa (Sa (aa za (aa (pv 1) ia))) (aa (pv 5) ia)))))))))),?_⟩
   rw[show L2.start ["self","name","row","at","step","steps"] [V.ref x,V.str y,V.ref a]=[some (V.ref x),some (V.str y),some (V.ref a),none,none,none] from rfl];left;intro l1 hl1;left;refine⟨l1,[y],rfl,da,by show 1<512;decide,λz hz=>by obtain rfl:=List.mem_singleton.mp hz;exact oy,λH1 s1=>?_⟩;have S1:=((Same.refl H).new hl1).tr s1;have R1:=R.same S1;have ha1:H1 a=some (.lst (ps.map V.ref)):=R1.ls;left;rw[List.length_map,rln];refine Ba (λz=>by omega) (λ_=>?_);left;refine forE (a:=a) (xs:=ps.map V.ref) (λi σ' H'=>Same H1 H'/\∃z1 z2,σ'=[some (.ref x),some (.str y),some (.ref a),z1,z2,none]) ⟨Same.refl _,_,_,rfl⟩ (λi σ' H' _ h=>h.1 _ _ ha1) ?_ ?_
   . rintro i v σ' H' T hv ⟨s2,z1,z2,rfl⟩ hT
     obtain⟨q',r,rfl,hp,hr',hpo⟩:=R1.get hv;have hpo':=La (o:=.tup [.int (i:Int),.ref q']) (ba (s2 _ _ hpo) hT) (s2 _ _ hpo);have s3:=s2.new (o:=.tup [.int (i:Int),.ref q']) hT;left;refine⟨q',r,rfl,hpo',mr r (List.mem_of_getElem? hr'),?_⟩;left;exact⟨s3,_,_,rfl⟩
   . rintro σ' H2 ⟨s2,z1,z2,rfl⟩
     have S2:=S1.tr s2;have R2:=R.same S2;have ha2:H2 a=some (.lst (ps.map V.ref)):=R2.ls;left;refine jt (a:=a) (xs:=ps.map V.ref) [] (λi ys H'=>H'=H2/\ys=(ps.take i).map V.ref) rfl (by rw[List.length_map,sizeLine_eq];omega) ⟨rfl,rfl⟩ (λi ys H' _ h=>by obtain⟨e,_⟩:=h;subst e;exact SqL.of ha2) (λi ys H' h=>by
      obtain⟨_,e⟩:=h;rw[e,List.length_map,List.length_take];omega) ?_ ?_
     . rintro i v ys zz H' hv ⟨rfl,rfl⟩
       obtain⟨q',r,rfl,hp,hr',hpo⟩:=R2.get hv;obtain⟨xs,ex⟩:=Fe r;rw[ex]at hpo;left;refine Tq hpo ?_;refine⟨⟨rfl,?_⟩,_,rfl⟩;rw[BR.Ka hp,List.map_append];rfl
     . rintro ys H' ⟨rfl,rfl⟩ D6 hD6
       rw[List.length_map,List.take_length];have S3:=S2.new (o:=.lst (ps.map V.ref)) hD6;have e3:upd H' D6 (.lst (ps.map V.ref)) D6=some (.lst (ps.map V.ref)):=da;generalize upd H' D6 (.lst (ps.map V.ref))=H3 at S3 e3 ⊢;left;refine Ye e3 ?_;intro v hv;have S4:=S3.new (o:=.tup (ps.map V.ref)) hv;have e4:upd H3 v (.tup (ps.map V.ref)) v=some (.tup (ps.map V.ref)):=da;generalize upd H3 v (.tup (ps.map V.ref))=H4 at S4 e4 ⊢;obtain⟨dx,f,past,h1,h2,h3,h4,h5⟩:=id (hh.same S4).ex;left;intro d hd;have S5:=S4.new (o:=.tup [.str "lay",.str y,.ref v]) hd;have e5:=La (o:=.tup [.str "lay",.str y,.ref v]) (ba e4 hd) e4;generalize upd H4 d (.tup [.str "lay",.str y,.ref v])=H5 at S5 e5 ⊢;left;intro b hb;have S6:=S5.new (o:=.tup [.str "row",.str y]) hb;have e6:=La (o:=.tup [.str "row",.str y]) (ba e5 hb) e5;have e7:upd H5 b (.tup [.str "row",.str y]) b=some (.tup (([.inr "row",.inr y]:List Key).map kV)):=da;generalize upd H5 b (.tup [.str "row",.str y])=H6 at S6 e6 e7 ⊢;left;refine⟨x,k,p,d,b,v,kvs,n,[.inr "row",.inr y],rfl,hh.same S6,SqT.of e7,hl,hn,λH7 F7 hh7=>?_⟩;exact q b v ps H7 (λa o e n1 n2 n3=>F7 a o (S6 a o e) n1 n2 n3) hh7 ((hh.same S6).ts F7 dg ⟨e6,(R.same S6).it,R.ln⟩)
theorem dj{Cac Cab Caa:Addr}(T:Txt K mg Cac Cab Caa)(U:UpM K Caa "begin" "House.begin" Ld ["self","name","row","league"])(Cax:Rc P w K mg base)(Cbi:Te P w K mg base Cac)(Cai:zb P w K mg base Cab)(Cah:Ub P w K mg base)(Cb4:Pg P w K mg base)(Caf:Vb P w K mg base Caa)(Car:xb P w K mg base Caa)(Cbu:fc P w K mg base Caa):de P w K mg base Caa Cab Cac:=by
 have sc:=Wi;refine ya.of (k:=6) U sc (λvs H Q E h=>?_) (λf cdv A outer s H vs Q E hr h=>?_)
 . obtain⟨x,k,p,kvs,n,y,yr,yl,r,rw',lg,ps,qs,rl,rs,cs,rfl,_⟩:=h;rfl
 . obtain⟨x,k,p,kvs,n,y,yr,yl,r,rw',lg,ps,qs,rl,rs,cs,rfl,hh,hl,hn,oy,v0,v1,R1,v2,R2,v3,R3,c1,c2,ft,hw,hln,q⟩:=h
   have hu:=hr.units;have rln:=R3.ln
   conv in (qa _)=>whnf
   with_reducible refine⟨_,(ja (Ta (pe_c ‹Cah› ‹hr.mono (by decide)› ‹rfl› (aa (Hb (aa (pv 1) ia)) ia))) (ja (Oa (ua (inXK (P:=P) (w:=w) (K:=K) ‹rfl› ‹rfl› ‹rfl› (L2.yd ‹hu›)) (Sa (aa za (aa (pv 1) ia))) (cb ‹T.f_kept› (pv 0)) ‹rfl›) (ka Va) Ca) (ja (Ia (i:=4) ‹sc.nd› ‹rfl› ‹Or.inl rfl› (rb ‹Cbu› ‹hr.mono (by decide)› (pv 0) (aa (pv 2) ia))) (ja (Ia (i:=5) ‹sc.nd› ‹rfl› ‹Or.inl rfl› (rb ‹Car› ‹hr.mono (by decide)› (pv 0) (aa (pv 3) ia))) (ja (Ia (i:=6) ‹sc.nd› ‹rfl› ‹Or.inl rfl› (Eg (P:=P) (w:=w) (K:=K) ‹rfl› ‹rfl› ‹rfl› (L2.yd ‹hu›) (cb ‹T.f_kept› (pv 0)) (af ‹rfl› ‹T.kAe›) ‹λ_ _=>rfl›)) (ja (Ta (pe_c ‹Cax› ‹hr.mono (by decide)› ‹rfl› (aa (Ea (lenK (K:=K) ‹rfl›) ‹rfl› ‹T.kAa› pb (aa (pv 6) ia)) (aa (pv 4) ia)))) (ja (Ia (i:=7) ‹sc.nd› ‹rfl› ‹Or.inl rfl› (Hr ‹Cbi› ‹hr.mono (by decide)› ‹rfl› (aa (jf [] ["own","clan"] [] (by with_unfolding_all rfl) ‹rfl› ‹rfl› (piTK (K:=K) ‹rfl› (pv 6)) (by decide) ‹rfl› (by decide) ‹trivial› (by with_unfolding_all rfl) (λ_=>‹trivial›) (λ_ _ _ _=>(xi (K:=K) (n:=2) ‹rfl› ‹rfl› (Qa (Ga (i:=0) ‹show List.Nodup (["own","clan"]:List Str) from by decide +kernel› ‹rfl› ‹Or.inl rfl› ‹.inr rfl›) (Qa (Ga (i:=1) ‹show List.Nodup (["own","clan"]:List Str) from by decide +kernel› ‹rfl› ‹Or.inl rfl› ‹.inr rfl›) Kc)))) (λ_ _ _ _=>jc) (λ_ _ _ _=>(pv 0))) (aa (pe_c ‹Cb4› ‹hr.mono (by decide)› ‹rfl› (aa (pv 6) (aa (pv 5) ia))) (aa (pv 4) ia))))) (ka (Ta (rb ‹Caf› ‹hr.mono (by decide)› (pv 0) (aa (Sa (aa za (aa (pv 1) (aa (pv 2) (aa (pv 3) ia))))) (aa (Sa (aa za (aa (pv 1) ia))) (aa (Hr ‹Cai› ‹hr.mono (by decide)› ‹rfl› (aa (pv 7) (aa (Sa ia) (aa (Sa ia) (aa kh ia))))) ia))))))))))))),?_⟩
   rw[show L2.start ["self","name","row","league","steps","clans","roll","terms"] [V.ref x,V.str y,V.str yr,V.str yl]=[some (V.ref x),some (V.str y),some (V.str yr),some (V.str yl),none,none,none,none] from rfl];left;intro l1 hl1;left;refine⟨l1,[y],rfl,da,by show 1<512;decide,λz hz=>by obtain rfl:=List.mem_singleton.mp hz;exact oy,λH1 s1=>?_⟩;have S1:=((Same.refl H).new hl1).tr s1;left;intro b1 hb1;have S2:=S1.new (o:=.tup [.str "sitting",.str y]) hb1;have e2:upd H1 b1 (.tup [.str "sitting",.str y]) b1=some (.tup (([.inr "sitting",.inr y]:List Key).map kV)):=da;generalize upd H1 b1 (.tup [.str "sitting",.str y])=H2 at S2 e2 ⊢;obtain⟨dx,f,past,h1,h2,h3,h4,h5⟩:=id (hh.same S2).ex;left;refine r_xin h2 h3 (SqT.of e2) ?_;rw[v0];left;refine iteF ?_;left;refine⟨x,k,p,kvs,n,yr,.ref rw',rfl,hh.same S2,v1,λH3 s3=>?_⟩;have S3:=S2.tr s3;obtain⟨dx,f,past,h1,h2,h3,h4,h5⟩:=id (hh.same S3).ex;left;refine⟨x,k,p,kvs,n,yl,.ref lg,rfl,hh.same S3,v2,λH4 s4=>?_⟩;have S4:=S3.tr s4;obtain⟨dx,f,past,h1,h2,h3,h4,h5⟩:=id (hh.same S4).ex;left;intro b2 gb2;refine vj h2 h3 (k:=kd) gb2.sq v3 ?_;have hr4:H4 r=some (.tup (ps.map V.ref)):=S4 _ _ R3.ls;left;rw[List.length_map,rln];refine rj (k:=false) ⟨R1.same S4,c1,by omega,ft,by omega⟩ hw λH5 s5=>?_;have S5:=S4.tr s5;have R5:=R3.same S5;have hr5:H5 r=some (.tup (ps.map V.ref)):=R5.ls;left;refine Po (a:=r) (xs:=ps.map V.ref) [] (λi ys H'=>H'=H5/\ys=(rl.take i).map λq=>V.str q.1) rfl (by rw[List.length_map,sizeLine_eq];omega) ⟨rfl,rfl⟩ (λi ys H' _ h=>by obtain⟨e,_⟩:=h;subst e;exact SqT.of hr5) (λi ys H' h=>by
    obtain⟨_,e⟩:=h;rw[e,List.length_map,List.length_take];omega) ?_ ?_
   . rintro i v ys z1 z2 H' hv ⟨rfl,rfl⟩
     obtain⟨q',r',rfl,hp,hr',hpo⟩:=R5.get hv;have hpo':H' q'=some (.tup [.str r'.1,.str r'.2]):=hpo;left;refine⟨⟨rfl,?_⟩,_,_,rfl⟩;rw[BR.Ka hr',List.map_append];rfl
   . rintro ys H' ⟨rfl,rfl⟩ nl hnl
     rw[List.length_map,rln,List.take_length];have S6:=S5.new (o:=.lst (rl.map λq=>V.str q.1)) hnl;have e6:upd H' nl (.lst (rl.map λq=>V.str q.1)) nl=some (.lst (rl.map λq=>V.str q.1)):=da;generalize upd H' nl (.lst (rl.map λq=>V.str q.1))=H6 at S6 e6 ⊢;left;refine⟨r,lg,ps,rl,cs,rfl,R3.same S6,by omega,S6 _ _ R2,λml H7 hml s7 e7=>?_⟩;have S7:=S6.tr s7;have e8:=s7 _ _ e6;left;intro tx dt htx hdt ndt;have S8:Same H (upd (upd H7 dt (.own tx)) tx (.ins Cac dt [])):=λa o e=>by
      rw[va (ba (S7 a o e) htx),va (ba (S7 a o e) hdt)];exact S7 a o e
     have m8:∀a o,H7 a=some o->upd (upd H7 dt (.own tx)) tx (.ins Cac dt []) a=some o:=λa o e=>by
      rw[va (ba e htx),va (ba e hdt)];exact e
     refine⟨tx,dt,nl,ml,rw',bgTD rl cs qs rs,rfl,da,?_,?_,R1.same S8,(ba e8 htx).symm,(ba e7 htx).symm,(ba (R1.same S7).ls htx).symm,λH9 F9 T9=>⟨rfl,?_⟩⟩
     . rw[m8 _ _ e8]
       exact congrArg (λz=>some (HO.lst z)) (vf rl ("","") λq=>V.str q.1).symm
     . rw[m8 _ _ e7]
       exact congrArg (λz=>some (HO.lst z)) (vf rl ("","") λq=>V.bl (decide (q.2∈cs))).symm
     have S9:Same H H9:=λa o e=>F9 a o (S8 a o e) (ba (S7 a o e) htx);obtain⟨dx,f,past,h1,h2,h3,h4,h5⟩:=id (hh.same S9).ex;left;intro d hd;have S10:=S9.new (o:=.tup [.str "begin",.str y,.str yr,.str yl]) hd;have T10:=T9.same ((Same.refl H9).new (o:=.tup [.str "begin",.str y,.str yr,.str yl]) hd);generalize upd H9 d (.tup [.str "begin",.str y,.str yr,.str yl])=H10 at S10 T10 ⊢;left;intro b hb;have S11:=S10.new (o:=.tup [.str "sitting",.str y]) hb;have T11:=T10.same ((Same.refl H10).new (o:=.tup [.str "sitting",.str y]) hb);have e11:upd H10 b (.tup [.str "sitting",.str y]) b=some (.tup (([.inr "sitting",.inr y]:List Key).map kV)):=da;generalize upd H10 b (.tup [.str "sitting",.str y])=H11 at S11 T11 e11 ⊢;left;intro o1 ho1;have S12:=(Same.refl H11).new (o:=.tup []) ho1;have e12:upd H11 o1 (.tup []) o1=some (.tup []):=da;generalize upd H11 o1 (.tup [])=H12 at S12 e12 ⊢;left;intro o2 ho2;have S13:=S12.new (o:=.tup []) ho2;have e13:upd H12 o2 (.tup []) o2=some (.tup []):=da;have e14:=La (o:=.tup []) (ba e12 ho2) e12;generalize upd H12 o2 (.tup [])=H13 at S13 e13 e14 ⊢;left;intro sx ds hsx hds nds;refine⟨sx,ds,tx,o1,o2,false,rfl,da,λH14 F14 e15=>⟨rfl,?_⟩⟩;have S14:=Dd S13 hsx hds F14;have S14':=Dd (Same.refl H13) hsx hds F14;left;have hh14:=hh.same (S11.tr S14);refine⟨x,k,p,d,b,sx,kvs,n,[.inr "sitting",.inr y],rfl,hh14,SqT.of (S14 _ _ e11),hl,hn,λH15 F15 hh15=>?_⟩;refine q b sx H15 (λa o e n1 n2 n3=>F15 a o (S11.tr S14 a o e) n1 n2 n3) hh15 (hh14.sit F15 c2 ⟨ds,tx,o1,o2,e15,T11.same S14,⟨S14' _ _ e14,λi q hq=>by simp at hq,rfl⟩,S14' _ _ e13⟩)
theorem Hk{Cac Cab Caa:Addr}(T:Txt K mg Cac Cab Caa)(U:UpM K Caa "draw" "House.draw" Ee ["self","name","person"])(Cbc:Jb P w K mg base Cab Cac)(Caf:Vb P w K mg base Caa)(Cae:Na P w K mg base Caa):Xe P w K mg base Caa Cab Cac:=by
 have sc:=Zj;refine ya.of (k:=5) U sc (λvs H Q E h=>?_) (λf cdv A outer s H vs Q E hr h=>?_)
 . obtain⟨x,k,p,kvs,n,y,sx,D,os,ls,bs,hg,r,a,rfl,_⟩:=h;rfl
 . obtain⟨x,k,p,kvs,n,y,sx,D,os,ls,bs,hg,r,a,rfl,B,hl,hn,hd,e1,ha,hb,q1,q2⟩:=h
   have hu:=hr.units;obtain⟨dx,f,past,h1,_⟩:=id B.ho.ex
   conv in (qa _)=>whnf
   with_reducible refine⟨_,(ka (Ta (rb ‹Caf› ‹hr.mono (by decide)› (pv 0) (aa (Sa (aa za (aa (pv 1) (aa (pv 2) ia)))) (aa (Sa (aa za (aa (pv 1) ia))) (aa (rb ‹Cbc› ‹hr.mono (by decide)› (rb ‹Cae› ‹hr.mono (by decide)› (pv 0) (aa (pv 1) ia)) (aa (pv 2) ia)) ia)))))),?_⟩
   rw[show L2.start ["self","name","person"] [V.ref x,V.str y,V.str (D.nm a)]=[some (V.ref x),some (V.str y),some (V.str (D.nm a))] from rfl];left;intro d hd1;have S1:=(Same.refl H).new (o:=.tup [.str "draw",.str y,.str (D.nm a)]) hd1;generalize upd H d (.tup [.str "draw",.str y,.str (D.nm a)])=H1 at S1 ⊢;left;intro b hb1;have S2:=S1.new (o:=.tup [.str "sitting",.str y]) hb1;have e2:upd H1 b (.tup [.str "sitting",.str y]) b=some (.tup (([.inr "sitting",.inr y]:List Key).map kV)):=da;generalize upd H1 b (.tup [.str "sitting",.str y])=H2 at S2 e2 ⊢;have hx2:=S2 _ _ h1;left;refine⟨x,k,p,kvs,n,y,.ref sx,rfl,B.ho.same S2,B.v,λH3 s3=>?_⟩;have S3:=S2.tr s3;obtain⟨dy,t,o,b',h1',_⟩:=id (B.st.same S3).ex;left;refine⟨sx,D,os,ls,bs,hg,r,a,rfl,B.st.same S3,B.gd,hd,e1,ha,hb,λhne v H4 os' s4 S4'=>?_,λhe z pz sz v H4 os' s4 S4'=>?_⟩
   . have S4:=S3.tr s4
     left;refine⟨x,k,p,d,b,v,kvs,n,[.inr "sitting",.inr y],rfl,B.ho.same S4,SqT.of (s4 _ _ (s3 _ _ e2)),hl,hn,λH5 F5 hh5=>?_⟩;exact q1 hne b v H5 os' (λa o e n1 n2 n3=>F5 a o (S4 a o e) n1 n2 n3) hh5 ((B.ho.same S4).sit F5 B.gd.c2 S4')
   . have S4:=S3.tr s4
     left;refine⟨x,k,p,d,b,v,kvs,n,[.inr "sitting",.inr y],rfl,B.ho.same S4,SqT.of (s4 _ _ (s3 _ _ e2)),hl,hn,λH5 F5 hh5=>?_⟩;exact q2 he z pz sz b v H5 os' (λa o e n1 n2 n3=>F5 a o (S4 a o e) n1 n2 n3) hh5 ((B.ho.same S4).sit F5 B.gd.c2 S4')
theorem Dk{Cac Cab Caa:Addr}(T:Txt K mg Cac Cab Caa)(U:UpM K Caa "poll" "House.poll" Be ["self","name"])(Cbz:Ib P w K mg base Cab Cac)(Caf:Vb P w K mg base Caa)(Cae:Na P w K mg base Caa):Ue P w K mg base Caa Cab Cac:=by
 have sc:=Wj;refine ya.of (k:=4) U sc (λvs H Q E h=>?_) (λf cdv A outer s H vs Q E hr h=>?_)
 . obtain⟨x,k,p,kvs,n,y,sx,D,os,ls,bs,hg,r,rfl,_⟩:=h;rfl
 . obtain⟨x,k,p,kvs,n,y,sx,D,os,ls,bs,hg,r,rfl,B,hl,hn,hd,e1,q1,q2⟩:=h
   have hu:=hr.units;obtain⟨dx,f,past,h1,_⟩:=id B.ho.ex
   conv in (qa _)=>whnf
   with_reducible refine⟨_,(ka (Ta (rb ‹Caf› ‹hr.mono (by decide)› (pv 0) (aa (Sa (aa za (aa (pv 1) ia))) (aa (Sa (aa za (aa (pv 1) ia))) (aa (Lb ‹Cbz› ‹hr.mono (by decide)› (rb ‹Cae› ‹hr.mono (by decide)› (pv 0) (aa (pv 1) ia))) ia)))))),?_⟩
   rw[show L2.start ["self","name"] [V.ref x,V.str y]=[some (V.ref x),some (V.str y)] from rfl];left;intro d hd1;have S1:=(Same.refl H).new (o:=.tup [.str "poll",.str y]) hd1;generalize upd H d (.tup [.str "poll",.str y])=H1 at S1 ⊢;left;intro b hb1;have S2:=S1.new (o:=.tup [.str "sitting",.str y]) hb1;have e2:upd H1 b (.tup [.str "sitting",.str y]) b=some (.tup (([.inr "sitting",.inr y]:List Key).map kV)):=da;generalize upd H1 b (.tup [.str "sitting",.str y])=H2 at S2 e2 ⊢;have hx2:=S2 _ _ h1;left;refine⟨x,k,p,kvs,n,y,.ref sx,rfl,B.ho.same S2,B.v,λH3 s3=>?_⟩;have S3:=S2.tr s3;obtain⟨dy,t,o,b',h1',_⟩:=id (B.st.same S3).ex;left;refine⟨sx,D,os,ls,bs,hg,r,rfl,B.st.same S3,B.gd,hd,e1,λhne v H4 os' s4 S4'=>?_,λz hz v H4 os' s4 S4'=>?_⟩
   . have S4:=S3.tr s4
     left;refine⟨x,k,p,d,b,v,kvs,n,[.inr "sitting",.inr y],rfl,B.ho.same S4,SqT.of (s4 _ _ (s3 _ _ e2)),hl,hn,λH5 F5 hh5=>?_⟩;exact q1 hne b v H5 os' (λa o e n1 n2 n3=>F5 a o (S4 a o e) n1 n2 n3) hh5 ((B.ho.same S4).sit F5 B.gd.c2 S4')
   . have S4:=S3.tr s4
     left;refine⟨x,k,p,d,b,v,kvs,n,[.inr "sitting",.inr y],rfl,B.ho.same S4,SqT.of (s4 _ _ (s3 _ _ e2)),hl,hn,λH5 F5 hh5=>?_⟩;exact q2 z hz b v H5 os' (λa o e n1 n2 n3=>F5 a o (S4 a o e) n1 n2 n3) hh5 ((B.ho.same S4).sit F5 B.gd.c2 S4')
theorem ph{Cac Cab Caa:Addr}(T:Txt K mg Cac Cab Caa)(U:UpM K Caa "friends" "House.friends" Ic ["self","name"])(Car:xb P w K mg base Caa):Pc P w K mg base Caa:=by
 have sc:=gh;refine ya.of (k:=1) U sc (λvs H Q E h=>?_) (λf cdv A outer s H vs Q E hr h=>?_)
 . obtain⟨x,k,p,kvs,n,y,r,lg,ps,rl,cs,rfl,_⟩:=h;rfl
 . obtain⟨x,k,p,kvs,n,y,r,lg,ps,rl,cs,rfl,hh,v2,R2,v3,R3,c2,q⟩:=h
   have hu:=hr.units;have rln:=R3.ln;obtain⟨dx,f,past,h1,_⟩:=id hh.ex
   conv in (qa _)=>whnf
   with_reducible refine⟨_,(ja (Ia (i:=2) ‹sc.nd› ‹rfl› ‹Or.inr rfl› (rb ‹Car› ‹hr.mono (by decide)› (pv 0) (aa (pv 1) ia))) (ka (xa (jf ["clans"] ["own","clan"] [2] (by with_unfolding_all rfl) ‹rfl› ‹rfl› (piTK (K:=K) ‹rfl› (Eg (P:=P) (w:=w) (K:=K) ‹rfl› ‹rfl› ‹rfl› (L2.yd ‹hu›) (cb ‹T.f_kept› (pv 0)) (af ‹rfl› ‹T.kAe›) ‹λ_ _=>rfl›)) (by decide) ‹rfl› (by decide) ‹⟨rfl,trivial⟩› (by with_unfolding_all rfl) (λ_=>‹⟨cap1 rfl rfl rfl rfl,trivial⟩›) (λ_ _ _ _=>(xi (K:=K) (n:=2) ‹rfl› ‹rfl› (Qa (Ga (i:=1) ‹show List.Nodup (["clans","own","clan"]:List Str) from by decide +kernel› ‹rfl› ‹Or.inl rfl› ‹.inr rfl›) (Qa (Ga (i:=2) ‹show List.Nodup (["clans","own","clan"]:List Str) from by decide +kernel› ‹rfl› ‹Or.inl rfl› ‹.inr rfl›) Kc)))) (λ_ _ _ _=>(Yh (ua (inK (K:=K) ‹rfl›) (pv 2) (pv 0) ‹rfl›))) (λ_ _ _ _=>(pv 1)))))),?_⟩
   rw[show L2.start ["self","name","clans"] [V.ref x,V.str y]=[some (V.ref x),some (V.str y),none] from rfl];left;refine⟨x,k,p,kvs,n,y,.ref lg,rfl,hh,v2,λH1 s1=>?_⟩;obtain⟨dx,f,past,h1,h2,h3,h4,h5⟩:=id (hh.same s1).ex;have R4:=R3.same s1;have hr1:H1 r=some (.tup (ps.map V.ref)):=R4.ls;left;intro b gb;refine vj h2 h3 (k:=kd) gb.sq v3 ?_;left;refine Po (a:=r) (xs:=ps.map V.ref) [some (.ref lg)] (λi ys H'=>H'=H1/\ys=(((rl.take i).filter λq=>decide (q.2∈cs)).map (·.1)).map V.str) rfl (by rw[List.length_map,sizeLine_eq];omega) ⟨rfl,rfl⟩ (λi ys H' _ h=>by obtain⟨e,_⟩:=h;subst e;exact SqT.of hr1) (λi ys H' h=>by
    obtain⟨_,e⟩:=h;rw[e,List.length_map,List.length_map];exact Nat.le_trans (List.length_filter_le _ _) (by rw[List.length_take];omega)) ?_ ?_
   . rintro i v ys z1 z2 H' hv ⟨rfl,rfl⟩
     obtain⟨q',r',rfl,hp,hr',hpo⟩:=R4.get hv;have hpo':H' q'=some (.tup [.str r'.1,.str r'.2]):=hpo;have tn:=BR.Ka hr';left;refine qw (s1 _ _ R2) ?_;left;cases u:decide (r'.2∈cs) with
     | true =>
      left;refine⟨⟨rfl,?_⟩,_,_,rfl⟩;rw[tn,List.filter_append,show ([r'].filter λq=>decide (q.2∈cs))=[r'] by simp[List.filter_cons,u],List.map_append,List.map_append];rfl
     | false =>
      left;refine⟨⟨rfl,?_⟩,_,_,rfl⟩;rw[tn,List.filter_append,show ([r'].filter λq=>decide (q.2∈cs))=[] by simp[List.filter_cons,u],List.append_nil]
   . rintro ys H' ⟨rfl,rfl⟩ D6 hD6
     rw[List.length_map,rln,List.take_length];exact q D6 _ (s1.free hD6) (s1.new hD6) da
theorem om{Cac Cab Caa:Addr}(T:Txt K mg Cac Cab Caa)(U:UpM K Caa "due" "House.due" Jf ["self","name"])(Cag:Ra P w K mg base Cab Cac)(Cae:Na P w K mg base Caa):Yd P w K mg base Caa Cab Cac:=by
 have sc:=Rl;refine ya.of (k:=2) U sc (λvs H Q E h=>?_) (λf cdv A outer s H vs Q E hr h=>?_)
 . obtain⟨x,k,p,kvs,n,y,sx,D,os,ls,bs,hg,rfl,_⟩:=h;rfl
 . obtain⟨x,k,p,kvs,n,y,sx,D,os,ls,bs,hg,rfl,B,q⟩:=h
   have hu:=hr.units;obtain⟨dx,f,past,h1,_⟩:=id B.ho.ex;have gl:=B.gd.ll;have gn:=B.gd.ln
   conv in (qa _)=>whnf
   with_reducible refine⟨_,(ka (xa (Lb ‹Cag› ‹hr.mono (by decide)› (rb ‹Cae› ‹hr.mono (by decide)› (pv 0) (aa (pv 1) ia))))),?_⟩
   rw[show L2.start ["self","name"] [V.ref x,V.str y]=[some (V.ref x),some (V.str y)] from rfl];left;refine⟨x,k,p,kvs,n,y,.ref sx,rfl,B.ho,B.v,λH1 s1=>?_⟩;obtain⟨dy,t,o,b,h1',_⟩:=id (B.st.same s1).ex;left;exact⟨sx,D,os,ls,bs,hg,rfl,B.st.same s1,gl,by omega,q H1 s1⟩
theorem cj{Cac Cab Caa:Addr}(T:Txt K mg Cac Cab Caa)(U:UpM K Caa "bench" "House.bench" Kd ["self","name"])(Cat:wb P w K mg base Cab Cac)(Cae:Na P w K mg base Caa):ae P w K mg base Caa Cab Cac:=by
 have sc:=Vi;refine ya.of (k:=2) U sc (λvs H Q E h=>?_) (λf cdv A outer s H vs Q E hr h=>?_)
 . obtain⟨x,k,p,kvs,n,y,sx,D,os,ls,bs,hg,rfl,_⟩:=h;rfl
 . obtain⟨x,k,p,kvs,n,y,sx,D,os,ls,bs,hg,rfl,B,q⟩:=h
   have hu:=hr.units;obtain⟨dx,f,past,h1,_⟩:=id B.ho.ex
   conv in (qa _)=>whnf
   with_reducible refine⟨_,(ka (xa (Lb ‹Cat› ‹hr.mono (by decide)› (rb ‹Cae› ‹hr.mono (by decide)› (pv 0) (aa (pv 1) ia))))),?_⟩
   rw[show L2.start ["self","name"] [V.ref x,V.str y]=[some (V.ref x),some (V.str y)] from rfl];left;refine⟨x,k,p,kvs,n,y,.ref sx,rfl,B.ho,B.v,λH1 s1=>?_⟩;obtain⟨dy,t,o,b,h1',_⟩:=id (B.st.same s1).ex;left;exact⟨sx,D,os,ls,bs,hg,rfl,B.st.same s1,B.gd,λz H2 hz s2 e=>q z H2 (s1.free hz) (s1.tr s2) e⟩
theorem nh{Cac Cab Caa:Addr}(T:Txt K mg Cac Cab Caa)(U:UpM K Caa "waiting" "House.waiting" Fc ["self","name"])(Cau:ib P w K mg base Cab Cac)(Cae:Na P w K mg base Caa):Oc P w K mg base Caa Cab Cac:=by
 have sc:=dh;refine ya.of (k:=4) U sc (λvs H Q E h=>?_) (λf cdv A outer s H vs Q E hr h=>?_)
 . obtain⟨x,k,p,kvs,n,y,sx,D,os,ls,bs,hg,rfl,_⟩:=h;rfl
 . obtain⟨x,k,p,kvs,n,y,sx,D,os,ls,bs,hg,rfl,B,q⟩:=h
   have hu:=hr.units;obtain⟨dx,f,past,h1,_⟩:=id B.ho.ex
   conv in (qa _)=>whnf
   with_reducible refine⟨_,(ka (xa (Lb ‹Cau› ‹hr.mono (by decide)› (rb ‹Cae› ‹hr.mono (by decide)› (pv 0) (aa (pv 1) ia))))),?_⟩
   rw[show L2.start ["self","name"] [V.ref x,V.str y]=[some (V.ref x),some (V.str y)] from rfl];left;refine⟨x,k,p,kvs,n,y,.ref sx,rfl,B.ho,B.v,λH1 s1=>?_⟩;obtain⟨dy,t,o,b,h1',_⟩:=id (B.st.same s1).ex;left;exact⟨sx,D,os,ls,bs,hg,rfl,B.st.same s1,B.gd,λz H2 hz s2 e=>q z H2 (s1.free hz) (s1.tr s2) e⟩
theorem bj{Cac Cab Caa:Addr}(T:Txt K mg Cac Cab Caa)(U:UpM K Caa "drawn" "House.drawn" Jd ["self","name"])(Cb5:Sb P w K mg base Cab Cac)(Cae:Na P w K mg base Caa):Zd P w K mg base Caa Cab Cac:=by
 have sc:=Ui;refine ya.of (k:=2) U sc (λvs H Q E h=>?_) (λf cdv A outer s H vs Q E hr h=>?_)
 . obtain⟨x,k,p,kvs,n,y,sx,D,os,ls,bs,hg,rfl,_⟩:=h;rfl
 . obtain⟨x,k,p,kvs,n,y,sx,D,os,ls,bs,hg,rfl,B,q⟩:=h
   have hu:=hr.units;obtain⟨dx,f,past,h1,_⟩:=id B.ho.ex
   conv in (qa _)=>whnf
   with_reducible refine⟨_,(ka (xa (Lb ‹Cb5› ‹hr.mono (by decide)› (rb ‹Cae› ‹hr.mono (by decide)› (pv 0) (aa (pv 1) ia))))),?_⟩
   rw[show L2.start ["self","name"] [V.ref x,V.str y]=[some (V.ref x),some (V.str y)] from rfl];left;refine⟨x,k,p,kvs,n,y,.ref sx,rfl,B.ho,B.v,λH1 s1=>?_⟩;obtain⟨dy,t,o,b,h1',_⟩:=id (B.st.same s1).ex;left;exact⟨sx,D,os,ls,bs,hg,rfl,B.st.same s1,B.gd,λz H2 hz s2 e=>q z H2 (s1.free hz) (s1.tr s2) e⟩
theorem Gk{Cac Cab Caa:Addr}(T:Txt K mg Cac Cab Caa)(U:UpM K Caa "head" "House.head" De ["self","name"])(Cbq:Rb P w K mg base Cab Cac)(Cae:Na P w K mg base Caa):We P w K mg base Caa Cab Cac:=by
 have sc:=Yj;refine ya.of (k:=3) U sc (λvs H Q E h=>?_) (λf cdv A outer s H vs Q E hr h=>?_)
 . obtain⟨x,k,p,kvs,n,y,sx,D,os,ls,bs,hg,h0,rfl,_⟩:=h;rfl
 . obtain⟨x,k,p,kvs,n,y,sx,D,os,ls,bs,hg,h0,rfl,B,hl,hh,q⟩:=h
   have hu:=hr.units;obtain⟨dx,f,past,h1,_⟩:=id B.ho.ex
   conv in (qa _)=>whnf
   with_reducible refine⟨_,(ka (xa (Lb ‹Cbq› ‹hr.mono (by decide)› (rb ‹Cae› ‹hr.mono (by decide)› (pv 0) (aa (pv 1) ia))))),?_⟩
   rw[show L2.start ["self","name"] [V.ref x,V.str y]=[some (V.ref x),some (V.str y)] from rfl];left;refine⟨x,k,p,kvs,n,y,.ref sx,rfl,B.ho,B.v,λH1 s1=>?_⟩;obtain⟨dy,t,o,b,h1',_⟩:=id (B.st.same s1).ex;left;exact⟨sx,D,os,ls,bs,hg,h0,rfl,B.st.same s1,B.gd,hl,hh,λH2 s2=>q H2 (s1.tr s2)⟩
theorem aj{Cac Cab Caa:Addr}(T:Txt K mg Cac Cab Caa)(U:UpM K Caa "story" "House.story" Hd ["self","name"])(Ca3:Cb P w K mg base Cab Cac)(Cae:Na P w K mg base Caa):Xd P w K mg base Caa Cab Cac:=by
 have sc:=Ti;refine ya.of (k:=2) U sc (λvs H Q E h=>?_) (λf cdv A outer s H vs Q E hr h=>?_)
 . obtain⟨x,k,p,kvs,n,y,sx,D,os,ls,bs,hg,rfl,_⟩:=h;rfl
 . obtain⟨x,k,p,kvs,n,y,sx,D,os,ls,bs,hg,rfl,B,q⟩:=h
   have hu:=hr.units;obtain⟨dx,f,past,h1,_⟩:=id B.ho.ex
   conv in (qa _)=>whnf
   with_reducible refine⟨_,(ka (xa (Lb ‹Ca3› ‹hr.mono (by decide)› (rb ‹Cae› ‹hr.mono (by decide)› (pv 0) (aa (pv 1) ia))))),?_⟩
   rw[show L2.start ["self","name"] [V.ref x,V.str y]=[some (V.ref x),some (V.str y)] from rfl];left;refine⟨x,k,p,kvs,n,y,.ref sx,rfl,B.ho,B.v,λH1 s1=>?_⟩;obtain⟨dy,t,o,b,h1',_⟩:=id (B.st.same s1).ex;left;exact⟨sx,D,os,ls,bs,hg,rfl,B.st.same s1,B.gd,λz H2 qs hz s2 e=>q z H2 qs (s1.free hz) (s1.tr s2) e⟩
theorem Jp{Cac Cab Caa:Addr}(T:Txt K mg Cac Cab Caa)(U:Up K mg "_law_begin" Ph ["_law_script"]):Ki P w K mg base:=by
 have sc:=yp;refine Callee.of (k:=0) U sc (λvs H Q E h=>?_) (λf cdv A outer s H vs Q E hr h=>?_)
 . obtain⟨a,ns,rfl,_⟩:=h;rfl
 . obtain⟨a,ns,rfl,hS,k⟩:=h
   have hu:=hr.units
   conv in (qa _)=>whnf
   with_reducible refine⟨_,(ka (xa (Hb (aa (Ua (Hn (K:=K) ‹rfl›) ‹rfl› ‹T.kAd› Pe (aa (pv 0) ia)) (aa oa (aa oa (aa oa ia))))))),?_⟩
   rw[show L2.start ["_law_script"] [V.ref a]=[some (V.ref a)] from rfl];left;refine jk (xs:=ns.map V.int) hS ?_;intro l hl;left;intro d hd;have hld:l≠d:=ba da hd;have s1:Same H (upd H l (.lst (ns.map V.int))):=(Same.refl H).new hl;refine k d l _ (s1.free hd) hl ⟨ns,0,0,17,da,by walk_at "hp",hld,by decide⟩ (s1.new hd)
theorem Nr{Cac Cab Caa : Addr}(T : Txt K mg Cac Cab Caa)(U : Up K mg "_law_take" ck ["_law_draw", "_law_many"]) : Tc P w K mg base := by
 have sc:=Iq;refine Callee.of (k:=0) U sc (λvs H Q E h=>?_) (λf cdv A outer s H vs Q E hr h=>?_)
 . obtain⟨d,l,m,rfl,_⟩:=h;rfl
 . obtain ⟨d, l, m, rfl, ⟨ns, i, c, r, hd, hl, hne, hi⟩, hm, hb, k⟩ := h
   have hu:=hr.units
   conv in (qa _)=>whnf
   with_reducible refine⟨_,(Vl (Oa (PW.pt (Xh (ua (ltK (K:=K) ‹rfl› ‹hu›) (Ja (ixK (K:=K) ‹rfl›) (pv 0) oa ‹λ_ _=>rfl›) (pv 1) ‹Aa _›) (Kf (ua (ltK (K:=K) ‹rfl› ‹hu›) (Ja (ixK (K:=K) ‹rfl›) (pv 0) oa ‹λ_ _=>rfl›) (Ea (lenK (K:=K) ‹rfl›) ‹rfl› ‹T.kAa› pb (aa (Ja (ixK (K:=K) ‹rfl›) (pv 0) oa ‹λ_ _=>rfl›) ia)) ‹Aa _›)))) (ja (Ia (i:=2) ‹sc.nd› ‹rfl› ‹Or.inl rfl› (Ja (ixK (K:=K) ‹rfl›) (Ja (ixK (K:=K) ‹rfl›) (pv 0) oa ‹λ_ _=>rfl›) (Ja (ixK (K:=K) ‹rfl›) (pv 0) oa ‹λ_ _=>rfl›) ‹λ_ _=>rfl›)) (ja (Tg (Pa (addK (K:=K) ‹rfl›) (Ja (ixK (K:=K) ‹rfl›) (pv 0) oa ‹λ_ _=>rfl›) oa) (Zh (pv 0) oa set_list)) (ja (Tg oa (Zh (pv 0) oa set_list)) (ka (Oa (ua kn (Ea Nw ‹rfl› ‹T.kA0› Ow (aa (pv 2) ia)) (Pa op_pow oa oa) ‹Aa _›) (ka (Tg (Ea Nw ‹rfl› ‹T.kA0› Ow (aa (pv 2) ia)) (Zh (pv 0) oa set_list))) (ka (Tg (Pa di (Pa (addK (K:=K) ‹rfl›) (Pa (addK (K:=K) ‹rfl›) (Pa Mf (Ja (ixK (K:=K) ‹rfl›) (pv 0) oa ‹λ_ _=>rfl›) oa) (Pa Mf (Pa di (pv 2) oa) oa)) oa) oa) (Zh (pv 0) oa set_list)))))))) Ca) (ja (Oa (ua kn (Ja (ixK (K:=K) ‹rfl›) (pv 0) oa ‹λ_ _=>rfl›) (pv 1) ‹Aa _›) (ja (Ia (i:=3) ‹sc.nd› ‹rfl› ‹Or.inl rfl› (Pa di (Ja (ixK (K:=K) ‹rfl›) (pv 0) oa ‹λ_ _=>rfl›) (pv 1))) (ja (Tg (Pa Qc (Ja (ixK (K:=K) ‹rfl›) (pv 0) oa ‹λ_ _=>rfl›) (pv 1)) (Zh (pv 0) oa set_list)) (ka (xa (pv 3))))) Ca) (ja (Tg (Pa di (Pa (addK (K:=K) ‹rfl›) (Pa Mf (Ja (ixK (K:=K) ‹rfl›) (pv 0) oa ‹λ_ _=>rfl›) oa) oa) oa) (Zh (pv 0) oa set_list)) (ka (xa (Pa di (Pa Qc (Ja (ixK (K:=K) ‹rfl›) (pv 0) oa ‹λ_ _=>rfl›) oa) (pv 1))))))),?_⟩
   rw[show L2.start ["_law_draw","_law_many","_law_number","_law_got"] [V.ref d,V.int m]=[some (V.ref d),some (V.int m),none,none] from rfl];refine Zv (λσ' H'=>(∃x,σ'=[some (.ref d),some (.int m),x,none])/\(∃i' c' r':Int,H' d=some (.lst [.ref l,.int i',.int c',.int r'])/\0<=i')/\Fr1 d H H') ?_ ?_
   . left
     refine Ba (λh1=>?_) (λh1=>?_)
     . left
       refine Ba (λh2=>?_) (λh2=>?_)
       . left
         rw[List.length_map]at h2;refine gc hl (Qv hi h2) ?_;left;refine Ba (λh3=>?_) (λh3=>?_)
         . left
           exact⟨⟨_,rfl⟩,⟨_,_,_,da,by omega⟩,(((Fr1.refl d H).upd).upd).upd⟩
         . left
           exact⟨⟨_,rfl⟩,⟨_,_,_,da,by omega⟩,(((Fr1.refl d H).upd).upd).upd⟩
       . left
         exact⟨⟨_,rfl⟩,⟨_,_,_,hd,by omega⟩,Fr1.refl d H⟩
     . left
       exact⟨⟨_,rfl⟩,⟨_,_,_,hd,by omega⟩,Fr1.refl d H⟩
   . rintro σ1 H1 ⟨⟨x,rfl⟩,⟨i',c',r',hd1,hi1⟩,fr⟩
     obtain⟨n,hn1,hn2⟩:=hb;have hl1:H1 l=some (.lst (ns.map V.int)):=fr.get hl hne;left;refine Ba (λh1=>?_) (λh1=>?_)
     . left
       refine r_rI ⟨hm,n,hn1,hn2⟩ ?_;left;refine k _ _ (Int.emod_nonneg _ (by omega)) (Int.emod_lt_of_pos _ hm) ⟨ns,i',_,r',da,?_,hne,hi1⟩ fr.upd;walk_at "hp"
     . left
       refine k _ _ (Int.emod_nonneg _ (by omega)) (Int.emod_lt_of_pos _ hm) ⟨ns,i',c',_,da,?_,hne,hi1⟩ fr.upd;walk_at "hp"
theorem Pr{Cac Cab Caa : Addr}(T : Txt K mg Cac Cab Caa)(U : Up K mg "_law_step" fk ["_law_draw", "_law_count", "_law_bench", "_law_most"])(Cad : Tc P w K mg base) : il P w K mg base := by
 have sc:=Jq;refine Callee.of (k:=1) U sc (λvs H Q E h=>?_) (λf cdv A outer s H vs Q E hr h=>?_)
 . obtain⟨d,l,c,s,m,rfl,_⟩:=h;rfl
 . obtain⟨d,l,c,s,m,rfl,D,s1,s2,s3,m1,m2,q⟩:=h
   have hu:=hr.units
   conv in (qa _)=>whnf
   with_reducible refine⟨_,(ja (Ia (i:=4) ‹sc.nd› ‹rfl› ‹Or.inl rfl› (Ja (ixK (K:=K) ‹rfl›) (Sa (aa za (aa za (aa za ia)))) (pe_c ‹Cad› ‹hr.mono (by decide)› ‹rfl› (aa (pv 0) (aa oa ia))) ‹λ_ _=>rfl›)) (ja (Ia (i:=5) ‹sc.nd› ‹rfl› ‹Or.inl rfl› (Bb (eqK (K:=K) ‹rfl› ‹hu›) (pe_c ‹Cad› ‹hr.mono (by decide)› ‹rfl› (aa (pv 0) (aa oa ia))) oa ‹Aa _›)) (ja (Ia (i:=6) ‹sc.nd› ‹rfl› ‹Or.inl rfl› (Pa (addK (K:=K) ‹rfl›) (Pa (addK (K:=K) ‹rfl›) (Pa Qc (pv 2) oa) oa) (pe_c ‹Cad› ‹hr.mono (by decide)› ‹rfl› (aa (pv 0) (aa (Pa ai (pv 2) (Pa Qc (pv 2) oa)) ia))))) (ja (Ia (i:=7) ‹sc.nd› ‹rfl› ‹Or.inl rfl› (Pa (addK (K:=K) ‹rfl›) oa (pe_c ‹Cad› ‹hr.mono (by decide)› ‹rfl› (aa (pv 0) (aa (Ea (Sn ‹rfl›) ‹rfl› ‹T.kAo› yt (aa (pv 2) (aa (pv 3) ia))) ia))))) (ja (Oa (truK (K:=K) ‹rfl› (pv 5)) (ka (xa (Sa (aa za (aa (pv 7) ia))))) Ca) (ja (Oa (ua (eqK (K:=K) ‹rfl› ‹hu›) (pv 4) za ‹Aa _›) (ka (Ia (i:=7) ‹sc.nd› ‹rfl› ‹Or.inl rfl› (Pa (addK (K:=K) ‹rfl›) oa (pe_c ‹Cad› ‹hr.mono (by decide)› ‹rfl› (aa (pv 0) (aa (Ea (Sn ‹rfl›) ‹rfl› ‹T.kAo› yt (aa (pv 1) (aa (pv 3) ia))) ia)))))) Ca) (ja (Oa (PW.pt (Xh (ua (eqK (K:=K) ‹rfl› ‹hu›) (pv 4) za ‹Aa _›) (Kf (ua (leK (K:=K) ‹rfl› ‹hu›) (pv 2) oa ‹Aa _›)))) (ka (xa (Sa (aa za (aa (pv 2) (aa (pv 6) (aa (pv 4) ia))))))) Ca) (ja (Oa (ua (eqK (K:=K) ‹rfl› ‹hu›) (pv 4) za ‹Aa _›) (ka (Ia (i:=4) ‹sc.nd› ‹rfl› ‹Or.inl rfl› za)) Ca) (ka (xa (Sa (aa za (aa (pv 7) (aa (pv 6) (aa (pv 4) ia))))))))))))))),?_⟩
   rw[show L2.start ["_law_draw","_law_count","_law_bench","_law_most","_law_word","_law_lot","_law_needed","_law_n"] [V.ref d,V.int c,V.int s,V.int m]=[some (V.ref d),some (V.int c),some (V.int s),some (V.int m),none,none,none,none] from rfl];left;intro tp htp;have D0:=D.new (o:=.tup [.str "council",.str "bench",.str "stay"]) htp;have fr0:Fr1 d H (upd H tp (.tup [.str "council",.str "bench",.str "stay"])):=(Fr1.refl d H).new htp;have ntp:=(D.ne htp).1;left;refine ub D0 (by omega) (by omega) λg1 H1 g10 g11 D1 f1=>?_;obtain⟨w,hw⟩:∃w:Wd,atI [V.str "council",V.str "bench",V.str "stay"] g1=some (.str (wdS w)):=by
    have:g1=0\/g1=1\/g1=2:=by omega
    rcases this with rfl|rfl|rfl
    . exact⟨.council,rfl⟩
    . exact⟨.bench,rfl⟩
    . exact⟨.stay,rfl⟩
   refine uf (f1.get da ntp) hw ?_;left;refine ub D1 (by omega) (by omega) λg2 H2 g20 g21 D2 f2=>?_;left;refine ub D2 (by omega) (by omega) λg3 H3 g30 g31 D3 f3=>?_;obtain⟨nd,hnd,nd1,nd2⟩:∃nd:Nat,(s:Int)/2+1+g3=(nd:Int)/\s<2*nd/\nd<=s:=⟨((s:Int)/2+1+g3).toNat,by omega,by omega,by omega⟩
   left;rw[hnd];have hmin:∀x:Nat,1<=x->0<(if (m:Int)<(x:Int) then (m:Int) else (x:Int))/\(if (m:Int)<(x:Int) then (m:Int) else (x:Int))<=x/\(if (m:Int)<(x:Int) then (m:Int) else (x:Int))<=60:=λx hx=>by split<;>omega
   have hm1:=hmin s s1;refine ub D3 (by omega) (by omega) λg4 H4 g40 g41 D4 f4=>?_;have fr4:=((((fr0.trans f1).trans f2).trans f3).trans f4)
   obtain⟨n0,hn0,n01,n02,n03⟩:∃n0:Nat,1+g4=(n0:Int)/\1<=n0/\n0<=s/\n0<=60:=⟨(1+g4).toNat,by omega,by omega,by omega,by omega⟩
   left;rw[hn0];refine Ba (λh1=>?_) (λh1=>?_)
   . left
     intro p hp;exact q p _ (.lot n0) ⟨n01,n03,n02⟩ (D4.new hp) (fr4.new hp) da
   . cases w with
     | council =>
      left;refine Ba (λ_=>?_) (λz=>absurd rfl z);left;have hm2:=hmin c (by omega);refine ub D4 (by omega) (by omega) λg5 H5 g50 g51 D5 f5=>?_;obtain⟨n1,hn1,n11,n12,n13⟩:∃n1:Nat,1+g5=(n1:Int)/\1<=n1/\n1<=c/\n1<=60:=⟨(1+g5).toNat,by omega,by omega,by omega,by omega⟩
      left;rw[hn1];refine Ba (λz=>absurd z (by decide)) (λ_=>?_);left;refine Ba (λz=>absurd z (by decide)) (λ_=>?_);left;intro p hp;exact q p _ (.vote n1 nd .council) ⟨n11,n13,n12,nd1,nd2,λz=>(by cases z),λz=>(by cases z)⟩ (D5.new hp) ((fr4.trans f5).new hp) da
     | bench =>
      left;refine Ba (λz=>absurd z (by decide)) (λ_=>?_);left;refine Ba (λz=>absurd z (by decide)) (λ_=>?_);left;refine Ba (λz=>absurd z (by decide)) (λ_=>?_);left;intro p hp;exact q p _ (.vote n0 nd .bench) ⟨n01,n03,by omega,nd1,nd2,λ_=>n02,λz=>(by cases z)⟩ (D4.new hp) (fr4.new hp) da
     | stay =>
      left;refine Ba (λz=>absurd z (by decide)) (λ_=>?_);left;refine Ba (λ_=>?_) (λz=>absurd rfl z);left;refine Ba (λh5=>?_) (λh5=>?_)
      . left
        intro p hp;exact q p _ (.vote s nd .stay) ⟨s1,by omega,s2,nd1,nd2,λz=>(by cases z),λ_=>rfl⟩ (D4.new hp) (fr4.new hp) da
      . left
        refine Ba (λ_=>?_) (λz=>absurd rfl z);left;intro p hp;exact q p _ (.vote n0 nd .council) ⟨n01,n03,by omega,nd1,nd2,λz=>(by cases z),λz=>(by cases z)⟩ (D4.new hp) (fr4.new hp) da
theorem Rr{Cac Cab Caa:Addr}(T:Txt K mg Cac Cab Caa)(U:Up K mg "_law_last" ik ["_law_draw","_law_bench"])(Cad:Tc P w K mg base):xl P w K mg base:=by
 have sc:=Lq;refine Callee.of (k:=1) U sc (λvs H Q E h=>?_) (λf cdv A outer s H vs Q E hr h=>?_)
 . obtain⟨d,l,c,s,rfl,_⟩:=h;rfl
 . obtain⟨d,l,c,s,rfl,D,s1,s2,s3,q⟩:=h
   have hu:=hr.units
   conv in (qa _)=>whnf
   with_reducible refine⟨_,(ja (Oa (ua (eqK (K:=K) ‹rfl› ‹hu›) (pv 1) oa ‹Aa _›) (ka (xa (Hb ia))) Ca) (ja (Ia (i:=2) ‹sc.nd› ‹rfl› ‹Or.inl rfl› (Pa (addK (K:=K) ‹rfl›) (Pa (addK (K:=K) ‹rfl›) (Pa Qc (pv 1) oa) oa) (pe_c ‹Cad› ‹hr.mono (by decide)› ‹rfl› (aa (pv 0) (aa (Pa ai (pv 1) (Pa Qc (pv 1) oa)) ia))))) (ka (xa (Ja (ixK (K:=K) ‹rfl›) (Hb (aa ‹(Hb (aa (Sa (aa za (aa oa ia))) ia))› (aa ‹(Hb (aa (Sa (aa za (aa oa (aa (pv 2) (aa za ia))))) ia))› (aa ‹(Hb (aa (Sa (aa za (aa oa (aa (pv 2) (aa za ia))))) ia))› ia)))) (pe_c ‹Cad› ‹hr.mono (by decide)› ‹rfl› (aa (pv 0) (aa oa ia))) ‹λ_ _=>rfl›))))),?_⟩
   rw[show L2.start ["_law_draw","_law_bench","_law_needed"] [V.ref d,V.int s]=[some (V.ref d),some (V.int s),none] from rfl];left;refine Ba (λh1=>?_) (λh1=>?_)
   . left
     intro p hp;exact q p _ [] [] trivial (show s=1 by omega) (by decide) (D.new hp) ((Fr1.refl d H).new hp) hp ⟨da,λi p' z=>by simp at z,rfl⟩
   . left
     refine ub D (by omega) (by omega) λg3 H3 g30 g31 D3 f3=>?_;obtain⟨nd,hnd,nd1,nd2⟩:∃nd:Nat,(s:Int)/2+1+g3=(nd:Int)/\s<2*nd/\nd<=s:=⟨((s:Int)/2+1+g3).toNat,by omega,by omega,by omega⟩
     left;rw[hnd];intro t1 ht1;obtain⟨G1,eG1,a1,S1⟩:∃G,G=upd H3 t1 (.tup [.str "lot",.int 1])/\G t1=some (rnO (.lot 1))/\Same H3 G:=⟨_,rfl,da,(Same.refl H3).new ht1⟩
     rw[<-eG1];left;intro l1 hl1;obtain⟨G2,eG2,a2,S2⟩:∃G,G=upd G1 l1 (.lst [.ref t1])/\G l1=some (.lst [.ref t1])/\Same G1 G:=⟨_,rfl,da,(Same.refl G1).new hl1⟩
     rw[<-eG2];left;intro t2 ht2;obtain⟨G3,eG3,a3,S3⟩:∃G,G=upd G2 t2 (.tup [.str "vote",.int 1,.int nd,.str "council"])/\G t2=some (rnO (.vote 1 nd .council))/\Same G2 G:=⟨_,rfl,da,(Same.refl G2).new ht2⟩
     rw[<-eG3];left;intro l2 hl2;obtain⟨G4,eG4,a4,S4⟩:∃G,G=upd G3 l2 (.lst [.ref t2])/\G l2=some (.lst [.ref t2])/\Same G3 G:=⟨_,rfl,da,(Same.refl G3).new hl2⟩
     rw[<-eG4];left;intro t3 ht3;obtain⟨G5,eG5,a5,S5⟩:∃G,G=upd G4 t3 (.tup [.str "vote",.int 1,.int nd,.str "bench"])/\G t3=some (rnO (.vote 1 nd .bench))/\Same G4 G:=⟨_,rfl,da,(Same.refl G4).new ht3⟩
     rw[<-eG5];left;intro l3 hl3;obtain⟨G6,eG6,a6,S6⟩:∃G,G=upd G5 l3 (.lst [.ref t3])/\G l3=some (.lst [.ref t3])/\Same G5 G:=⟨_,rfl,da,(Same.refl G5).new hl3⟩
     rw[<-eG6];left;intro l4 hl4;obtain⟨G7,eG7,a7,S7⟩:∃G,G=upd G6 l4 (.lst [.ref l1,.ref l2,.ref l3])/\G l4=some (.lst [.ref l1,.ref l2,.ref l3])/\Same G6 G:=⟨_,rfl,da,(Same.refl G6).new hl4⟩
     rw[<-eG7];clear eG1 eG2 eG3 eG4 eG5 eG6 eG7;have T2:=S1.tr S2;have T3:=T2.tr S3;have T4:=T3.tr S4;have T5:=T4.tr S5;have T6:=T5.tr S6;have T7:=T6.tr S7;have D4:=D3.same T7;left;refine ub D4 (by omega) (by omega) λg5 H5 g50 g51 D5 f5=>?_;have nd':∀(p:Addr) (G:Hp),Same H3 G->G p=none->p≠d:=λp G S z=>((D3.same S).ne z).1;have fr:Fr1 d H H5:=(f3.same T7).trans f5;have fin:∀(p t:Addr) (r:Rn),Fit c s r->r.n=1->H3 p=none->p≠d->H5 p=some (.lst [.ref t])->H5 t=some (rnO r)->Q (.ref p) H5:=λp t r h1 h2 h3 h4 h5 h6 =>
      q p H5 [t] [r] ⟨h1,trivial⟩ h2 (by simp) D5 fr (f3.free h3 h4) ⟨h5,λi p' z=>by
       cases i with
       | zero=>simp at z;subst z;exact⟨r,rfl,h6⟩
       | succ i=>simp at z,rfl⟩
     have n4:=nd' l4 G6 T6 hl4;have g:=(show g5=0\/g5=1\/g5=2 by omega)
     rcases g with rfl|rfl|rfl
     . refine gc (f5.get a7 n4) rfl ?_
       refine fin l1 t1 (.lot 1) ⟨by decide,by decide,s1⟩ rfl (S1.free hl1) (nd' l1 G1 S1 hl1) (f5.get (S7 _ _ (S6 _ _ (S5 _ _ (S4 _ _ (S3 _ _ a2))))) (nd' l1 G1 S1 hl1)) (f5.get (S7 _ _ (S6 _ _ (S5 _ _ (S4 _ _ (S3 _ _ (S2 _ _ a1)))))) (nd' t1 H3 (Same.refl H3) ht1))
     . refine gc (f5.get a7 n4) rfl ?_
       refine fin l2 t2 (.vote 1 nd .council) ⟨by decide,by decide,by omega,nd1,nd2,λz=>(by cases z),λz=>(by cases z)⟩ rfl (T3.free hl2) (nd' l2 G3 T3 hl2) (f5.get (S7 _ _ (S6 _ _ (S5 _ _ a4))) (nd' l2 G3 T3 hl2)) (f5.get (S7 _ _ (S6 _ _ (S5 _ _ (S4 _ _ a3)))) (nd' t2 G2 T2 ht2))
     . refine gc (f5.get a7 n4) rfl ?_
       refine fin l3 t3 (.vote 1 nd .bench) ⟨by decide,by decide,by omega,nd1,nd2,λz=>(by omega),λz=>(by cases z)⟩ rfl (T5.free hl3) (nd' l3 G5 T5 hl3) (f5.get (S7 _ _ a6) (nd' l3 G5 T5 hl3)) (f5.get (S7 _ _ (S6 _ _ a5)) (nd' t3 G4 T4 ht3))
theorem Zi{Cac Cab Caa:Addr}(T:Txt K mg Cac Cab Caa)(U:Up K mg "_law_whole_row" Gd ["_law_draw","_law_count","_law_many","_law_most"])(Cad:Tc P w K mg base)(Cby:il P w K mg base)(Cbo:xl P w K mg base):Ud P w K mg base:=by
 have sc:=Si;refine Callee.of (k:=2) U sc (λvs H Q E h=>?_) (λf cdv A outer s H vs Q E hr h=>?_)
 . obtain⟨d,l,c,k,m,rfl,_⟩:=h;rfl
 . obtain⟨d,l,c,k,m,rfl,D,c1,c2,k1,m1,m2,q⟩:=h
   have hu:=hr.units
   conv in (qa _)=>whnf
   with_reducible refine⟨_,(ja (Ia (i:=4) ‹sc.nd› ‹rfl› ‹Or.inl rfl› (pv 1)) (ja (Ia (i:=5) ‹sc.nd› ‹rfl› ‹Or.inl rfl› (Hb ia)) (ja (zd PassesOwn.never ‹rfl› (Jc ‹rfl› ‹T.kAb› (aa (pe_c ‹Cad› ‹hr.mono (by decide)› ‹rfl› (aa (pv 0) (aa (Pa (addK (K:=K) ‹rfl›) (pv 2) oa) ia))) ia)) (Ga (i:=6) ‹sc.nd› ‹rfl› ‹Or.inl rfl›) (ja (Ta (Zm ‹PySem.F.plainAttrs_list› ‹PySem.F.slot_list_append› ‹PySem.F.type_list_append› ‹Bd› (pv 5) (aa (pe_c ‹Cby› ‹hr.mono (by decide)› ‹rfl› (aa (pv 0) (aa (pv 1) (aa (pv 4) (aa (pv 3) ia))))) ia))) (ka (Ia (i:=4) ‹sc.nd› ‹rfl› ‹Or.inl rfl› (Ja (ixK (K:=K) ‹rfl›) (Ja (ixK (K:=K) ‹rfl›) (pv 5) (Fp nj oa) ‹λ_ _=>rfl›) oa ‹λ_ _=>rfl›))))) (ka (xa (Pa (addK (K:=K) ‹rfl›) (pv 5) (pe_c ‹Cbo› ‹hr.mono (by decide)› ‹rfl› (aa (pv 0) (aa (pv 4) ia))))))))),?_⟩
   rw[show L2.start ["_law_draw","_law_count","_law_many","_law_most","_law_bench","_law_row","_law_k"] [V.ref d,V.int c,V.int k,V.int m]=[some (V.ref d),some (V.int c),some (V.int k),some (V.int m),none,none,none] from rfl];left;intro a ha;have D0:=D.new (o:=.lst []) ha;have nad:=(D.ne ha).1;have fr0:Fr1 d H (upd H a (.lst [])):=(Fr1.refl d H).new ha;left;refine ub D0 (by omega) (by omega) λg1 H1 g10 g11 D1 f1=>?_;refine forR (λi σ' H'=>∃(ps:List Addr) (rs:List Rn) (x:Option V),RwAt H' a ps rs/\FitR c c rs/\rs.length=i/\DrL H' d l/\(∀b o,H b=some o->b≠d->H' b=some o)/\σ'=[some (.ref d),some (.int c),some (.int k),some (.int m),some (.int (Ya c rs:Nat)),some (.ref a),x]) (by omega) (by omega)
    ⟨[],[],none,⟨f1.get da nad,λi p z=>by simp at z,rfl⟩,trivial,rfl,D1,fr0.trans f1,rfl⟩ ?_ ?_
   . rintro i σ' H' hi ⟨ps,rs,x,F,ft,hl,D',fr,rfl⟩
     have lb:=Yb ft c1 (Nat.le_refl _);have hpl:=F.ln;left;refine su (xs:=ps.map V.ref) F.ls ?_;left;refine⟨_,_,_,_,_,rfl,D',lb.1,lb.2,c2,m1,m2,λp H2 r fit D2 f2 hp=>?_⟩;have F2:=F.fr1 Fe D' nad f2;left;refine Md (xs:=ps.map V.ref) F2.ls (by rw[List.length_map,sizeLine_eq];omega) ?_;left;have F3:=F2.push Fe hp;have npa:a≠l:=by
      obtain⟨_,xs,z⟩:=D.some;exact(ba z ha).symm
     have e1:atI (ps.map V.ref++[V.ref p]) (-1)=some (.ref p):=Ah _ _;refine gc (xs:=ps.map V.ref++[.ref p]) da e1 ?_;left;obtain⟨xs,e2,e3⟩:=rn_n r;have hpa:p≠a:=by rw[e2]at hp;exact Ik hp F2.ls Nj
     refine uf (xs:=xs) (by rw[va hpa,hp,e2]) e3 ?_;left;refine⟨_,_,some (.int i),F3,ft.snoc fit,by rw[List.length_append,hl];rfl,D2.upd nad npa,λb o z n=>?_,?_⟩
     . rw[va (ba z ha)]
       exact f2 b o (fr b o z n) n
     . rw[Ig];rfl
   . rintro σ' H' ⟨ps,rs,x,F,ft,hl,D',fr,rfl⟩
     have lb:=Yb ft c1 (Nat.le_refl _);left;refine⟨_,_,c,_,rfl,D',lb.1,lb.2,c2,λp H2 ps' rs' ft' hl' ln' D2 f2 hpn F'=>?_⟩;have F2:=F.fr1 Fe D' nad f2;have l1:=F.ln;have l2:=F'.ln;refine Vh (xs:=ps.map V.ref) (ys:=ps'.map V.ref) F2.ls F'.ls (by rw[List.length_map,List.length_map,sizeLine_eq];omega) λp2 hp2=>?_;have fr2:Fr1 d H H2:=λb o z n=>f2 b o (fr b o z n) n;refine q p2 _ _ _ ⟨F2.cat F' hp2,c1,c2,FitR.app.mpr ⟨ft,ft'⟩,by rw[List.length_append];omega⟩ (by rw[List.length_append];omega) (by rw[Ke];exact hl') (D2.new hp2) (fr2.new hp2) (fr2.free hp2 (D2.ne hp2).1)
theorem Qr{Cac Cab Caa:Addr}(T:Txt K mg Cac Cab Caa)(U:Up K mg "_law_pool" gk ["_law_draw","_law_many"])(Cad:Tc P w K mg base):jl P w K mg base:=by
 have sc:=Kq;refine Callee.of (k:=1) U sc (λvs H Q E h=>?_) (λf cdv A outer s H vs Q E hr h=>?_)
 . obtain⟨d,l,c,rfl,_⟩:=h;rfl
 . obtain⟨d,l,c,rfl,D,c2,q⟩:=h
   have hu:=hr.units
   conv in (qa _)=>whnf
   with_reducible refine⟨_,(ja (Ia (i:=2) ‹sc.nd› ‹rfl› ‹Or.inr rfl› za) (ja (Ia (i:=3) ‹sc.nd› ‹rfl› ‹Or.inr rfl› (Ja (ixCK (K:=K) ‹rfl›) (Sa (aa oa (aa oa (aa oa (aa oa (aa oa (aa oa ia))))))) (pe_c ‹Cad› ‹hr.mono (by decide)› ‹rfl› (aa (pv 0) (aa oa ia))) ‹λ_ _=>rfl›)) (ja (Ia (i:=4) ‹sc.nd› ‹rfl› ‹Or.inr rfl› (pe_c ‹Cad› ‹hr.mono (by decide)› ‹rfl› (aa (pv 0) (aa oa ia)))) (ja (Ia (i:=5) ‹sc.nd› ‹rfl› ‹Or.inr rfl› (Pa jn za (pe_c ‹Cad› ‹hr.mono (by decide)› ‹rfl› (aa (pv 0) (aa oa ia))))) (ja (Oa (ua (eqK (K:=K) ‹rfl› ‹hu›) (pe_c ‹Cad› ‹hr.mono (by decide)› ‹rfl› (aa (pv 0) (aa oa ia))) oa ‹Aa _›) (ka (xa (jf ["_law_letters","_law_step_here","_law_start","_law_tail"] ["_law_k"] [2,3,4,5] (by with_unfolding_all rfl) ‹rfl› ‹rfl› (Jc ‹rfl› ‹T.kAb› (aa (pv 1) ia)) (by decide) ‹rfl› (by decide) ‹⟨rfl,⟨rfl,⟨rfl,⟨rfl,trivial⟩⟩⟩⟩› (by with_unfolding_all rfl) (λ_=>‹⟨cap1 rfl rfl rfl rfl,⟨cap1 rfl rfl rfl rfl,⟨cap1 rfl rfl rfl rfl,⟨cap1 rfl rfl rfl rfl,trivial⟩⟩⟩⟩›) (λ_ _ _ _=>(Ga (i:=4) ‹show List.Nodup (["_law_letters","_law_step_here","_law_start","_law_tail","_law_k"]:List Str) from by decide +kernel› ‹rfl› ‹Or.inl rfl› ‹.inr rfl›)) (λ_ _ _ _=>jc) (λ_ _ _ _=>(Pa (Sv (K:=K) ‹rfl›) (pv 3) (Ja (ixCK (K:=K) ‹rfl›) (pv 0) (Pa di (Pa (Sv (K:=K) ‹rfl›) (pv 2) (Pa jn (pv 1) (pv 4))) oa) ‹λ_ _=>rfl›)))))) Ca) (ka (xa (jf ["_law_letters","_law_step_here","_law_start","_law_tail"] ["_law_k"] [2,3,4,5] (by with_unfolding_all rfl) ‹rfl› ‹rfl› (Jc ‹rfl› ‹T.kAb› (aa (pv 1) ia)) (by decide) ‹rfl› (by decide) ‹⟨rfl,⟨rfl,⟨rfl,⟨rfl,trivial⟩⟩⟩⟩› (by with_unfolding_all rfl) (λ_=>‹⟨cap1 rfl rfl rfl rfl,⟨cap1 rfl rfl rfl rfl,⟨cap1 rfl rfl rfl rfl,⟨cap1 rfl rfl rfl rfl,trivial⟩⟩⟩⟩›) (λ_ _ _ _=>(Ga (i:=4) ‹show List.Nodup (["_law_letters","_law_step_here","_law_start","_law_tail","_law_k"]:List Str) from by decide +kernel› ‹rfl› ‹Or.inl rfl› ‹.inr rfl›)) (λ_ _ _ _=>jc) (λ_ _ _ _=>(Pa (Sv (K:=K) ‹rfl›) (Ja (ixCK (K:=K) ‹rfl›) (pv 0) (Pa di (Pa (Sv (K:=K) ‹rfl›) (pv 2) (Pa jn (pv 1) (pv 4))) oa) ‹λ_ _=>rfl›) (pv 3))))))))))),?_⟩
   rw[show L2.start ["_law_draw","_law_many","_law_letters","_law_step_here","_law_start","_law_tail"] [V.ref d,V.int c]=[some (V.ref d),some (V.int c),none,none,none,none] from rfl];left;intro tp htp;have D1:=D.new (o:=.tup [.int 1,.int 3,.int 5,.int 7,.int 9,.int 11]) htp;have ntp:=(D.ne htp).1;left;refine ub D1 (by omega) (by omega) λg1 H1 g10 g11 D2 f1=>?_;obtain⟨st,hst,hst2⟩:∃st:Nat,atI [V.int 1,V.int 3,V.int 5,V.int 7,V.int 9,V.int 11] g1=some (.int (st:Int))/\(st=1\/st=3\/st=5\/st=7\/st=9\/st=11):=by
    obtain⟨g,rfl⟩:∃g:Nat,g1=g:=⟨g1.toNat,by omega⟩
    match g,g11 with
    | 0,_=>exact⟨1,rfl,by omega⟩
    | 1,_=>exact⟨3,rfl,by omega⟩
    | 2,_=>exact⟨5,rfl,by omega⟩
    | 3,_=>exact⟨7,rfl,by omega⟩
    | 4,_=>exact⟨9,rfl,by omega⟩
    | 5,_=>exact⟨11,rfl,by omega⟩
    | g+6,h=>omega
   left;refine r_ixC (uf (f1.get da ntp) hst ?_);left;refine ub D2 (by omega) (by omega) λg2 H2 g20 g21 D3 f2=>?_;obtain⟨s0,rfl⟩:∃s:Nat,g2=s:=⟨g2.toNat,by omega⟩
   left;refine ub D3 (by omega) (by omega) λg3 H3 g30 g31 D4 f3=>?_;obtain⟨t,rfl⟩:∃s:Nat,g3=s:=⟨g3.toNat,by omega⟩
   have alen:abc.length<=sizeLine:=by rw[sizeLine_eq];decide +kernel
   have tl:(Txt.mul ⟨#[113]⟩ (t:Int)).length=t:=by
    show (Txt.mul ⟨#[113]⟩ (t:Int)).cps.size=t;rw[<-Array.length_toList,Wy,List.length_replicate]
   left;refine r_mulS (by omega) (by decide +kernel) ?_;rw[show PySem.Str.ofString "q"=⟨#[113]⟩from by decide +kernel];left;refine ub D4 (by omega) (by omega) λg4 H4 g40 g41 D5 f4=>?_;have F4:Fr1 d H H4:=λb o hb n1=>((f1.trans f2).trans (f3.trans f4)).get (La (ba hb htp) hb) n1;left;refine Ba (λ_=>?_) (λ_=>?_)
   . left
     refine compR [some (.str abc),some (.int st),some (.int s0),some (.str (Txt.mul ⟨#[113]⟩ (t:Int)))] (λi ys H'=>H'=H4/\ys=(List.range i).map λk=>V.str (toS (nqA st s0 t k))) rfl (by omega) (by omega) ⟨rfl,rfl⟩ (λi ys H' h=>by
      obtain⟨_,e⟩:=h;rw[e,List.length_map,List.length_range];exact Nat.le_refl _) ?_ ?_
     . rintro k ys z H' hk ⟨rfl,rfl⟩
       have m1:(s0+st*k)%26<26:=Nat.mod_lt _ (by decide);have mst:st*k<=11*60:=Nat.mul_le_mul (by omega) (by omega);left;refine fw (Vq (.of 10 10 (by omega) (by omega)) ?_);refine Xq ?_;left;rw[show ((s0:Int)+(st:Int)*(k:Int))%26=(((s0+st*k)%26:Nat):Int) by rw[Int.natCast_emod,Int.natCast_add,Int.natCast_mul];rfl];refine ow alen (Pw m1) ?_;left;refine tw (by rw[tl,show (⟨#[97+(s0+st*k)%26]⟩:PySem.Str).length=1 from rfl,sizeLine_eq];omega) ?_;rw[nqA_eq];refine⟨⟨rfl,?_⟩,_,rfl⟩;rw[List.range_succ,List.map_append];rfl
     . rintro ys H' ⟨rfl,rfl⟩ D6 hD6
       rw[show ((c:Int)).toNat=c by omega];have nD:=F4.free hD6 (D5.ne hD6).1;exact q D6 _ (λk=>toS (nqA st s0 t k)) (λi j hi hj e=>Aw hst2 (by omega) (by omega) (nqA st s0 t) (.inl rfl) e) (λi=>pl_ok (by omega) (nqA st s0 t) (.inl rfl)) (D5.new hD6) (F4.new hD6) nD da
   . left
     refine compR [some (.str abc),some (.int st),some (.int s0),some (.str (Txt.mul ⟨#[113]⟩ (t:Int)))] (λi ys H'=>H'=H4/\ys=(List.range i).map λk=>V.str (toS (nqB st s0 t k))) rfl (by omega) (by omega) ⟨rfl,rfl⟩ (λi ys H' h=>by
      obtain⟨_,e⟩:=h;rw[e,List.length_map,List.length_range];exact Nat.le_refl _) ?_ ?_
     . rintro k ys z H' hk ⟨rfl,rfl⟩
       have m1:(s0+st*k)%26<26:=Nat.mod_lt _ (by decide);have mst:st*k<=11*60:=Nat.mul_le_mul (by omega) (by omega);left;refine fw (Vq (.of 10 10 (by omega) (by omega)) ?_);refine Xq ?_;left;rw[show ((s0:Int)+(st:Int)*(k:Int))%26=(((s0+st*k)%26:Nat):Int) by rw[Int.natCast_emod,Int.natCast_add,Int.natCast_mul];rfl];refine ow alen (Pw m1) ?_;left;refine tw (by rw[show (⟨#[97+(s0+st*k)%26]⟩:PySem.Str).length=1 from rfl,tl,sizeLine_eq];omega) ?_;rw[nqB_eq];refine⟨⟨rfl,?_⟩,_,rfl⟩;rw[List.range_succ,List.map_append];rfl
     . rintro ys H' ⟨rfl,rfl⟩ D6 hD6
       rw[show ((c:Int)).toNat=c by omega];have nD:=F4.free hD6 (D5.ne hD6).1;exact q D6 _ (λk=>toS (nqB st s0 t k)) (λi j hi hj e=>Aw hst2 (by omega) (by omega) (nqB st s0 t) (.inr rfl) e) (λi=>pl_ok (by omega) (nqB st s0 t) (.inr rfl)) (D5.new hD6) (F4.new hD6) nD da
theorem Kp{Cac Cab Caa : Addr}(T : Txt K mg Cac Cab Caa)(U : Up K mg "_law_balls" Qh ["_law_draw", "_law_house", "_law_name", "_law_sat"])(Ca6 : Xe P w K mg base Caa Cab Cac)(Cam : Yd P w K mg base Caa Cab Cac)(Cbm : Oc P w K mg base Caa Cab Cac)(Ca8 : Zd P w K mg base Caa Cab Cac)(Cad : Tc P w K mg base) : Li P w K mg base Caa Cab Cac := by
 have sc:=Ap;refine Callee.of (k:=6) U sc (λvs H Q E h=>?_) (λf cdv A outer s H vs Q E hr h=>?_)
 . obtain⟨x,k,p,kvs,n,y,sx,D,os,ls,hg,r,d,l,sp,z,rfl,_⟩:=h;rfl
 . obtain ⟨x, k, p, kvs, n, y, sx, D, os, ls, hg, r, d, l, sp, z, rfl, DR, AP, B, hl, hn, hd, e1, zs, zp, zl, r1, r2, hsp, nsd, q⟩ := h
   have hu:=hr.units;have hsp':H sp=some (.lst (z.map (ngS D.nm))):=hsp
   conv in (qa _)=>whnf
   with_reducible refine⟨_,(ja (Ia (i:=4) ‹sc.nd› ‹rfl› ‹Or.inl rfl› (Hb ia)) (ja (zd PassesOwn.never ‹rfl› (piLK (K:=K) ‹rfl› (pv 3)) (Ga (i:=5) ‹sc.nd› ‹rfl› ‹Or.inl rfl›) (ka (Ta (Zm ‹PySem.F.plainAttrs_list› ‹PySem.F.slot_list_insert› ‹PySem.F.type_list_insert› ‹Vr› (pv 4) (aa (pe_c ‹Cad› ‹hr.mono (by decide)› ‹rfl› (aa (pv 0) (aa (Pa (addK (K:=K) ‹rfl›) (Ea (lenK (K:=K) ‹rfl›) ‹rfl› ‹T.kAa› pb (aa (pv 4) ia)) oa) ia))) (aa (pv 5) ia)))))) (ja (zd PassesOwn.never ‹rfl› (Jc ‹rfl› ‹T.kAb› (aa (Ea (lenK (K:=K) ‹rfl›) ‹rfl› ‹T.kAa› pb (aa (pv 4) ia)) ia)) (Ga (i:=6) ‹sc.nd› ‹rfl› ‹Or.inl rfl›) (ja (Oa (PW.pt (fg (ua (neK (K:=K) ‹rfl› ‹hu›) (rb ‹Cam› ‹hr.mono (by decide)› (pv 1) (aa (pv 2) ia)) za ‹Aa _›) (fg (ua (neK (K:=K) ‹rfl› ‹hu›) (rb ‹Ca8› ‹hr.mono (by decide)› (pv 1) (aa (pv 2) ia)) (Ze (slK (K:=K) ‹rfl›) (pv 4) Bg (Ag (pv 6))) ‹Aa _›) (ie (ua (Tr (K:=K) ‹rfl›) (Ja (ixK (K:=K) ‹rfl›) (pv 4) (pv 6) ‹λ_ _=>rfl›) (rb ‹Cbm› ‹hr.mono (by decide)› (pv 1) (aa (pv 2) ia)) ‹rfl›))))) (ka (xa kh)) Ca) (ka (Ta (rb ‹Ca6› ‹hr.mono (by decide)› (pv 1) (aa (pv 2) (aa (Ja (ixK (K:=K) ‹rfl›) (pv 4) (pv 6) ‹λ_ _=>rfl›) ia))))))) (ka (xa kh))))),?_⟩
   rw[show L2.start ["_law_draw","_law_house","_law_name","_law_sat","_law_row","_law_person","_law_k"] [V.ref d,V.ref x,V.str y,V.ref sp]=[some (V.ref d),some (V.ref x),some (V.str y),some (V.ref sp),none,none,none] from rfl];left;intro rw' hrw;have nrd:=(DR.ne hrw).1;have nrl:=(DR.ne hrw).2;left;refine forL (a:=sp) (xs:=z.map (ngS D.nm)) (λi σ' H'=>∃(wl:List Nat) (o1:Option V),i<=z.length/\wl.Perm (z.take i)/\DrL H' d l/\Fr1 d H H'/\H' rw'=some (.lst (wl.map (ngS D.nm)))/\σ'=[some (.ref d),some (.ref x),some (.str y),some (.ref sp),some (.ref rw'),o1,none]) ⟨[],none,Nat.zero_le _,List.Perm.refl _,DR.new hrw,(Fr1.refl d H).new hrw,da,rfl⟩ (λi σ' H' _ h=>by
    obtain⟨_,_,_,_,_,f,_⟩:=h;exact SqL.of (f.get hsp' nsd)) ?_ ?_
   . rintro i v σ' H' hv ⟨wl,o1,hi,pm,D1,f1,hw,rfl⟩
     rw[List.getElem?_map]at hv;cases e:z[i]? with
     | none=>rw[e]at hv;exact nomatch hv
     | some a =>
      rw[e]at hv;obtain rfl:ngS D.nm a=v:=Option.some.inj hv;have wlen:=pm.length_eq;rw[List.length_take]at wlen;have hil:=(List.getElem?_eq_some_iff.mp e).1;left;rw[List.length_map];refine ub D1 (by omega) (by omega) λg1 H2 g10 g11 D2 f2=>?_;obtain⟨g,rfl⟩:∃g:Nat,g1=g:=⟨g1.toNat,by omega⟩
      left;have hw2:=f2.get hw nrd;refine Au hw2 (by rw[List.length_map];omega) (by rw[List.length_map,sizeLine_eq];omega) ?_;left;refine⟨wl.take g++a::wl.drop g,_,by omega,?_,D2.upd nrd nrl,λb o hb nb=>?_,?_,rfl⟩
      . rw[BR.Ka e]
        exact(Kn wl a g).trans (pm.append_right [a])
      . rw[va (ba hb hrw)]
        exact f2.get (f1 b o hb nb) nb
      . rw[da,List.map_append,List.map_cons,List.map_take,List.map_drop]
   . rintro σ' H1 ⟨wl,o1,hi,pm,D1,f1,hw,rfl⟩
     rw[List.length_map,List.take_length]at pm;have wlen:wl.length=r.n:=pm.length_eq.trans zl;have G0:=B.gd;have hmz:∀a∈wl,a<D.c:=λa ha=>G0.xw r a (zp a (pm.subset ha));have hnd:wl.Nodup:=pm.symm.nodup (zs.imp Nat.ne_of_lt);have hh1:Hou P w K Caa H1 x k p kvs n:=B.ho.fr1 f1 AP.dx AP.dk AP.dp DR.some.1;have st1:Sit Cab Cac H1 sx D os ls [] hg:=B.st.fr1 DR f1;obtain⟨dx0,f0,past0,h10,h20,h30,h40,h50⟩:=id B.ho.ex;have nrx:rw'≠x:=(ba h10 hrw).symm;have nrk:rw'≠k:=(ba h20 hrw).symm;have nrp:rw'≠p:=(ba h40 hrw).symm;have NM:=En G0.ij;left;rw[List.length_map,wlen];refine forR (λi σ' H'=>∃(kvs':KX) (v:Addr) (os':List Addr) (o2:Option V),i<=r.n/\Fr3 x k p H1 H'/\Hou P w K Caa H' x k p kvs' (n+i)/\kvs'.length=kvs.length/\valX kvs' [.inr "sitting",.inr y]=some (.ref v)/\(i<r.n->Sit Cab Cac H' v D os' ls (wl.take i) hg)/\(i=r.n->Sit Cab Cac H' v D os' (ls++[z]) [] false)/\σ'=[some (.ref d),some (.ref x),some (.str y),some (.ref sp),some (.ref rw'),o1,o2]) (by omega) (by omega) ⟨kvs,sx,os,none,Nat.zero_le _,λa o e _ _ _=>e,hh1,rfl,B.v,λ_=>st1,λe=>by omega,rfl⟩ ?_ ?_
     . rintro i σ' H2 hi ⟨kvs',v,os',o2,_,F2,hh2,kl,hv,st,_,rfl⟩
       have hi':i<r.n:=by omega
       have S2:=st hi';have G2:Good D ls (wl.take i):=G0.bs (λa ha=>hmz a (List.mem_of_mem_take ha)) (by rw[List.length_take];omega);have B2:Qe P w K Caa Cab Cac H2 x k p kvs' (n+i) y v D os' ls (wl.take i) hg:=⟨hh2,hv,S2,G2⟩
       have hw2:H2 rw'=some (.lst (wl.map (ngS D.nm))):=F2 _ _ hw nrx nrk nrp;obtain⟨a,ha⟩:∃a,wl[i]?=some a:=⟨_,List.getElem?_eq_getElem (by omega)⟩
       obtain⟨dx2,f2,past2,h12,_⟩:=id hh2.ex;have aw:a∈wl:=List.mem_of_getElem? ha;have anot:a∉wl.take i:=Vu hnd ha;left;refine⟨x,k,p,kvs',n+i,y,v,D,os',ls,wl.take i,hg,rfl,B2,λH3 s3=>?_⟩;rw[hd];left;refine Ge (λz=>absurd rfl z) (λ_=>?_);have h13:=s3 _ _ h12;left;have B3:Qe P w K Caa Cab Cac H3 x k p kvs' (n+i) y v D os' ls (wl.take i) hg:=⟨hh2.same s3,hv,S2.same s3,G2⟩
       refine⟨x,k,p,kvs',n+i,y,v,D,os',ls,wl.take i,hg,rfl,B3,λp1 H4 hp1 s4 e4=>?_⟩;have S4:=s3.tr s4;have hw4:=S4 _ _ hw2;left;refine Uh hw4 ?_;rw[cq (by rw[List.length_map];omega),<-List.map_take];intro p2 hp2;have S5:=S4.new (o:=.lst ((wl.take i).map (ngS D.nm))) hp2;have e5:=La (o:=.lst ((wl.take i).map (ngS D.nm))) (ba e4 hp2) e4;have e6:upd H4 p2 (.lst ((wl.take i).map (ngS D.nm))) p2=some (.lst ((wl.take i).map (ngS D.nm))):=da;generalize upd H4 p2 (.lst ((wl.take i).map (ngS D.nm)))=H5 at S5 e5 e6 ⊢;left;refine Uq (l:=wl.take i) (nm:=D.nm) e5 e6 ?_;have hw5:=S5 _ _ hw2;have h15:=S5 _ _ h12;left;refine gc hw5 (v:=.str (D.nm a)) (kc (by rw[List.getElem?_map,ha];rfl)) ?_;have B5:Qe P w K Caa Cab Cac H5 x k p kvs' (n+i) y v D os' ls (wl.take i) hg:=⟨hh2.same S5,hv,S2.same S5,G2⟩
       left;refine⟨x,k,p,kvs',n+i,y,v,D,os',ls,wl.take i,hg,rfl,B5,λp3 H6 hp3 s6 e7=>?_⟩;have e7':H6 p3=some (.lst ((rf D ls (wl.take i) hg).map (ngS D.nm))):=e7;have aleft:=nv hd e1 (zp a (pm.subset aw)) anot;refine⟨p3,_,rfl,.inl (SqL.of e7'),rfl,Ko NM _,?_⟩;rw[gz NM (hmz a aw) (G2.Ho hg),decide_eq_true aleft];have S6:=S5.tr s6;have hw6:=S6 _ _ hw2;have h16:=S6 _ _ h12;left;rw[show (if true=true then !true else true)=false from rfl];refine iteF ?_;left;refine gc hw6 (v:=.str (D.nm a)) (kc (by rw[List.getElem?_map,ha];rfl)) ?_;have B6:Qe P w K Caa Cab Cac H6 x k p kvs' (n+i) y v D os' ls (wl.take i) hg:=⟨hh2.same S6,hv,S2.same S6,G2⟩
       have tl:(wl.take i).length=i:=by rw[List.length_take];omega
       have tn:=BR.Ka ha;left;refine⟨x,k,p,kvs',n+i,y,v,D,os',ls,wl.take i,hg,r,a,rfl,B6,by omega,by omega,hd,e1,aleft,by omega,λhne b v' H7 os2 F7 hh7 S7=>?_,λhe z' pz sz b v' H7 os2 F7 hh7 S7=>?_⟩
       . exact⟨_,v',os2,_,by omega,λc o e n1 n2 n3=>F7 c o (S6 c o (F2 c o e n1 n2 n3)) n1 n2 n3,hh7,(qi hv).trans kl,Wa,λ_=>by rw[tn];exact S7,λe=>absurd e (by omega),rfl⟩
       . have ez:z'=z:=Lm (by
          rw[<-tn,show i+1=wl.length by omega,List.take_length]at pz;exact pz.trans pm) sz zs
         subst ez;exact⟨_,v',os2,_,by omega,λc o e n1 n2 n3=>F7 c o (S6 c o (F2 c o e n1 n2 n3)) n1 n2 n3,hh7,(qi hv).trans kl,Wa,λe=>absurd e (by omega),λ_=>S7,rfl⟩
     . rintro σ' H2 ⟨kvs',v,os',o2,_,F2,hh2,kl,hv,_,st,rfl⟩
       rw[show ((r.n:Int)).toNat=r.n by omega]at st hh2;left;refine q H2 kvs' v os' (λa o e n1 n2 n3 n4=>F2 a o (f1 a o e n4) n1 n2 n3) (Tf D1 F2 AP) hh2 kl hv (st rfl)
theorem ok_law{Cac Cab Caa : Addr}(T : Txt K mg Cac Cab Caa){f : Addr}{fd : FuncData}(U : Fun K "law" "law" ju f fd)(Ca4 : Zn P w K mg base)(Cav : sg P w K mg base)(Cb2 : Ht P w K mg base)(Cbe : Ve P w K mg base Caa)(Cbj : wd P w K mg base Caa)(Cbv : vd P w K mg base Caa)(Cbg : Yf P w K mg base Caa)(Cbn : de P w K mg base Caa Cab Cac)(Ca7 : Ue P w K mg base Caa Cab Cac)(Cbr : Pc P w K mg base Caa)(Cam : Yd P w K mg base Caa Cab Cac)(Cbk : ae P w K mg base Caa Cab Cac)(Cbx : We P w K mg base Caa Cab Cac)(Ca0 : Xd P w K mg base Caa Cab Cac)(Ca9 : Ki P w K mg base)(Cad : Tc P w K mg base)(Cbl : Ud P w K mg base)(Ca5 : jl P w K mg base)(Cb3 : Li P w K mg base Caa Cab Cac) : FnOk P w K mg base CX0 9 f fd ["_law_script"] (Aq K) := by
 have sc:=sc_law;refine U.ok (k:=8) sc (λvs H Q E h=>?_) (λcdv A outer s H vs Q E hr h=>?_)
 . exact zq h
 . obtain ⟨a, ns, rfl, hS, hn, q⟩ := h
   have hu:=hr.units
   conv in (qa _)=>whnf
   with_reducible refine⟨_,(ja (Ia (i:=1) ‹sc.nd› ‹rfl› ‹Or.inl rfl› (pe_c ‹Ca9› ‹hr.mono (by decide)› ‹rfl› (aa (pv 0) ia))) (ja (Ia (i:=2) ‹sc.nd› ‹rfl› ‹Or.inl rfl› (pe_c ‹Ca5› ‹hr.mono (by decide)› ‹rfl› (aa (pv 1) (aa oa ia)))) (ja (Ia (i:=3) ‹sc.nd› ‹rfl› ‹Or.inl rfl› (pe_cn0 ‹Cbe› ‹hr.mono (by decide)› ‹rfl›)) (ja (Ia (i:=4) ‹sc.nd› ‹rfl› ‹Or.inl rfl› (Pa (addK (K:=K) ‹rfl›) oa (pe_c ‹Cad› ‹hr.mono (by decide)› ‹rfl› (aa (pv 1) (aa oa ia))))) (ja (zd PassesOwn.never ‹rfl› (piLK (K:=K) ‹rfl› (Ze (slK (K:=K) ‹rfl›) (pv 2) Bg (Ag (pv 4)))) (Ga (i:=5) ‹sc.nd› ‹rfl› ‹Or.inl rfl›) (ka (Ta (rb ‹Cbj› ‹hr.mono (by decide)› (pv 3) (aa (pv 5) (aa (Ja (ixK (K:=K) ‹rfl›) (pv 2) (pe_c ‹Cad› ‹hr.mono (by decide)› ‹rfl› (aa (pv 1) (aa oa ia))) ‹λ_ _=>rfl›) ia)))))) (ja (Ta (rb ‹Cbv› ‹hr.mono (by decide)› (pv 3) (aa za (aa (Hb (aa (Ja (ixK (K:=K) ‹rfl›) (pv 2) oa ‹λ_ _=>rfl›) ia)) ia)))) (ja (Ia (i:=6) ‹sc.nd› ‹rfl› ‹Or.inl rfl› (pe_c ‹Cbl› ‹hr.mono (by decide)› ‹rfl› (aa (pv 1) (aa (pv 4) (aa oa (aa oa ia)))))) (ja (Ta (rb ‹Cbg› ‹hr.mono (by decide)› (pv 3) (aa za (aa (pv 6) ia)))) (ja (Ta (rb ‹Cbn› ‹hr.mono (by decide)› (pv 3) (aa za (aa za (aa za ia))))) (ja (Ia (i:=7) ‹sc.nd› ‹rfl› ‹Or.inl rfl› (rb ‹Cbr› ‹hr.mono (by decide)› (pv 3) (aa za ia))) (ja (Ia (i:=8) ‹sc.nd› ‹rfl› ‹Or.inl rfl› (pe_c ‹Cad› ‹hr.mono (by decide)› ‹rfl› (aa (pv 1) (aa (pe_c ‹Ca4› ‹hr.mono (by decide)› ‹rfl› (aa (pv 4) (aa (pv 6) ia))) ia)))) (ja (Ia (i:=9) ‹sc.nd› ‹rfl› ‹Or.inl rfl› (pe_c ‹Cav› ‹hr.mono (by decide)› ‹rfl› (aa (Ze (slK (K:=K) ‹rfl›) (pv 2) Bg (Ag (pv 4))) (aa (pv 7) (aa (pv 6) (aa (pv 8) ia)))))) (ja (zd PassesOwn.never ‹rfl› (Jc ‹rfl› ‹T.kAb› (aa (Ea (lenK (K:=K) ‹rfl›) ‹rfl› ‹T.kAa› pb (aa (pv 6) ia)) ia)) (Ga (i:=10) ‹sc.nd› ‹rfl› ‹Or.inl rfl›) (Vl (Oa (ua (eqK (K:=K) ‹rfl› ‹hu›) (rb ‹Cam› ‹hr.mono (by decide)› (pv 3) (aa za ia)) za ‹Aa _›) (ka (Ta (rb ‹Ca7› ‹hr.mono (by decide)› (pv 3) (aa za ia)))) Ca) (ja (Oa (PW.pt (Xh (ua (eqK (K:=K) ‹rfl› ‹hu›) (Ea (lenK (K:=K) ‹rfl›) ‹rfl› ‹T.kAa› pb (aa (rb ‹Ca0› ‹hr.mono (by decide)› (pv 3) (aa za ia)) ia)) (pv 10) ‹Aa _›) (Kf (Ul (truK (K:=K) ‹rfl› (pe_c ‹Cb3› ‹hr.mono (by decide)› ‹rfl› (aa (pv 1) (aa (pv 3) (aa za (aa (Ja (ixK (K:=K) ‹rfl›) (pv 9) (pv 10) ‹λ_ _=>rfl›) ia)))))))))) (ka (xa kh)) Ca) (ka (Oa (PW.pt (fg (ua (neK (K:=K) ‹rfl› ‹hu›) (rb ‹Ca0› ‹hr.mono (by decide)› (pv 3) (aa za ia)) (Ze (slK (K:=K) ‹rfl›) (pv 9) Bg (Ag (Pa (addK (K:=K) ‹rfl›) (pv 10) oa))) ‹Aa _›) (ie (ua (neK (K:=K) ‹rfl› ‹hu›) (rb ‹Cbk› ‹hr.mono (by decide)› (pv 3) (aa za ia)) (Ja (ixK (K:=K) ‹rfl›) (pv 9) (pv 10) ‹λ_ _=>rfl›) ‹Aa _›)))) (ka (xa kh)) Ca))))) (ka (xa (Zl (Bb (eqK (K:=K) ‹rfl› ‹hu›) (rb ‹Cam› ‹hr.mono (by decide)› (pv 3) (aa za ia)) za ‹Aa _›) (Cr (Bb (eqK (K:=K) ‹rfl› ‹hu›) (rb ‹Cbx› ‹hr.mono (by decide)› (pv 3) (aa za ia)) (pe_c ‹Cb2› ‹hr.mono (by decide)› ‹rfl› (aa (Ze (slK (K:=K) ‹rfl›) (pv 2) Bg (Ag (pv 4))) (aa (pv 7) (aa (pv 6) (aa (pv 8) ia))))) ‹Aa _›)))))))))))))))))),?_⟩
   rw[show L2.start ["_law_script","_law_draw","_law_names","_law_house","_law_many","_law_name","_law_row","_law_friends","_law_number","_law_due","_law_k"] [V.ref a]=[some (V.ref a),none,none,none,none,none,none,none,none,none,none] from rfl];left;refine Cq hS λd l H1 hd hl D1 s1=>?_;left;refine⟨d,l,9,rfl,D1,by omega,λnp H2 nm ij ok D2 f2 hnp hn2=>?_⟩;left;intro x dx hx hdx ndx;refine⟨x,dx,rfl,da,λH3 k p b0 r0 hk hp F3 hh3 e3=>⟨rfl,?_⟩⟩;have s3:=Dd (Same.refl H2) hx hdx F3;have D3:=D2.same s3;have hk2:H2 k=none:=by
    have nkx:k≠x:=λz=>by subst z;rw[da]at hk;exact nomatch hk
    have nkd:k≠dx:=λz=>by subst z;rw[va nkx,da]at hk;exact nomatch hk
    rw[va nkx,va nkd]at hk;exact hk
   have hp2:H2 p=none:=by
    have nkx:p≠x:=λz=>by subst z;rw[da]at hp;exact nomatch hp
    have nkd:p≠dx:=λz=>by subst z;rw[va nkx,da]at hp;exact nomatch hp
    rw[va nkx,va nkd]at hp;exact hp
   have AP:Apart x k p d l:=⟨(D2.ne hx).1.symm,(D2.ne hk2).1.symm,(D2.ne hp2).1.symm,(D2.ne hx).2.symm,(D2.ne hk2).2.symm,(D2.ne hp2).2.symm⟩
   have nnx:np≠x:=ba hn2 hx;have nnk:np≠k:=ba hn2 hk2;have nnp:np≠p:=ba hn2 hp2;have nnd:np≠d:=(D1.ne hnp).1;left;refine ub D3 (by omega) (by omega) λg1 H4 g10 g11 D4 f4=>?_;obtain⟨c,hc,c1,c2⟩:∃c:Nat,2+g1=(c:Int)/\2<=c/\c<=9:=⟨(2+g1).toNat,by omega,by omega,by omega⟩
   have hh4:=hh3.fr1 f4 AP.dx AP.dk AP.dp D3.some.1;have hn4:=f4.get (s3 _ _ hn2) nnd;left;rw[hc];left;refine Uh hn4 ?_;rw[cq (by rw[List.length_map,List.length_range];omega),<-List.map_take,show (List.range 9).take c=List.range c from by rw[List.take_range,Nat.min_eq_left c2]];intro sl hsl;have s5:=(Same.refl H4).new (o:=.lst ((List.range c).map λi=>V.str (nm i))) hsl;have w5:upd H4 sl (.lst ((List.range c).map λi=>V.str (nm i))) sl=some (.lst ((List.range c).map λi=>V.str (nm i))):=da;generalize upd H4 sl (.lst ((List.range c).map λi=>V.str (nm i)))=H5 at s5 w5 ⊢;have hh5:=hh4.same s5;have D5:=D4.same s5;have hn5:=s5 _ _ hn4;obtain⟨dx4,f40,past4,h14,h24,h34,h44,h54⟩:=id hh4.ex;have nsx:sl≠x:=(ba h14 hsl).symm;have nsk:sl≠k:=(ba h24 hsl).symm;have nsp:sl≠p:=(ba h44 hsl).symm;have nsd:sl≠d:=(D4.ne hsl).1;have R5:TsB cn false H5 r0 [] []:=⟨s5 _ _ (f4.get e3 (zc e3 (D3.some.1.choose_spec) λz=>nomatch z)),λi q hq=>by simp at hq,rfl⟩
   left;refine forL (a:=sl) (xs:=(List.range c).map λi=>V.str (nm i)) (λi σ' H'=>∃(kvs:KX) (r:Addr) (ps:List Addr) (rl:List (PySem.Str×PySem.Str)) (o5:Option V),i<=c/\Fr4 x k p d H5 H'/\DrL H' d l/\Hou P w K Caa H' x k p kvs i/\kvs.length=1/\valX kvs kd=some (.ref r)/\(∀key,kd≠key->valX kvs key=none)/\TsB cn false H' r ps rl/\rl.map (·.1)=(List.range i).map nm/\σ'=[some (.ref a),some (.ref d),some (.ref np),some (.ref x),some (.int c),o5,none,none,none,none,none]) ⟨_,r0,[],[],none,Nat.zero_le _,λc o e _ _ _ _=>e,D5,hh5,rfl,ag rfl,λkey n=>(bg n).trans rfl,R5,rfl,rfl⟩ (λi σ' H' _ h=>by
    obtain⟨_,_,_,_,_,_,F,_⟩:=h;exact SqL.of (F _ _ w5 nsx nsk nsp nsd)) ?_ ?_
   . rintro i v σ' H6 hv ⟨kvs,r,ps,rl,o5,hi,F6,D6,hh6,kl,vr,vo,R6,rm,rfl⟩
     have hic:i<c:=by
      have:=(List.getElem?_eq_some_iff.mp hv).1;rw[List.length_map,List.length_range]at this;exact this
     rw[List.getElem?_map,List.getElem?_range hic]at hv;obtain rfl:V.str (nm i)=v:=Option.some.inj hv;obtain⟨dx6,f6,past6,h16,_⟩:=id hh6.ex;left;refine ub D6 (by omega) (by omega) λg2 H7 g20 g21 D7 f7=>?_;obtain⟨g,rfl⟩:∃g:Nat,g2=g:=⟨g2.toNat,by omega⟩
     have hn7:=f7.get (F6 _ _ hn5 nnx nnk nnp nnd) nnd;have hh7:=hh6.fr1 f7 AP.dx AP.dk AP.dp D6.some.1;have rln:rl.length=i:=by have:=congrArg List.length rm;rw[List.length_map,List.length_map,List.length_range]at this;exact this
     left;refine gc hn7 (v:=.str (nm g)) (kc (by rw[List.getElem?_map,List.getElem?_range (by omega)];rfl)) ?_;left;refine⟨x,k,p,kvs,i,nm i,nm g,r,ps,rl,rfl,hh7,by omega,by omega,ok i,ok g,vr,ko f7 D6.some.1.choose_spec (λ_=>⟨_,rfl⟩) R6,by omega,?_,λb r2 ps2 H8 F8 hh8 R8=>?_⟩
     . rw[rm]
       intro m;obtain⟨j,hj,ej⟩:=List.mem_map.mp m;have hj':=List.mem_range.mp hj;have:=ij j i (by omega) (by omega) ej;omega
     . refine⟨_,r2,ps2,_,_,by omega,F6.tr ((Fr4.of1 f7).tr (Fr4.of3 F8)),Tf D7 F8 AP,hh8,(qi vr).trans kl,Wa,λkey n=>(Za n).trans (vo key n),R8,?_,rfl⟩
       rw[List.map_append,rm,List.range_succ,List.map_append];rfl
   . rintro σ' H6 ⟨kvs, r, ps, rl, o5, hi, F6, D6, hh6, kl, vr, vo, R6, rm, rfl⟩
     rw[List.length_map,List.length_range]at hh6 rm;have rln:rl.length=c:=by have:=congrArg List.length rm;rw[List.length_map,List.length_map,List.length_range]at this;exact this
     obtain⟨dx6,f6,past6,h16,_⟩:=id hh6.ex;have hn6:=F6 _ _ hn5 nnx nnk nnp nnd;left;intro l1 hl1;have s7:=(Same.refl H6).new (o:=.lst [.str (nm 0)]) hl1;have w7:upd H6 l1 (.lst [.str (nm 0)]) l1=some (.lst [.str (nm 0)]):=da;left;refine⟨x,k,p,l1,kvs,c,"us",nm 0,rfl,hh6.same s7,by omega,by omega,ok_us,ok 0,w7,λbL vL H8 F8 hh8 wL=>?_⟩;have F8':Fr3 x k p H6 H8:=λa o e n1 n2 n3=>F8 a o (s7 a o e) n1 n2 n3;have R8:=hh6.ts F8' (λ_=>.tup _) R6;have D8:=Tf D6 F8' AP;have hn8:=F8' _ _ hn6 nnx nnk nnp;left;refine Hl (k:=5) (m:=6) D8 (by omega) (by omega) (by omega) (by omega) (by omega) λra H9 rps rs C9 rl9 hw9 D9 f9 hra=>?_;have hh9:=hh8.fr1 f9 AP.dx AP.dk AP.dp D8.some.1;obtain⟨dx9,f90,past9,h19,h29,_,h49,_⟩:=id hh9.ex;obtain⟨dx8,f80,past8,h18,h28,_,h48,_⟩:=id hh8.ex;have nax:ra≠x:=(ba h18 hra).symm;have nak:ra≠k:=(ba h28 hra).symm;have nap:ra≠p:=(ba h48 hra).symm;have nad:ra≠d:=(D8.ne hra).1;have R9:=ko f9 D8.some.1.choose_spec (λ_=>⟨_,rfl⟩) R8;have wL9:=f9.get wL (zc wL D8.some.1.choose_spec λz=>nomatch z);have hn9:=f9.get hn8 nnd;left;refine⟨x,k,p,ra,_,c+1,"way",rps,rs,rfl,hh9,Nat.lt_of_le_of_lt (Mc kvs kUs bL (.ref vL)) (by omega),by omega,ok_way,C9.rw.b,by omega,Cw (by omega) C9.ft (Nat.le_refl _),λbW vW ps2 H10 F10 hh10 R10=>?_⟩;have R10r:=hh9.ts F10 (λ_=>.tup _) R9;have D10:=Tf D9 F10 AP;have wL10:=hh9.keep F10 wL9 (.tup _);have C10:=Lw hh9 F10 C9 nax nak nap;have hn10:=F10 _ _ hn9 nnx nnk nnp;obtain⟨dxA,fA,pastA,h1A,_⟩:=id hh10.ex;have kl2:(putX (putX kvs kUs bL (.ref vL)) kWay bW (.ref vW)).length<=3:=by
      have:=Mc kvs kUs bL (.ref vL);have:=Mc (putX kvs kUs bL (.ref vL)) kWay bW (.ref vW);omega
     left;refine⟨x,k,p,_,c+1+1,"now","way","us",r,vW,vL,ps,ps2,rl,rs,[nm 0],rfl,hh10,Nat.lt_of_le_of_lt kl2 (by decide),by omega,ok_now,(Za k_wn).trans ((Za k_un).trans (vo kNow k_rn)),Wa,R10,(Za k_uw.symm).trans Wa,wL10,(Za k_rw.symm).trans ((Za k_ru.symm).trans vr),R10r,by omega,by omega,by rw[rln];exact C9.ft,by rw[rln];exact hw9,by omega,λbN vN H11 F11 hh11 S11=>?_⟩;have R11:=hh10.ts F11 (λ_=>.tup _) R10r;have D11:=Tf D10 F11 AP;have wL11:=hh10.keep F11 wL10 (.tup _);have C11:=Lw hh10 F11 C10 nax nak nap;have hn11:=F11 _ _ hn10 nnx nnk nnp;obtain⟨dxB,fB,pastB,h1B,_⟩:=id hh11.ex;left;refine⟨x,k,p,_,c+1+1+1,"us",r,vL,ps,rl,[nm 0],rfl,hh11,(Za k_un.symm).trans ((Za k_uw.symm).trans Wa),wL11,(Za k_rn.symm).trans ((Za k_rw.symm).trans ((Za k_ru.symm).trans vr)),R11,by omega,λfa H12 hfa s12 w12=>?_⟩;have nfd:fa≠d:=(D11.ne hfa).1;have D12:=D11.same s12;have C12:=C11.same s12;have hn12:=s12 _ _ hn11;have hh12:=hh11.same s12;have S12:=S11.same s12;left;refine⟨_,_,_,_,rfl,C12,λH13 s13=>?_⟩;have D13:=D12.same s13;have ap:=Rv C12.ft;have al:allD c rs<2^3073:=by
      have:=sk (b:=512) (drs c c rs) (Ss C12.ft (Nat.le_refl _) (by omega));rw[Mg]at this;exact Nat.lt_of_lt_of_le this (Nat.pow_le_pow_right (by decide) (by omega))
     left;refine Rt D13 (by omega) 3073 (by rw[Int.natAbs_natCast];exact al) (by decide) λgN H14 gN0 gN1 D14 f14=>?_;obtain⟨N,rfl⟩:∃N:Nat,gN=N:=⟨gN.toNat,by omega⟩
     have hN:N<allD c rs:=by omega
     have C14:=BL.CR.fr1 (C12.same s13) D13 nad f14;have hn14:=f14.get (s13 _ _ hn12) nnd;have w14:=f14.get (s13 _ _ w12) nfd;have hh14:=(hh12.same s13).fr1 f14 AP.dx AP.dk AP.dp D13.some.1;have S14:=(S12.same s13).fr1 D13 f14;left;refine Uh hn14 ?_;rw[cq (by rw[List.length_map,List.length_range];omega),<-List.map_take,show (List.range 9).take c=List.range c from by rw[List.take_range,Nat.min_eq_left c2]];intro fo hfo;have s15:=(Same.refl H14).new (o:=.lst ((List.range c).map λi=>V.str (nm i))) hfo;have w15:upd H14 fo (.lst ((List.range c).map λi=>V.str (nm i))) fo=some (.lst ((List.range c).map λi=>V.str (nm i))):=da;generalize upd H14 fo (.lst ((List.range c).map λi=>V.str (nm i)))=H15 at s15 w15 ⊢;subst rln;have hnm:∀i,i<rl.length->(bgTD rl [nm 0] ps2 rs).nm i=nm i:=λi hi=>by
      have:=congrArg (λz:List PySem.Str=>z[i]?) rm;simp only[List.getElem?_map,List.getElem?_range hi,List.getElem?_eq_getElem hi,Option.map_some]at this;show (rl[i]?.getD ("","")).1=nm i;rw[List.getElem?_eq_getElem hi];exact Option.some.inj this
     have ijD:∀i j,i<rl.length->j<rl.length->(bgTD rl [nm 0] ps2 rs).nm i=(bgTD rl [nm 0] ps2 rs).nm j->i=j:=λi j hi hj e=>by
      rw[hnm i hi,hnm j hj]at e;exact ij i j (by omega) (by omega) e
     have frE:=bq ijD;have hcD:(bgTD rl [nm 0] ps2 rs).c=rl.length:=rfl;have hrD:(bgTD rl [nm 0] ps2 rs).rs=rs:=rfl;generalize hD:bgTD rl [nm 0] ps2 rs=D at hnm ijD frE hcD hrD S14;have NM:Nam (ngS D.nm) rl.length:=En ijD;have w15':H15 fo=some (lstG (ngS D.nm) (List.range rl.length)):=by
      rw[w15];refine congrArg (λz=>some (HO.lst z)) (List.map_congr_left λi hi=>?_);show V.str (nm i)=V.str (D.nm i);rw[hnm i (List.mem_range.mp hi)]
     left;refine⟨_,_,_,_,_,_,_,_,_,rfl,NM,w15',(s15 _ _ w14),(yi _),(C14.same s15),hw9,hN,λdu H16 qd hdu s16 T16 qd1 qd2=>?_⟩;have s16':=s15.tr s16;have hh16:=hh14.same s16';have S16:=S14.same s16';have D16:=D14.same s16';have C16:=C14.same s16';have hn16:=s16' _ _ hn14;have w16:=s16' _ _ w14;have hh15:=hh14.same s15;obtain⟨dxF,fF,pastF,h1F,h2F,_,h4F,_⟩:=id hh15.ex;have nof:∀z,H15 z=none->z≠x/\z≠k/\z≠p/\z≠d:=λz hz=>⟨(ba h1F hz).symm,(ba h2F hz).symm,(ba h4F hz).symm,((D14.same s15).ne hz).1⟩
     obtain⟨ndx,ndk,ndp,ndd⟩:=nof du hdu;have nqd:∀z∈qd,z≠x/\z≠k/\z≠p/\z≠d:=λz hz=>nof z (qd1 z hz).1;obtain⟨dxG,fG,pastG,h1G,h2G,_,h4G,_⟩:=id hh11.ex;have nfx:fa≠x:=(ba h1G hfa).symm;have nfk:fa≠k:=(ba h2G hfa).symm;have nfp:fa≠p:=(ba h4G hfa).symm;have rc1:1<=rl.length:=by omega
     have RD:∀k,k<=rs.length->Road rl.length (λa=>inV (ngS D.nm a) (((rl.filter λq=>decide (q.2∈[nm 0])).map (·.1)).map V.str)) rs (plA rl.length (λa=>inV (ngS D.nm a) (((rl.filter λq=>decide (q.2∈[nm 0])).map (·.1)).map V.str)) (List.range rl.length) rs N) k:=road rc1 C9.ft;have be:∀l∈plA rl.length (λa=>inV (ngS D.nm a) (((rl.filter λq=>decide (q.2∈[nm 0])).map (·.1)).map V.str)) (List.range rl.length) rs N,(∀a∈l,a<rl.length)/\l.length<=rl.length:=λl hl=>⟨Co rs _ N (λa ha=>List.mem_range.mp ha) l hl,ur rs _ N _ List.length_range C9.ft (Nat.le_refl _) l hl⟩
     have hlast:=wk (F:=λa=>inV (ngS D.nm a) (((rl.filter λq=>decide (q.2∈[nm 0])).map (·.1)).map V.str)) rs (List.range rl.length) N rl.length List.length_range C9.ft (Nat.le_refl _);have hLl:=Cg (c:=rl.length) (F:=λa=>inV (ngS D.nm a) (((rl.filter λq=>decide (q.2∈[nm 0])).map (·.1)).map V.str)) rs (List.range rl.length) N;generalize hL:plA rl.length (λa=>inV (ngS D.nm a) (((rl.filter λq=>decide (q.2∈[nm 0])).map (·.1)).map V.str)) (List.range rl.length) rs N=L at T16 RD be hlast hLl;have Ft:=C9.ft;rw[<-hcD]at Ft;have good:∀j,j<=rs.length->Good D (L.take j) []:=λj hj=>by
      have R:=RD j hj;rw[<-hcD,<-hrD]at R;exact R.good (by rw[hcD];exact rc1) (by rw[hcD];omega) (by rw[hrD];exact Ft) (by rw[hrD];omega) (by rw[hcD];exact be) (by rw[hcD];exact ijD)
     have hw16:H16 ra=some (.lst (rps.map V.ref)):=C16.rw.ls;left;rw[List.length_map,C16.rw.ln];refine forR (λi σ' H'=>∃(kvs':KX) (v:Addr) (os:List Addr) (n:Nat) (o:Option V),i<=rs.length/\Fr4 x k p d H16 H'/\DrL H' d l/\Hou P w K Caa H' x k p kvs' n/\n<=20+61*i/\kvs'.length<=4/\valX kvs' kNow=some (.ref v)/\Sit Cab Cac H' v D os (L.take i) [] false/\σ'=[some (.ref a),some (.ref d),some (.ref np),some (.ref x),some (.int (rl.length:Nat)),o5,some (.ref ra),some (.ref fa),some (.int (N:Nat)),some (.ref du),o]) (by omega) (by omega) ⟨_,vN,[],_,none,Nat.zero_le _,λc o e _ _ _ _=>e,D16,hh16,by omega,Nat.le_trans (Mc _ _ _ _) (Nat.succ_le_succ kl2),Wa,S16,rfl⟩ ?_ ?_
     . rintro i σ' H17 hi ⟨kv,v,os,n,o,_,F17,D17,hh17,nn,klv,hv,S17,rfl⟩
       have hi':i<rs.length:=by omega
       obtain⟨rr,er⟩:∃r,rs[i]?=some r:=⟨_,List.getElem?_eq_getElem hi'⟩
       have R:=RD i (by omega);obtain⟨z,ez,zr,zl,zu,zp⟩:=R.nx rr er;have G0:=good i (by omega);have G1:=good (i+1) (by omega);have til:(L.take i).length=i:=by rw[List.length_take,hLl];omega
       have er':D.rs[(L.take i).length]?=some rr:=by rw[til,hrD];exact er
       have fit:=C9.ft.at er;have uE:und D.c D.F (Ma D.c (L.take i)) rr=und rl.length (λa=>inV (ngS D.nm a) (((rl.filter λq=>decide (q.2∈[nm 0])).map (·.1)).map V.str)) (Ma rl.length (L.take i)) rr:=by
        rw[hcD];exact(jq frE R.bm rr).symm
       have B17:Qe P w K Caa Cab Cac H17 x k p kv n "now" v D os (L.take i) [] false:=⟨hh17,hv,S17,G0⟩
       obtain⟨dxH,fH,pastH,h1H,_⟩:=id hh17.ex;left;refine Zv (λσ' H'=>∃(kvs':KX) (v:Addr) (os:List Addr) (n':Nat) (ls:List (List Nat)) (hg:Bool),Fr4 x k p d H16 H'/\DrL H' d l/\Hou P w K Caa H' x k p kvs' n'/\n' <=n+1/\kvs'.length<=4/\valX kvs' kNow=some (.ref v)/\Sit Cab Cac H' v D os ls [] hg/\((ls=L.take (i+1)/\hg=false)\/(ls=L.take i/\dueN D.rs i hg="draw"/\und D.c D.F (Ma D.c (L.take i)) rr=none))/\σ'=[some (.ref a),some (.ref d),some (.ref np),some (.ref x),some (.int (rl.length:Nat)),o5,some (.ref ra),some (.ref fa),some (.int (N:Nat)),some (.ref du),some (.int (i:Nat))]) ?_ ?_
       . left
         refine⟨x,k,p,kv,n,"now",v,D,os,L.take i,[],false,rfl,B17,λH18 s18=>?_⟩;have h1I:=s18 _ _ h1H;have F18:=F17.tr (Fr4.ofS s18);left;cases rr with
         | lot m =>
          have ed:dueN D.rs (L.take i).length false="draw":=by unfold dueN;rw[er']
          rw[ed];refine Ba (λz=>absurd z (by decide)) (λ_=>?_);left;exact⟨kv,v,os,n,L.take i,false,F18,D17.same s18,hh17.same s18,by omega,klv,hv,S17.same s18,.inr ⟨rfl,by rw[<-til];exact ed,by rw[uE];rfl⟩,rfl⟩
         | vote m mq mw =>
          have ed:dueN D.rs (L.take i).length false="poll":=by unfold dueN;rw[er'];rfl
          rw[ed];refine Ba (λ_=>?_) (λz=>absurd rfl z);left;refine⟨x,k,p,kv,n,"now",v,D,os,L.take i,[],false,.vote m mq mw,rfl,⟨hh17.same s18,hv,S17.same s18,G0⟩,by omega,by omega,ed,er',λhnone b v' H19 os' F19 hh19 S19=>?_,λy hy b v' H19 os' F19 hh19 S19=>?_⟩
          . exact⟨_,v',os',n+1,L.take i,true,F18.tr (Fr4.of3 F19),Tf (D17.same s18) F19 AP,hh19,by omega,Nat.le_trans (Nat.le_of_eq (qi hv)) klv,Wa,S19,.inr ⟨rfl,by unfold dueN;rw[hrD,er];rfl,hnone⟩,rfl⟩
          . rw[uE]at hy
            obtain rfl:=zu y hy;exact⟨_,v',os',n+1,L.take i++[y],false,F18.tr (Fr4.of3 F19),Tf (D17.same s18) F19 AP,hh19,by omega,Nat.le_trans (Nat.le_of_eq (qi hv)) klv,Wa,S19,.inl ⟨by rw[BR.Ka ez],rfl⟩,rfl⟩
       . rintro σ'' H20 ⟨kv2,v2,os2,n2,ls2,hg2,F20,D20,hh20,nn2,kl2',hv2,S20,alt,rfl⟩
         obtain⟨dxJ,fJ,pastJ,h1J,_⟩:=id hh20.ex;have G2:Good D ls2 []:=by
          rcases alt with⟨e,_⟩|⟨e,_⟩
          . rw[e];exact G1
          . rw[e];exact G0
         left;refine⟨x,k,p,kv2,n2,"now",v2,D,os2,ls2,[],hg2,rfl,⟨hh20,hv2,S20,G2⟩,λst HS qs hst sS TS=>?_⟩;have h1S:=sS _ _ h1J;have wst:HS st=some (.lst (qs.map V.ref)):=TS.ls;left;rw[List.length_map,TS.ln];rcases alt with⟨rfl,rfl⟩|⟨rfl,hdr,hun⟩
         . refine Ba (λz=>by rw[List.length_take,hLl]at z;omega) (λ_=>?_)
           have FC:=F20.tr (Fr4.ofS sS);have DC:=D20.same sS;have hhC:=hh20.same sS;have SC:=S20.same sS;have hvC:=hv2;have klC:=kl2';have nC':n2<=20+61*(i+1):=by omega
           have SC':Sit Cab Cac HS v2 D os2 (L.take (i+1)) [] false:=SC;have BC:Qe P w K Caa Cab Cac HS x k p kv2 n2 "now" v2 D os2 (L.take (i+1)) [] false:=⟨hhC,hvC,SC',G1⟩
           obtain⟨dxC,fC,pastC,h1C,_⟩:=id hhC.ex;left;refine⟨x,k,p,kv2,n2,"now",v2,D,os2,L.take (i+1),[],false,rfl,BC,λst2 HD qs2 hst2 sD TD=>?_⟩;have TD0:=(oq FC T16 ndx ndk ndp ndd nqd).same sD;left;rw[show ((i:Int)+1)=((i+1:Nat):Int) from rfl];refine Uh TD0.ls ?_;rw[cq (by rw[List.length_map,TD0.ln,hLl];omega),<-List.map_take];intro s2 hs2;have sE:=sD.new (o:=.lst ((qd.take (i+1)).map V.ref)) hs2;have sE':=(Same.refl HD).new (o:=.lst ((qd.take (i+1)).map V.ref)) hs2;have wE:upd HD s2 (.lst ((qd.take (i+1)).map V.ref)) s2=some (.lst ((qd.take (i+1)).map V.ref)):=da;generalize upd HD s2 (.lst ((qd.take (i+1)).map V.ref))=HE at sE sE' wE ⊢;have TE:=TD0.same sE';left;refine cw (nm:=D.nm) (TD.same sE') (kq TE wE) ?_;have h1E:=sE _ _ h1C;left;have BE:Qe P w K Caa Cab Cac HE x k p kv2 n2 "now" v2 D os2 (L.take (i+1)) [] false:=⟨hhC.same sE,hvC,SC'.same sE,G1⟩
           refine⟨x,k,p,kv2,n2,"now",v2,D,os2,L.take (i+1),[],false,rfl,BE,λb2 HF hb2 sF wF=>?_⟩;have TF:=TE.same sF;obtain⟨q0,eq0⟩:∃q0,qd[i]?=some q0:=⟨_,List.getElem?_eq_getElem (by rw[TE.ln,hLl];omega)⟩
           obtain⟨z0,ez0,wq0⟩:=TF.it i q0 eq0;obtain rfl:z=z0:=Option.some.inj (ez.symm.trans ez0);left;refine gc TF.ls (kc (by rw[List.getElem?_map,eq0];rfl)) ?_;have wF':HF b2=some (lstG (ngS D.nm) (Ma D.c (L.take (i+1)))):=wF;rw[show Ma D.c (L.take (i+1))=z by rw[BR.Ka ez];exact Fj]at wF';refine Uq (l:=z) (nm:=D.nm) wF' wq0 ?_;left;exact⟨kv2,v2,os2,n2,_,by omega,FC.tr (Fr4.ofS (sE.tr sF)),DC.same (sE.tr sF),hhC.same (sE.tr sF),by omega,klC,hvC,SC'.same (sE.tr sF),rfl⟩
         . refine Ba (λ_=>?_) (λz=>absurd (by rw[til]) z)
           have TQ:=(oq F20 T16 ndx ndk ndp ndd nqd).same sS;obtain⟨q0,eq0⟩:∃q0,qd[i]?=some q0:=⟨_,List.getElem?_eq_getElem (by rw[TQ.ln,hLl];omega)⟩
           obtain⟨z0,ez0,wq0⟩:=TQ.it i q0 eq0;obtain rfl:z=z0:=Option.some.inj (ez.symm.trans ez0);left;refine gc TQ.ls (kc (by rw[List.getElem?_map,eq0];rfl)) ?_;left;refine⟨x,k,p,kv2,n2,"now",v2,D,os2,L.take i,hg2,rr,d,l,q0,z,rfl,D20.same sS,AP,⟨hh20.same sS,hv2,S20.same sS,G2⟩,by omega,by omega,by rw[til];exact hdr,er',zr,by rw[hcD];rw[uE]at hun;exact zp hun,zl,fit.pos.1,fit.pos.2,wq0,(nqd q0 (List.mem_of_getElem? eq0)).2.2.2,λHC kvC vC osC FB DC hhC klB hvC SC=>?_⟩;have FC:=(F20.tr (Fr4.ofS sS)).tr FB;have klC:kvC.length<=4:=by omega
           have nC':n2+rr.n<=20+61*(i+1):=by have:=fit.pos.2;omega
           rw[<-BR.Ka ez]at SC;have SC':Sit Cab Cac HC vC D osC (L.take (i+1)) [] false:=SC;have BC:Qe P w K Caa Cab Cac HC x k p kvC (n2+rr.n) "now" vC D osC (L.take (i+1)) [] false:=⟨hhC,hvC,SC',G1⟩
           obtain⟨dxC,fC,pastC,h1C,_⟩:=id hhC.ex;left;refine⟨x,k,p,kvC,(n2+rr.n),"now",vC,D,osC,L.take (i+1),[],false,rfl,BC,λst2 HD qs2 hst2 sD TD=>?_⟩;have TD0:=(oq FC T16 ndx ndk ndp ndd nqd).same sD;left;rw[show ((i:Int)+1)=((i+1:Nat):Int) from rfl];refine Uh TD0.ls ?_;rw[cq (by rw[List.length_map,TD0.ln,hLl];omega),<-List.map_take];intro s2 hs2;have sE:=sD.new (o:=.lst ((qd.take (i+1)).map V.ref)) hs2;have sE':=(Same.refl HD).new (o:=.lst ((qd.take (i+1)).map V.ref)) hs2;have wE:upd HD s2 (.lst ((qd.take (i+1)).map V.ref)) s2=some (.lst ((qd.take (i+1)).map V.ref)):=da;generalize upd HD s2 (.lst ((qd.take (i+1)).map V.ref))=HE at sE sE' wE ⊢;have TE:=TD0.same sE';left;refine cw (nm:=D.nm) (TD.same sE') (kq TE wE) ?_;have h1E:=sE _ _ h1C;left;have BE:Qe P w K Caa Cab Cac HE x k p kvC (n2+rr.n) "now" vC D osC (L.take (i+1)) [] false:=⟨hhC.same sE,hvC,SC'.same sE,G1⟩
           refine⟨x,k,p,kvC,(n2+rr.n),"now",vC,D,osC,L.take (i+1),[],false,rfl,BE,λb2 HF hb2 sF wF=>?_⟩;have TF:=TE.same sF;obtain⟨z1,ez1,wq0⟩:=TF.it i q0 eq0;obtain rfl:z=z1:=Option.some.inj (ez.symm.trans ez1);left;refine gc TF.ls (kc (by rw[List.getElem?_map,eq0];rfl)) ?_;have wF':HF b2=some (lstG (ngS D.nm) (Ma D.c (L.take (i+1)))):=wF;rw[show Ma D.c (L.take (i+1))=z by rw[BR.Ka ez];exact Fj]at wF';refine Uq (l:=z) (nm:=D.nm) wF' wq0 ?_;left;exact⟨kvC,vC,osC,(n2+rr.n),_,by omega,FC.tr (Fr4.ofS (sE.tr sF)),DC.same (sE.tr sF),hhC.same (sE.tr sF),by omega,klC,hvC,SC'.same (sE.tr sF),rfl⟩
     . rintro σ' H17 ⟨kv,v,os,n,o,_,F17,D17,hh17,nn,klv,hv,S17,rfl⟩
       rw[show ((rs.length:Int)).toNat=rs.length by omega,<-hLl,List.take_length]at S17;have GL:=good rs.length (Nat.le_refl _);rw[<-hLl,List.take_length]at GL;have B17:Qe P w K Caa Cab Cac H17 x k p kv n "now" v D os L [] false:=⟨hh17,hv,S17,GL⟩
       obtain⟨dxH,fH,pastH,h1H,_⟩:=id hh17.ex;obtain⟨h0,eh0⟩:∃h0,sf (List.range rl.length) L=[h0]:=by
        rw[hw9]at hlast;exact List.length_eq_one_iff.mp hlast
       left;refine⟨x,k,p,kv,n,"now",v,D,os,L,[],false,rfl,B17,λH18 s18=>?_⟩;rw[show L.length=D.rs.length by rw[hLl,hrD],Jv];have h1I:=s18 _ _ h1H;left;refine Ba (λ_=>?_) (λz=>absurd rfl z);left;refine⟨x,k,p,kv,n,"now",v,D,os,L,[],false,h0,rfl,⟨hh17.same s18,hv,S17.same s18,GL⟩,by rw[hLl,hrD],by unfold Ma;rw[hcD,eh0];rfl,λH19 s19=>?_⟩;have F19:=F17.tr (Fr4.ofS (s18.tr s19));have hn19:=F19 _ _ hn16 nnx nnk nnp nnd;have w19:=F19 _ _ w16 nfx nfk nfp nfd;have C19:=cr_fr4 hh16 D16 F19 C16 nax nak nap nad;left;refine Uh hn19 ?_;rw[cq (by rw[List.length_map,List.length_range];omega),<-List.map_take,show (List.range 9).take rl.length=List.range rl.length from by rw[List.take_range,Nat.min_eq_left c2]];intro f2' hf2';have s20:=(Same.refl H19).new (o:=.lst ((List.range rl.length).map λi=>V.str (nm i))) hf2';have w20:upd H19 f2' (.lst ((List.range rl.length).map λi=>V.str (nm i))) f2'=some (lstG (ngS D.nm) (List.range rl.length)):=by
        rw[da];refine congrArg (λz=>some (HO.lst z)) (List.map_congr_left λi hi=>?_);show V.str (nm i)=V.str (D.nm i);rw[hnm i (List.mem_range.mp hi)]
       generalize upd H19 f2' (.lst ((List.range rl.length).map λi=>V.str (nm i)))=H20 at s20 w20 ⊢;left;refine⟨_,_,_,_,_,_,_,_,_,rfl,NM,w20,(s20 _ _ w19),(yi _),(C19.same s20),hw9,hN,λh1' H21 eh1 s21=>?_⟩;rw[hL,eh0]at eh1;obtain rfl:h0=h1':=(List.cons.inj eh1).1;refine r_eqS ?_;rw[decide_eq_true rfl];exact q _
inductive Dn (K:PySem.W.Frag) (x:Str) (st:Stmt):Prop
 | mk {f:Addr} {od an:Option Addr} {sl:Array (Option Value)} {oc kV dc pm cd ct:Value} (a:PySem.W.nsIn K mainGlobals x=some (some (.ref f))) (l:K.lookup f=some ⟨oc,od,.func (PySem.W.fnOf x x (xc st) (qa st) (la st) .none kV dc pm an cd ct),sl⟩) (c:PySem.W.codeIn K cd x=true) (k:PySem.W.keepIn K (.ref f)=true):Dn K x st
theorem Dn.up{h:Heap}{x:Str}{st:Stmt}(D:Dn K x st)(X:K.In h)(G:h.Ns mainGlobals mg){ps:List Str}(b:∀(kV doc pm:Value) (an:Option Addr) (cdv ct:Value) (us:List Value),us.length=ps.length->bindArgs (PySem.W.fnOf x x (xc st) (qa st) (la st) .none kV doc pm an cdv ct) ⟨us,[]⟩=pure (ps.zip us)):Up K mg x st ps:=by
 cases D with
 | mk a l c k=>exact up_mk X G a l c k b
inductive Dm (K:PySem.W.Frag) (C:Addr) (m qual:Str) (st:Stmt):Prop
 | mk {f:Addr} {od an:Option Addr} {sl:Array (Option Value)} {oc kV dc pm cd ct:Value} (a:PySem.W.findIn K (.ref C) m=some (some (.ref f))) (n:PySem.W.isFn K (.ref f)=true) (l:K.lookup f=some ⟨oc,od,.func (PySem.W.fnOf m qual (xc st) (qa st) (la st) .none kV dc pm an cd ct),sl⟩) (c:PySem.W.codeIn K cd qual=true) (k:PySem.W.keepIn K (.ref f)=true):Dm K C m qual st
theorem Dm.upM{C:Addr}{m qual:Str}{st:Stmt}(D:Dm K C m qual st)(c:Cls K C){ps:List Str}(b:∀(kV doc pm:Value) (an:Option Addr) (cdv ct:Value) (us:List Value),us.length=ps.length->bindArgs (PySem.W.fnOf m qual (xc st) (qa st) (la st) .none kV doc pm an cdv ct) ⟨us,[]⟩=pure (ps.zip us)):UpM K C m qual st ps:=by
 cases D with
 | mk a n l cc k=>exact⟨_,_,um l cc k,c,⟨a,n,k⟩,(um l cc k).binds b⟩
theorem Dm.upN{C:Addr}{x qual:Str}{st:Stmt}(D:Dm K C "__init__" qual st)(h1:PySem.W.makesIn K C=true)(h2:PySem.W.keepIn K (.ref C)=true)(hm:mg x=some (.ref C)){ps:List Str}(b:∀(kV doc pm:Value) (an:Option Addr) (cdv ct:Value) (us:List Value),us.length=ps.length->bindArgs (PySem.W.fnOf "__init__" qual (xc st) (qa st) (la st) .none kV doc pm an cdv ct) ⟨us,[]⟩=pure (ps.zip us)):UpN K mg C x qual st ps:=by
 cases D with
 | mk a n l cc k=>exact⟨_,_,um l cc k,⟨h1,a,n,h2⟩,hm,(um l cc k).binds b⟩
theorem us0{P:List Value->Prop}(h:P []):∀us:List Value,us.length=0->P us:=λus e=>List.length_eq_zero_iff.mp e▸h
theorem usS{n:Nat}{P:List Value->Prop}(h:∀(a:Value) (us:List Value),us.length=n->P (a::us)):∀us:List Value,us.length=n+1->P us:=λus e=>by
 cases us
 . cases e
 . exact h _ _ (Nat.succ.inj e)
theorem us1{P:List Value->Prop}(h:∀a0:Value,P [a0]):∀us:List Value,us.length=1->P us:=usS λa0=>us0 (h a0)
theorem us2{P:List Value->Prop}(h:∀a0 a1:Value,P [a0,a1]):∀us:List Value,us.length=2->P us:=usS λa0=>usS λa1=>us0 (h a0 a1)
theorem us3{P:List Value->Prop}(h:∀a0 a1 a2:Value,P [a0,a1,a2]):∀us:List Value,us.length=3->P us:=usS λa0=>usS λa1=>usS λa2=>us0 (h a0 a1 a2)
theorem us4{P:List Value->Prop}(h:∀a0 a1 a2 a3:Value,P [a0,a1,a2,a3]):∀us:List Value,us.length=4->P us:=usS λa0=>usS λa1=>usS λa2=>usS λa3=>us0 (h a0 a1 a2 a3)
theorem us5{P:List Value->Prop}(h:∀a0 a1 a2 a3 a4:Value,P [a0,a1,a2,a3,a4]):∀us:List Value,us.length=5->P us:=usS λa0=>usS λa1=>usS λa2=>usS λa3=>usS λa4=>us0 (h a0 a1 a2 a3 a4)
theorem all_mk{l:PySem.W.OpenLaw}{w:World}{K:PySem.W.Frag}{h:Heap}{mg:Str->Option Value}{fa:Addr}{Cac Cab Caa:Addr}(X:K.In h)(G:h.Ns mainGlobals mg)(hfa:mg "law"=some (.ref fa))
 (D0:Dn K "ways" Mq)
 (D1:Dn K "with_first" ve)
 (D2:Dn K "pick" Oq)
 (D3:Dn K "fits_vote" Df)
 (D4:Dn K "fits" Qq)
 (D5:Dn K "sizes" Sm)
 (D6:Dn K "sizes_ahead" Ed)
 (D7:Dn K "whole" Rm)
 (D8:Dn K "need_whole" we)
 (D9:Dn K "round_draws" Fd)
 (D10:Dn K "draws_row" Ef)
 (D11:Dn K "draws" Um)
 (D12:Dn K "parted" ak)
 (D13:Dn K "side" Nq)
 (D14:Dn K "marks_of" xg)
 (D15:Dn K "friends_among" Dc)
 (D16:Dn K "seated_by" Cf)
 (D17:Dn K "bench_undrawn" Ec)
 (D18:Dn K "drawn_out_of" Uc)
 (D19:Dn K "bench_behind" Vc)
 (D20:Dn K "benches" Sh)
 (D21:Dn K "head" Pq)
 (D22:Dm K Cac "__init__" "Terms.__init__" Ae)
 (D23:Dm K Cac "names_at" "Terms.names_at" wc)
 (D24:Dm K Cab "__init__" "Sitting.__init__" Yc)
 (D25:Dm K Cab "step" "Sitting.step" Wc)
 (D26:Dm K Cab "sat_last" "Sitting.sat_last" Wb)
 (D27:Dm K Cab "left" "Sitting.left" Xc)
 (D28:Dm K Cab "due_now" "Sitting.due_now" ic)
 (D29:Dm K Cab "bench_now" "Sitting.bench_now" Ob)
 (D30:Dm K Cab "waiting_now" "Sitting.waiting_now" Eb)
 (D31:Dm K Cab "drawn_now" "Sitting.drawn_now" Nb)
 (D32:Dm K Cab "story_so_far" "Sitting.story_so_far" Ab)
 (D33:Dm K Cab "head_made" "Sitting.head_made" Mb)
 (D34:Dm K Cab "with_bench" "Sitting.with_bench" Kb)
 (D35:Dm K Cab "behind_ball" "Sitting.behind_ball" Gb)
 (D36:Dm K Cab "behind_poll" "Sitting.behind_poll" Fb)
 (D37:Dn K "is_name" Rh)
 (D38:Dn K "need_names" ze)
 (D39:Dn K "may_fit" Oh)
 (D40:Dn K "marks_in" yg)
 (D41:Dm K Caa "__init__" "House.__init__" Ce)
 (D42:Dm K Caa "put" "House.put" Ff)
 (D43:Dm K Caa "do" "House.do" zg)
 (D44:Dm K Caa "bound_clans" "House.bound_clans" Pb)
 (D45:Dm K Caa "laid_steps" "House.laid_steps" Xb)
 (D46:Dm K Caa "sitting" "House.sitting" Hc)
 (D47:Dm K Caa "enroll" "House.enroll" jd)
 (D48:Dm K Caa "league" "House.league" Zc)
 (D49:Dm K Caa "lay" "House.lay" Gf)
 (D50:Dm K Caa "begin" "House.begin" Ld)
 (D51:Dm K Caa "draw" "House.draw" Ee)
 (D52:Dm K Caa "poll" "House.poll" Be)
 (D53:Dm K Caa "friends" "House.friends" Ic)
 (D54:Dm K Caa "due" "House.due" Jf)
 (D55:Dm K Caa "bench" "House.bench" Kd)
 (D56:Dm K Caa "waiting" "House.waiting" Fc)
 (D57:Dm K Caa "drawn" "House.drawn" Jd)
 (D58:Dm K Caa "head" "House.head" De)
 (D59:Dm K Caa "story" "House.story" Hd)
 (D60:Dn K "_law_begin" Ph)
 (D61:Dn K "_law_take" ck)
 (D62:Dn K "_law_step" fk)
 (D63:Dn K "_law_last" ik)
 (D64:Dn K "_law_whole_row" Gd)
 (D65:Dn K "_law_pool" gk)
 (D66:Dn K "_law_balls" Qh)
 (D67:Dn K "law" ju)
 (kAt:PySem.W.nsIn K mainGlobals "abs"=some none)
 (z_all:PySem.W.nsIn K mainGlobals "all"=some none)
 (kAs:PySem.W.nsIn K mainGlobals "divmod"=some none)
 (kAp:PySem.W.nsIn K mainGlobals "enumerate"=some none)
 (kAr:PySem.W.nsIn K mainGlobals "len"=some none)
 (kAv:PySem.W.nsIn K mainGlobals "list"=some none)
 (kAu:PySem.W.nsIn K mainGlobals "min"=some none)
 (kAn:PySem.W.nsIn K mainGlobals "range"=some none)
 (z_set:PySem.W.nsIn K mainGlobals "set"=some none)
 (kAy:PySem.W.nsIn K mainGlobals "sorted"=some none)
 (kAx:PySem.W.nsIn K mainGlobals "tuple"=some none)
 (kAq:PySem.W.nsIn K mainGlobals "zip"=some none)
 {t_LONGEST_NAME:Tok}(kAk:PySem.W.nsIn K mainGlobals "LONGEST_NAME"=some (some (.int 8 t_LONGEST_NAME)))
 {t_MOST_ON_ROLL:Tok}(kAj:PySem.W.nsIn K mainGlobals "MOST_ON_ROLL"=some (some (.int 60 t_MOST_ON_ROLL)))
 {t_MOST_PEOPLE:Tok}(kAg:PySem.W.nsIn K mainGlobals "MOST_PEOPLE"=some (some (.int 500 t_MOST_PEOPLE)))
 {t_MOST_ROUNDS:Tok}(kAi:PySem.W.nsIn K mainGlobals "MOST_ROUNDS"=some (some (.int 20 t_MOST_ROUNDS)))
 {t_MOST_SEATS:Tok}(kAf:PySem.W.nsIn K mainGlobals "MOST_SEATS"=some (some (.int 60 t_MOST_SEATS)))
 {A_ROLL:Addr}{t_ROLL_0 t_ROLL_1:Tok}{od_ROLL:Option Addr}{nn_ROLL:Nat}{sl_ROLL:Array (Option Value)}(kAe:PySem.W.nsIn K mainGlobals "ROLL"=some (some (.ref A_ROLL)))(kAm:K.lookup A_ROLL=some ⟨.type "tuple",od_ROLL,.seq ⟨[.str "roll" t_ROLL_0,.str "" t_ROLL_1]⟩ nn_ROLL,sl_ROLL⟩)
 {A_WORDS:Addr}{t_WORDS_0 t_WORDS_1 t_WORDS_2:Tok}{od_WORDS:Option Addr}{nn_WORDS:Nat}{sl_WORDS:Array (Option Value)}(kAh:PySem.W.nsIn K mainGlobals "WORDS"=some (some (.ref A_WORDS)))(kAw:K.lookup A_WORDS=some ⟨.type "tuple",od_WORDS,.seq ⟨[.str "council" t_WORDS_0,.str "bench" t_WORDS_1,.str "stay" t_WORDS_2]⟩ nn_WORDS,sl_WORDS⟩)
 (o_Terms_0:PySem.W.nsIn K mainGlobals "Terms"=some (some (.ref Cac)))(o_Terms_1:PySem.W.plainGet K Cac Str.empty=true)(o_Terms_2:PySem.W.hasDictIn K Cac=true)(o_Terms_3:PySem.W.plainOver K Cac=true)(o_Terms_4:PySem.W.findIn K (.ref Cac) "__setattr__"=some (some (.builtin "object.__setattr__")))(o_Terms_5:PySem.W.makesIn K Cac=true)(o_Terms_6:PySem.W.keepIn K (.ref Cac)=true)
 (o_Sitting_0:PySem.W.nsIn K mainGlobals "Sitting"=some (some (.ref Cab)))(o_Sitting_1:PySem.W.plainGet K Cab Str.empty=true)(o_Sitting_2:PySem.W.hasDictIn K Cab=true)(o_Sitting_3:PySem.W.plainOver K Cab=true)(o_Sitting_4:PySem.W.findIn K (.ref Cab) "__setattr__"=some (some (.builtin "object.__setattr__")))(o_Sitting_5:PySem.W.makesIn K Cab=true)(o_Sitting_6:PySem.W.keepIn K (.ref Cab)=true)
 (o_House_0:PySem.W.nsIn K mainGlobals "House"=some (some (.ref Caa)))(o_House_1:PySem.W.plainGet K Caa Str.empty=true)(o_House_2:PySem.W.hasDictIn K Caa=true)(o_House_3:PySem.W.plainOver K Caa=true)(o_House_4:PySem.W.findIn K (.ref Caa) "__setattr__"=some (some (.builtin "object.__setattr__")))(o_House_5:PySem.W.makesIn K Caa=true)(o_House_6:PySem.W.keepIn K (.ref Caa)=true)
 (h_fl_roll:PySem.W.findIn K (.ref Cac) "roll"=some none)
 (h_fl_marks:PySem.W.findIn K (.ref Cac) "marks"=some none)
 (h_fl_steps:PySem.W.findIn K (.ref Cac) "steps"=some none)
 (h_fl_worthy:PySem.W.findIn K (.ref Cac) "worthy"=some none)
 (h_fl_terms:PySem.W.findIn K (.ref Cab) "terms"=some none)
 (h_fl_over:PySem.W.findIn K (.ref Cab) "over"=some none)
 (h_fl_balls:PySem.W.findIn K (.ref Cab) "balls"=some none)
 (h_fl_hangs:PySem.W.findIn K (.ref Cab) "hangs"=some none)
 (h_fl_kept:PySem.W.findIn K (.ref Caa) "kept"=some none)
 (h_fl_past:PySem.W.findIn K (.ref Caa) "past"=some none)
 (h_fl_future:PySem.W.findIn K (.ref Caa) "future"=some none)
 : ∃fd:FuncData,(∀(s:Shared) (v:Value),BindsTo s fd ⟨[v],[]⟩ [("_law_script",v)])/\∀base:Heap,K.In base->base.Ns mainGlobals mg->FnOk l.prog w K mg base CX0 9 fa fd ["_law_script"] (Aq K):=by
 have T:Txt K mg Cac Cab Caa:=⟨PySem.W.mg_none_of X G kAt,PySem.W.mg_none_of X G z_all,PySem.W.mg_none_of X G kAs,PySem.W.mg_none_of X G kAp,PySem.W.mg_none_of X G kAr,PySem.W.mg_none_of X G kAv,PySem.W.mg_none_of X G kAu,PySem.W.mg_none_of X G kAn,PySem.W.mg_none_of X G z_set,PySem.W.mg_none_of X G kAy,PySem.W.mg_none_of X G kAx,PySem.W.mg_none_of X G kAq,⟨_,PySem.W.mg_of X G kAk⟩,⟨_,PySem.W.mg_of X G kAj⟩,⟨_,PySem.W.mg_of X G kAg⟩,⟨_,PySem.W.mg_of X G kAi⟩,⟨_,PySem.W.mg_of X G kAf⟩,⟨_,PySem.W.mg_of X G kAe,⟨_,_,_,kAm,rfl,rfl,by show 2<=sizeLine;decide,.cons ⟨_,rfl⟩ (.cons ⟨_,rfl⟩ .nil)⟩⟩,⟨_,PySem.W.mg_of X G kAh,⟨_,_,_,kAw,rfl,rfl,by show 3<=sizeLine;decide,.cons ⟨_,rfl⟩ (.cons ⟨_,rfl⟩ (.cons ⟨_,rfl⟩ .nil))⟩⟩,⟨⟨o_Terms_1,o_Terms_2,o_Terms_3,o_Terms_4⟩,h_fl_roll⟩,⟨⟨o_Terms_1,o_Terms_2,o_Terms_3,o_Terms_4⟩,h_fl_marks⟩,⟨⟨o_Terms_1,o_Terms_2,o_Terms_3,o_Terms_4⟩,h_fl_steps⟩,⟨⟨o_Terms_1,o_Terms_2,o_Terms_3,o_Terms_4⟩,h_fl_worthy⟩,⟨⟨o_Sitting_1,o_Sitting_2,o_Sitting_3,o_Sitting_4⟩,h_fl_terms⟩,⟨⟨o_Sitting_1,o_Sitting_2,o_Sitting_3,o_Sitting_4⟩,h_fl_over⟩,⟨⟨o_Sitting_1,o_Sitting_2,o_Sitting_3,o_Sitting_4⟩,h_fl_balls⟩,⟨⟨o_Sitting_1,o_Sitting_2,o_Sitting_3,o_Sitting_4⟩,h_fl_hangs⟩,⟨⟨o_House_1,o_House_2,o_House_3,o_House_4⟩,h_fl_kept⟩,⟨⟨o_House_1,o_House_2,o_House_3,o_House_4⟩,h_fl_past⟩,⟨⟨o_House_1,o_House_2,o_House_3,o_House_4⟩,h_fl_future⟩⟩
 have U_law:Up K mg "law" ju ["_law_script"]:=D67.up X G λ_ _ _ _ _ _=>us1 λ_=>rfl;refine law_fn U_law hfa (λbase kb nb f fd F=>?_) (λ_ _ _ _ _ _ s u=>.of_eq rfl);have Can:Uo l.prog w K mg base:=Py T (D0.up X G λ_ _ _ _ _ _=>us2 λ_ _=>rfl);have Cb0:Se l.prog w K mg base:=zk T (D1.up X G λ_ _ _ _ _ _=>us3 λ_ _ _=>rfl);have Cbs:Wf l.prog w K mg base:=fm T (D3.up X G λ_ _ _ _ _ _=>us5 λ_ _ _ _ _=>rfl);have Caz:Dt l.prog w K mg base:=Qy T (D13.up X G λ_ _ _ _ _ _=>us3 λ_ _ _=>rfl);have Cbb:Og l.prog w K mg base:=mn T (D14.up X G λ_ _ _ _ _ _=>us2 λ_ _=>rfl);have Ca1:Nc l.prog w K mg base:=lh T (D15.up X G λ_ _ _ _ _ _=>us2 λ_ _=>rfl);have Cay:Vf l.prog w K mg base:=dm T (D16.up X G λ_ _ _ _ _ _=>us3 λ_ _ _=>rfl);have Cao:qc l.prog w K mg base:=ei T (D18.up X G λ_ _ _ _ _ _=>us3 λ_ _ _=>rfl);have Cbi:Te l.prog w K mg base Cac:=Ck T (D22.upN o_Terms_5 o_Terms_6 (PySem.W.mg_of X G o_Terms_0) λ_ _ _ _ _ _=>us4 λ_ _ _ _=>rfl);have Cak:fb l.prog w K mg base Cac:=Fg T (D23.upM ⟨o_Terms_1,o_Terms_2,o_Terms_3,o_Terms_4⟩ λ_ _ _ _ _ _=>us2 λ_ _=>rfl);have Cai:zb l.prog w K mg base Cab:=ki T (D24.upN o_Sitting_5 o_Sitting_6 (PySem.W.mg_of X G o_Sitting_0) λ_ _ _ _ _ _=>us5 λ_ _ _ _ _=>rfl);have Caj:yb l.prog w K mg base Cab Cac:=gi T (D25.upM ⟨o_Sitting_1,o_Sitting_2,o_Sitting_3,o_Sitting_4⟩ λ_ _ _ _ _ _=>us1 λ_=>rfl);have Cal:jb l.prog w K mg base Cab Cac:=Of T (D26.upM ⟨o_Sitting_1,o_Sitting_2,o_Sitting_3,o_Sitting_4⟩ λ_ _ _ _ _ _=>us1 λ_=>rfl);have Cbw:Mi l.prog w K mg base:=Lp T (D37.up X G λ_ _ _ _ _ _=>us1 λ_=>rfl);have Cbh:Ji l.prog w K mg base:=Ip T (D39.up X G λ_ _ _ _ _ _=>us1 λ_=>rfl);have Cb4:Pg l.prog w K mg base:=vn T (D40.up X G λ_ _ _ _ _ _=>us2 λ_ _=>rfl);have Cbe:Ve l.prog w K mg base Caa:=Ek T (D41.upN o_House_5 o_House_6 (PySem.W.mg_of X G o_House_0) λ_ _ _ _ _ _=>us1 λ_=>rfl);have Cb7:Xf l.prog w K mg base Caa:=jm T (D42.upM ⟨o_House_1,o_House_2,o_House_3,o_House_4⟩ λ_ _ _ _ _ _=>us3 λ_ _ _=>rfl);have Car:xb l.prog w K mg base Caa:=qf T (D44.upM ⟨o_House_1,o_House_2,o_House_3,o_House_4⟩ λ_ _ _ _ _ _=>us2 λ_ _=>rfl);have Cbu:fc l.prog w K mg base Caa:=Pf T (D45.upM ⟨o_House_1,o_House_2,o_House_3,o_House_4⟩ λ_ _ _ _ _ _=>us2 λ_ _=>rfl);have Cae:Na l.prog w K mg base Caa:=oh T (D46.upM ⟨o_House_1,o_House_2,o_House_3,o_House_4⟩ λ_ _ _ _ _ _=>us2 λ_ _=>rfl);have Ca9:Ki l.prog w K mg base:=Jp T (D60.up X G λ_ _ _ _ _ _=>us1 λ_=>rfl);have Cad:Tc l.prog w K mg base:=Nr T (D61.up X G λ_ _ _ _ _ _=>us2 λ_ _=>rfl);have Cb6:Et l.prog w K mg base:=Ry T (D2.up X G λ_ _ _ _ _ _=>us3 λ_ _ _=>rfl) Can Cb0;have Cbt:Jt l.prog w K mg base:=Uy T (D4.up X G λ_ _ _ _ _ _=>us3 λ_ _ _=>rfl) Cbs;have Cbp:Td l.prog w K mg base:=Yi T (D9.up X G λ_ _ _ _ _ _=>us3 λ_ _ _=>rfl) Can;have Cap:bc l.prog w K mg base:=mh T (D17.up X G λ_ _ _ _ _ _=>us3 λ_ _ _=>rfl) Caz Ca1 Cay;have Cag:Ra l.prog w K mg base Cab Cac:=ig T (D28.upM ⟨o_Sitting_1,o_Sitting_2,o_Sitting_3,o_Sitting_4⟩ λ_ _ _ _ _ _=>us1 λ_=>rfl) Caj;have Cat:wb l.prog w K mg base Cab Cac:=pf T (D29.upM ⟨o_Sitting_1,o_Sitting_2,o_Sitting_3,o_Sitting_4⟩ λ_ _ _ _ _ _=>us1 λ_=>rfl) Cak Cal;have Cb5:Sb l.prog w K mg base Cab Cac:=mf T (D31.upM ⟨o_Sitting_1,o_Sitting_2,o_Sitting_3,o_Sitting_4⟩ λ_ _ _ _ _ _=>us1 λ_=>rfl) Cak;have Ca3:Cb l.prog w K mg base Cab Cac:=Od T (D32.upM ⟨o_Sitting_1,o_Sitting_2,o_Sitting_3,o_Sitting_4⟩ λ_ _ _ _ _ _=>us1 λ_=>rfl) Cak;have Cah:Ub l.prog w K mg base:=Bk T (D38.up X G λ_ _ _ _ _ _=>us1 λ_=>rfl) Cbw;have Caf:Vb l.prog w K mg base Caa:=yn T (D43.upM ⟨o_House_1,o_House_2,o_House_3,o_House_4⟩ λ_ _ _ _ _ _=>us4 λ_ _ _ _=>rfl) Cb7;have Cbr:Pc l.prog w K mg base Caa:=ph T (D53.upM ⟨o_House_1,o_House_2,o_House_3,o_House_4⟩ λ_ _ _ _ _ _=>us2 λ_ _=>rfl) Car;have Cby:il l.prog w K mg base:=Pr T (D62.up X G λ_ _ _ _ _ _=>us4 λ_ _ _ _=>rfl) Cad;have Cbo:xl l.prog w K mg base:=Rr T (D63.up X G λ_ _ _ _ _ _=>us2 λ_ _=>rfl) Cad;have Ca5:jl l.prog w K mg base:=Qr T (D65.up X G λ_ _ _ _ _ _=>us2 λ_ _=>rfl) Cad;have Ca2:Yn l.prog w K mg base:=Tu T (D5.up X G λ_ _ _ _ _ _=>us2 λ_ _=>rfl) Cbt;have Cbd:sd l.prog w K mg base:=fi T (D19.up X G λ_ _ _ _ _ _=>us4 λ_ _ _ _=>rfl) Cb6 Cap Cao;have Cb1:ud l.prog w K mg base Cab Cac:=ji T (D27.upM ⟨o_Sitting_1,o_Sitting_2,o_Sitting_3,o_Sitting_4⟩ λ_ _ _ _ _ _=>us1 λ_=>rfl) Cao Caj Cal Cag;have Cbq:Rb l.prog w K mg base Cab Cac:=kf T (D33.upM ⟨o_Sitting_1,o_Sitting_2,o_Sitting_3,o_Sitting_4⟩ λ_ _ _ _ _ _=>us1 λ_=>rfl) Cag Cat;have Caw:qb l.prog w K mg base Cab Cac:=Je T (D34.upM ⟨o_Sitting_1,o_Sitting_2,o_Sitting_3,o_Sitting_4⟩ λ_ _ _ _ _ _=>us2 λ_ _=>rfl) Cai;have Cbj:wd l.prog w K mg base Caa:=ni T (D47.upM ⟨o_House_1,o_House_2,o_House_3,o_House_4⟩ λ_ _ _ _ _ _=>us3 λ_ _ _=>rfl) Cah Caf;have Cbv:vd l.prog w K mg base Caa:=mi T (D48.upM ⟨o_House_1,o_House_2,o_House_3,o_House_4⟩ λ_ _ _ _ _ _=>us3 λ_ _ _=>rfl) Cah Caf;have Cbg:Yf l.prog w K mg base Caa:=km T (D49.upM ⟨o_House_1,o_House_2,o_House_3,o_House_4⟩ λ_ _ _ _ _ _=>us3 λ_ _ _=>rfl) Cah Cbh Caf;have Cam:Yd l.prog w K mg base Caa Cab Cac:=om T (D54.upM ⟨o_House_1,o_House_2,o_House_3,o_House_4⟩ λ_ _ _ _ _ _=>us2 λ_ _=>rfl) Cag Cae;have Cbk:ae l.prog w K mg base Caa Cab Cac:=cj T (D55.upM ⟨o_House_1,o_House_2,o_House_3,o_House_4⟩ λ_ _ _ _ _ _=>us2 λ_ _=>rfl) Cat Cae;have Ca8:Zd l.prog w K mg base Caa Cab Cac:=bj T (D57.upM ⟨o_House_1,o_House_2,o_House_3,o_House_4⟩ λ_ _ _ _ _ _=>us2 λ_ _=>rfl) Cb5 Cae;have Ca0:Xd l.prog w K mg base Caa Cab Cac:=aj T (D59.upM ⟨o_House_1,o_House_2,o_House_3,o_House_4⟩ λ_ _ _ _ _ _=>us2 λ_ _=>rfl) Ca3 Cae;have Cbl:Ud l.prog w K mg base:=Zi T (D64.up X G λ_ _ _ _ _ _=>us4 λ_ _ _ _=>rfl) Cad Cby Cbo;have Cas:Cc l.prog w K mg base:=Xi T (D6.up X G λ_ _ _ _ _ _=>us2 λ_ _=>rfl) Ca2;have Cau:ib l.prog w K mg base Cab Cac:=pe T (D30.upM ⟨o_Sitting_1,o_Sitting_2,o_Sitting_3,o_Sitting_4⟩ λ_ _ _ _ _ _=>us1 λ_=>rfl) Cak Cb1;have Cbz:Ib l.prog w K mg base Cab Cac:=qe T (D36.upM ⟨o_Sitting_1,o_Sitting_2,o_Sitting_3,o_Sitting_4⟩ λ_ _ _ _ _ _=>us1 λ_=>rfl) Cap Cai Caj Cal Cag Caw;have Cbx:We l.prog w K mg base Caa Cab Cac:=Gk T (D58.upM ⟨o_House_1,o_House_2,o_House_3,o_House_4⟩ λ_ _ _ _ _ _=>us2 λ_ _=>rfl) Cbq Cae;have Cbf:Xn l.prog w K mg base:=Su T (D7.up X G λ_ _ _ _ _ _=>us2 λ_ _=>rfl) Cas;have Caq:Vd l.prog w K mg base:=gm T (D10.up X G λ_ _ _ _ _ _=>us2 λ_ _=>rfl) Cas Cbp;have Cbc:Jb l.prog w K mg base Cab Cac:=se T (D35.upM ⟨o_Sitting_1,o_Sitting_2,o_Sitting_3,o_Sitting_4⟩ λ_ _ _ _ _ _=>us2 λ_ _=>rfl) Cai Caj Cag Cau Caw;have Ca7:Ue l.prog w K mg base Caa Cab Cac:=Dk T (D52.upM ⟨o_House_1,o_House_2,o_House_3,o_House_4⟩ λ_ _ _ _ _ _=>us2 λ_ _=>rfl) Cbz Caf Cae;have Cbm:Oc l.prog w K mg base Caa Cab Cac:=nh T (D56.upM ⟨o_House_1,o_House_2,o_House_3,o_House_4⟩ λ_ _ _ _ _ _=>us2 λ_ _=>rfl) Cau Cae;have Cax:Rc l.prog w K mg base:=Ak T (D8.up X G λ_ _ _ _ _ _=>us2 λ_ _=>rfl) Cbf;have Ca4:Zn l.prog w K mg base:=Uu T (D11.up X G λ_ _ _ _ _ _=>us2 λ_ _=>rfl) Caq;have Cba:Zk l.prog w K mg base:=Mr T (D12.up X G λ_ _ _ _ _ _=>us3 λ_ _ _=>rfl) Caq;have Ca6:Xe l.prog w K mg base Caa Cab Cac:=Hk T (D51.upM ⟨o_House_1,o_House_2,o_House_3,o_House_4⟩ λ_ _ _ _ _ _=>us3 λ_ _ _=>rfl) Cbc Caf Cae;have Cav:sg l.prog w K mg base:=Mp T (D20.up X G λ_ _ _ _ _ _=>us4 λ_ _ _ _=>rfl) Cax Cba Cbb Cbd;have Cbn:de l.prog w K mg base Caa Cab Cac:=dj T (D50.upM ⟨o_House_1,o_House_2,o_House_3,o_House_4⟩ λ_ _ _ _ _ _=>us4 λ_ _ _ _=>rfl) Cax Cbi Cai Cah Cb4 Caf Car Cbu;have Cb3:Li l.prog w K mg base Caa Cab Cac:=Kp T (D66.up X G λ_ _ _ _ _ _=>us4 λ_ _ _ _=>rfl) Ca6 Cam Cbm Ca8 Cad;have Cb2:Ht l.prog w K mg base:=Sy T (D21.up X G λ_ _ _ _ _ _=>us4 λ_ _ _ _=>rfl) Cav;exact ok_law T F Ca4 Cav Cb2 Cbe Cbj Cbv Cbg Cbn Ca7 Cbr Cam Cbk Cbx Ca0 Ca9 Cad Cbl Ca5 Cb3
end K40
namespace PySem.W.Fast
theorem tw13417716059370257826:True:=⟨⟩
theorem tw1931915267908800809:True:=⟨⟩
theorem tw2261832032729966304:True:=⟨⟩
theorem tw5107068263741234049:True:=⟨⟩
theorem tw15107376732980870046:True:=⟨⟩
theorem tw17642068502532384583:True:=⟨⟩
theorem tw17222703324910961653:True:=⟨⟩
theorem tw17486929835177362805:True:=⟨⟩
theorem tw7704953149345387761:True:=⟨⟩
theorem tw7871774813989281944:True:=⟨⟩
theorem tw12282163466414036195:True:=⟨⟩
theorem tw10693058534867071372:True:=⟨⟩
theorem tw18266566322903847095:True:=⟨⟩
theorem tw2398505042342597356:True:=⟨⟩
theorem tw9417899801092725565:True:=⟨⟩
theorem tw6258756631831146176:True:=⟨⟩
theorem tw670470450543053069:True:=⟨⟩
theorem tw3333910451669538367:True:=⟨⟩
theorem tw11481675941650252813:True:=⟨⟩
theorem tw960008373196572495:True:=⟨⟩
theorem tw15133666465360840798:True:=⟨⟩
theorem tw1663393064580576751:True:=⟨⟩
theorem tw13772766818195824090:True:=⟨⟩
theorem tw10607057396642808898:True:=⟨⟩
theorem tw6931564028950013546:True:=⟨⟩
theorem tw6140409422979489000:True:=⟨⟩
theorem tw14629839218368000637:True:=⟨⟩
theorem tw5567011432681700659:True:=⟨⟩
theorem tw3502490327231390569:True:=⟨⟩
theorem tw7205342517733828864:True:=⟨⟩
theorem tw15962274678155436079:True:=⟨⟩
theorem tw13338445939638433781:True:=⟨⟩
theorem tw9719657894151679091:True:=⟨⟩
theorem tw15792220803868752137:True:=⟨⟩
theorem tw9490274806662947932:True:=⟨⟩
theorem tw11364403631155397247:True:=⟨⟩
theorem tw5079424922033280886:True:=⟨⟩
theorem tw14528894323171116997:True:=⟨⟩
theorem tw13929277493769072430:True:=⟨⟩
theorem tw9609379461110765228:True:=⟨⟩
theorem tw7001310028513728174:True:=⟨⟩
theorem tw2865913879388360243:True:=⟨⟩
theorem tw789379593671194457:True:=⟨⟩
theorem tw9057049075032447383:True:=⟨⟩
theorem tw1535368049951519065:True:=⟨⟩
theorem tw15628379730446999949:True:=⟨⟩
theorem tw10139407830233269183:True:=⟨⟩
theorem tw4372701164503692352:True:=⟨⟩
theorem tw16634663016136270392:True:=⟨⟩
theorem tw8010171253758303566:True:=⟨⟩
theorem tw3773102437913609476:True:=⟨⟩
theorem tw17276741199598976323:True:=⟨⟩
theorem tw12471424838740297480:True:=⟨⟩
theorem tw6409026172514297622:True:=⟨⟩
theorem tw5654098420788111251:True:=⟨⟩
theorem tw2618638654375699184:True:=⟨⟩
theorem tw6015863473535871631:True:=⟨⟩
theorem tw18161032153454811564:True:=⟨⟩
theorem tw16491990139298484257:True:=⟨⟩
theorem tw14822994959514590144:True:=⟨⟩
theorem tw9150493263462835227:True:=⟨⟩
theorem tw14479107845722609090:True:=⟨⟩
theorem tw1365357536745197358:True:=⟨⟩
theorem tw14309469594007245677:True:=⟨⟩
theorem tw2101317455678179947:True:=⟨⟩
theorem tw11027842654377787655:True:=⟨⟩
theorem tw6497516219147709199:True:=⟨⟩
theorem tw5262796757163305506:True:=⟨⟩
theorem tw6293820728240534259:True:=⟨⟩
theorem tw13541005771752141856:True:=⟨⟩
theorem tw14721570937953166623:True:=⟨⟩
theorem tw12720858331337072681:True:=⟨⟩
theorem tw12601665494723341732:True:=⟨⟩
theorem tw14882224938015491580:True:=⟨⟩
theorem tw163941713259777857:True:=⟨⟩
theorem tw18279235096432472486:True:=⟨⟩
theorem tw1944797610607194760:True:=⟨⟩
theorem tw11788998005292670131:True:=⟨⟩
theorem tw14626459176699313439:True:=⟨⟩
theorem tw7365731238631586526:True:=⟨⟩
theorem tw14284613364454486566:True:=⟨⟩
theorem tw10337489759613298277:True:=⟨⟩
theorem tw17435444494019829344:True:=⟨⟩
theorem tw3935993175268299218:True:=⟨⟩
theorem tw6715376667320553624:True:=⟨⟩
theorem tw9110847086845638203:True:=⟨⟩
theorem tw693833799971127319:True:=⟨⟩
theorem tw12537066435885119107:True:=⟨⟩
theorem tw17176184000646945391:True:=⟨⟩
theorem tw16039918099917639411:True:=⟨⟩
theorem tw10298652452878709848:True:=⟨⟩
theorem tw10585613518110051647:True:=⟨⟩
theorem tw9843000144367052976:True:=⟨⟩
theorem tw14538379873523418034:True:=⟨⟩
theorem tw6987568435319386279:True:=⟨⟩
theorem tw11140619827895726654:True:=⟨⟩
theorem tw462992314869176634:True:=⟨⟩
theorem tw11651934018680651172:True:=⟨⟩
theorem tw366562748631628315:True:=⟨⟩
theorem tw5022474067253861869:True:=⟨⟩
theorem tw18236945515403303874:True:=⟨⟩
theorem tw12289639282838061574:True:=⟨⟩
theorem tw11107718967532194140:True:=⟨⟩
theorem tw3540525074642591313:True:=⟨⟩
theorem tw8521973632116949604:True:=⟨⟩
theorem tw12547261718759225770:True:=⟨⟩
theorem tw17627253694265787525:True:=⟨⟩
theorem tw5753668066226351853:True:=⟨⟩
theorem tw4506568663564950894:True:=⟨⟩
theorem tw7060370793963943203:True:=⟨⟩
theorem tw14436014754416513313:True:=⟨⟩
theorem tw15732553555157779302:True:=⟨⟩
theorem tw15984942166902159939:True:=⟨⟩
end PySem.W.Fast
open PySem PySem.W PyProof.Rows
set_option maxRecDepth 100000 in
set_option maxHeartbeats 0 in
theorem PySem.Challenge.cw_ballotin_k40_whole_sittings_play_draws_holds : PySem.Challenge.rw_ballotin_k40_whole_sittings_play_draws.Holds := by
 w_on; o_law; k_head; (case hw => w_witness2)
 k_fill
 refine L2.walkC (l := PySem.Challenge.rw_ballotin_k40_whole_sittings_play_draws) (k := 9) (x := "_law_script") rfl rfl ⟨rfl, by decide, by decide⟩ (fun w h Y => PySem.W.kIn_of Y) ?F
 case F =>
  intro w mg fa h KX G hmg
  refine' K40.all_mk KX G hmg ?_ ?_ ?_ ?_ ?_ ?_ ?_ ?_ ?_ ?_ ?_ ?_ ?_ ?_ ?_ ?_ ?_ ?_ ?_ ?_ ?_ ?_ ?_ ?_ ?_ ?_ ?_ ?_ ?_ ?_ ?_ ?_ ?_ ?_ ?_ ?_ ?_ ?_ ?_ ?_ ?_ ?_ ?_ ?_ ?_ ?_ ?_ ?_ ?_ ?_ ?_ ?_ ?_ ?_ ?_ ?_ ?_ ?_ ?_ ?_ ?_ ?_ ?_ ?_ ?_ ?_ ?_ ?_ ?kAt ?z_all ?kAs ?kAp ?kAr ?kAv ?kAu ?kAn ?z_set ?kAy ?kAx ?kAq ?kAk ?kAj ?kAg ?kAi ?kAf ?kAe ?kAm ?kAh ?kAw   ?o_Terms_0 ?o_Terms_1 ?o_Terms_2 ?o_Terms_3 ?o_Terms_4 ?o_Terms_5 ?o_Terms_6 ?o_Sitting_0 ?o_Sitting_1 ?o_Sitting_2 ?o_Sitting_3 ?o_Sitting_4 ?o_Sitting_5 ?o_Sitting_6 ?o_House_0 ?o_House_1 ?o_House_2 ?o_House_3 ?o_House_4 ?o_House_5 ?o_House_6 ?h_fl_roll ?h_fl_marks ?h_fl_steps ?h_fl_worthy ?h_fl_terms ?h_fl_over ?h_fl_balls ?h_fl_hangs ?h_fl_kept ?h_fl_past ?h_fl_future
  (case kAt => k_is)
  (case z_all => k_is)
  (case kAs => k_is)
  (case kAp => k_is)
  (case kAr => k_is)
  (case kAv => k_is)
  (case kAu => k_is)
  (case kAn => k_is)
  (case z_set => k_is)
  (case kAy => k_is)
  (case kAx => k_is)
  (case kAq => k_is)
  (case kAk => k_is)
  (case kAj => k_is)
  (case kAg => k_is)
  (case kAi => k_is)
  (case kAf => k_is)
  (case kAe => k_is); (case kAm => k_is)
  (case kAh => k_is); (case kAw => k_is)
  (case o_Terms_0 => k_is); (case o_Terms_1 => k_is); (case o_Terms_2 => k_is); (case o_Terms_3 => k_is); (case o_Terms_4 => k_is); (case o_Terms_5 => k_is); (case o_Terms_6 => k_is)
  (case o_Sitting_0 => k_is); (case o_Sitting_1 => k_is); (case o_Sitting_2 => k_is); (case o_Sitting_3 => k_is); (case o_Sitting_4 => k_is); (case o_Sitting_5 => k_is); (case o_Sitting_6 => k_is)
  (case o_House_0 => k_is); (case o_House_1 => k_is); (case o_House_2 => k_is); (case o_House_3 => k_is); (case o_House_4 => k_is); (case o_House_5 => k_is); (case o_House_6 => k_is)
  (case h_fl_roll => k_is)
  (case h_fl_marks => k_is)
  (case h_fl_steps => k_is)
  (case h_fl_worthy => k_is)
  (case h_fl_terms => k_is)
  (case h_fl_over => k_is)
  (case h_fl_balls => k_is)
  (case h_fl_hangs => k_is)
  (case h_fl_kept => k_is)
  (case h_fl_past => k_is)
  (case h_fl_future => k_is)
  all_goals first | (refine' K40.Dn.mk ?a ?l ?c ?k; (case a => k_is); (case l => k_is); (case c => k_is); (case k => k_is)) | (refine' K40.Dm.mk ?a ?n ?l ?c ?k; (case a => k_is); (case n => k_is); (case l => k_is); (case c => k_is); (case k => k_is))
